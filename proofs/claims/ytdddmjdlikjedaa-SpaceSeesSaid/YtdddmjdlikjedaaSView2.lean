/-
  How a law's bytes are read. No conditions.
-/
import Derived.Test.YtdddmjdlikjedaaGViewB
import Derived.Test.YtdddmjdlikjedaaLawSee3
namespace Go.Proofs.Ytdddmjdlikjedaa
open Go.ChangeShapes Go.WideShapes Go.ChangeAt Go.RowKit

theorem scells5 : Try.prog.cellsOf 5 = 1 := by kernel_rfl
theorem su85 : Try.prog.underlying 5 = some (.int .u8) := by kernel_rfl
theorem sbyte_wf {n : Int} (h : (Lit.int .u8 n).wf = true) : 0 ≤ n ∧ n < 256 := by
  simp [Lit.wf, IntKind.min, IntKind.max, IntKind.signed, IntKind.bits] at h
  omega
section
variable {H : Type} {enc : TypeId × Value → H} {W : World}
theorem sarg_view {p : Option Addr} {len cap : Nat} {d : DataW H} {ps : List MemPlace} (h : DataW.Trod enc Try.prog W 0 (fun _ => true) true 22 (.slice p len cap) d ps) : ∃ xs : List UInt8, SArg W p len cap xs := by
  obtain ⟨fuel, hf⟩ := h
  simp only [Value.cells] at hf
  rcases open_ints bytes31 su85 scells5 hf with ⟨hcs, hx⟩ | ⟨a, len', cap', zs, hcs, _, hl, hm, hz, hx, hcell, hwz⟩
  · simp at hcs
    obtain ⟨rfl, rfl, rfl⟩ := hcs
    exact ⟨[], rfl, Nat.le_refl _, fun h => by omega⟩
  · simp at hcs
    obtain ⟨rfl, rfl, rfl⟩ := hcs
    simp only [if_true] at hz
    refine ⟨(zs.take len).map (fun z => UInt8.ofNat z.toNat), by simp; omega, hl, fun h0 => ?_⟩
    obtain ⟨b, off, spot⟩ := a
    have hspot : spot = none := by simpa [Addr.add] using World.cell?_spot (hcell 0 (by omega))
    subst hspot
    refine ⟨b, off, rfl, fun j hj => ?_⟩
    have hjz : j < zs.length := by omega
    rw [← add_plain, hcell j (by omega)]
    have hw := sbyte_wf (hwz zs[j] (List.getElem_mem hjz))
    simp only [List.getD, List.getElem?_eq_getElem hjz, List.getElem?_map, List.getElem?_take, if_pos hj, Option.map_some, Option.getD_some]
    congr 2
    rw [UInt8.toNat_ofNat']
    omega
end
end Go.Proofs.Ytdddmjdlikjedaa
