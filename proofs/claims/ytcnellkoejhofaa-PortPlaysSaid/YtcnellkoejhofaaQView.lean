/-
  How the port laws' arguments are read. No conditions.
-/
import Derived.Test.YtcnellkoejhofaaRows
import Derived.Test.YtcnellkoejhofaaQAwake
import Derived.WalkKit
import Derived.ProofKit
import Derived.OpenShut
import Derived.Deep.Slices
namespace Go.Proofs.Ytcnellkoejhofaa
open Go.ChangeShapes Go.WideShapes Go.ChangeAt Go.RowKit
theorem laidOut : laidOutB Try.prog = true := by kernel_rfl
theorem cells3 : Try.prog.cellsOf 3 = 1 := by kernel_rfl
theorem cells4 : Try.prog.cellsOf 4 = 1 := by kernel_rfl
theorem int3 : Try.prog.underlying 3 = some (.int .i64) := by kernel_rfl
theorem kints_s : Try.prog.underlying 55 = some (.slice 3) := by kernel_rfl
theorem add_plain (b off j : Nat) : (⟨b, off, none⟩ : Addr).add j = ⟨b, off + j, none⟩ := by
  simp [Addr.add]
  try omega
theorem fit_wf {n : Int} (h : (Lit.int .i64 n).wf = true) : fit n := by
  simp [Lit.wf, IntKind.min, IntKind.max, IntKind.signed, IntKind.bits] at h
  unfold fit
  omega
/-- Integers that came in. -/
def ZsAt (W : World) (p : Option Addr) (len : Nat) (zs : List Int) : Prop := zs.length = len ∧ (∀ x ∈ zs, fit x) ∧ (0 < len → ∃ g o, p = some ⟨g, o, none⟩ ∧ ∀ j x, zs[j]? = some x → W.cell? ⟨g, o + j, none⟩ = some (.int .i64 x))
section
variable {H : Type} {enc : TypeId × Value → H} {W : World}
theorem zs_view {p : Option Addr} {len cap : Nat} {d : DataW H} {ps : List MemPlace} (h : DataW.Trod enc Try.prog W 0 (fun _ => true) true 55 (.slice p len cap) d ps) : ∃ zs, ZsAt W p len zs := by
  obtain ⟨fuel, hf⟩ := h
  simp only [Value.cells] at hf
  rcases open_ints kints_s int3 cells3 hf with ⟨hcs, hx⟩ | ⟨a, len', cap', zs, hcs, _, hl, hm, hz, hx, hcell, hwz⟩
  · simp at hcs
    obtain ⟨rfl, rfl, rfl⟩ := hcs
    exact ⟨[], rfl, (fun x hx => by cases hx), fun h => by omega⟩
  · simp at hcs
    obtain ⟨rfl, rfl, rfl⟩ := hcs
    simp only [if_true] at hz
    have hlen : (zs.take len).length = len := by rw [List.length_take]; omega
    refine ⟨zs.take len, hlen, fun x hx => fit_wf (hwz x (List.mem_of_mem_take hx)), fun h0 => ?_⟩
    obtain ⟨b, off, spot⟩ := a
    have hspot : spot = none := by simpa [Addr.add] using World.cell?_spot (hcell 0 (by omega))
    subst hspot
    refine ⟨b, off, rfl, fun j x hx => ?_⟩
    have hj := (List.getElem?_eq_some_iff.1 hx).1
    rw [hlen] at hj
    rw [List.getElem?_take_of_lt hj] at hx
    rw [← add_plain, hcell j (by omega), List.getD_eq_getElem?_getD, hx]
    rfl
end
end Go.Proofs.Ytcnellkoejhofaa
