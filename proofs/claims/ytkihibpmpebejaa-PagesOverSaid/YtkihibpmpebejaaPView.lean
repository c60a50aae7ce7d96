/-
  What a law's arguments are: numbers, slices of bytes and of numbers, a struct of both. No conditions.
-/
import Derived.Test.YtkihibpmpebejaaRows
import Derived.Test.YtkihibpmpebejaaPRead
import Derived.WalkKit
import Derived.ProofKit
import Derived.OpenShut
import Derived.Deep.Slices
namespace Go.Proofs.Ytkihibpmpebejaa
open Go.ChangeShapes Go.WideShapes Go.ChangeAt Go.RowKit

theorem laidOut : laidOutB Try.prog = true := by kernel_rfl
theorem cells3 : Try.prog.cellsOf 3 = 1 := by kernel_rfl
theorem cells5 : Try.prog.cellsOf 5 = 1 := by kernel_rfl
theorem cells31 : Try.prog.cellsOf 31 = 1 := by kernel_rfl
theorem int3 : Try.prog.underlying 3 = some (.int .i64) := by kernel_rfl
theorem u85 : Try.prog.underlying 5 = some (.int .u8) := by kernel_rfl

theorem fit_wf {n : Int} (h : (Lit.int .i64 n).wf = true) : fit n := by
  simp only [Lit.wf, IntKind.min, IntKind.max, IntKind.signed, IntKind.bits, Bool.and_eq_true, decide_eq_true_eq, if_true] at h
  unfold fit
  omega
theorem byte_wf {n : Int} (h : (Lit.int .u8 n).wf = true) : 0 ≤ n ∧ n < 256 := by
  simp [Lit.wf, IntKind.min, IntKind.max, IntKind.signed, IntKind.bits] at h
  omega
theorem add_plain (b off j : Nat) : (⟨b, off, none⟩ : Addr).add j = ⟨b, off + j, none⟩ := by
  simp [Addr.add]
  try omega

section
variable {H : Type} {enc : TypeId × Value → H} {W : World}
theorem bytes_read {fuel : Nat} {cs : List Value} {x : DataW H × List MemPlace} (h : DataW.trod enc Try.prog W 0 (fun _ => true) true fuel 31 cs = some x) :
    ∃ p len cap xs, cs = [.slice p len cap] ∧ xs.length = len ∧ len ≤ maxLen ∧ Src W (.slice p len cap) xs := by
  rcases open_ints bytes31 u85 cells5 h with ⟨hcs, hx⟩ | ⟨a, len', cap', zs, hcs, _, hl, hm, hz, hx, hcell, hwz⟩
  · exact ⟨none, 0, 0, [], hcs, rfl, by unfold maxLen; omega, .inl ⟨⟨none, 0, rfl⟩, rfl⟩⟩
  · simp only [if_true] at hz
    have hbl : ((zs.take len').map (fun z => UInt8.ofNat z.toNat)).length = len' := by simp; omega
    refine ⟨some a, len', cap', (zs.take len').map (fun z => UInt8.ofNat z.toNat), hcs, hbl, by omega, ?_⟩
    by_cases h0 : len' = 0
    · subst h0
      exact .inl ⟨⟨some a, cap', rfl⟩, rfl⟩
    · obtain ⟨b, off, spot⟩ := a
      have hspot : spot = none := by simpa [Addr.add] using World.cell?_spot (hcell 0 (by omega))
      subst hspot
      refine .inr ⟨b, off, cap', by rw [hbl], fun j hj => ?_⟩
      rw [hbl] at hj
      have hjz : j < zs.length := by omega
      rw [← add_plain, hcell j (by omega)]
      have hw := byte_wf (hwz zs[j] (List.getElem_mem hjz))
      simp only [List.getD, List.getElem?_eq_getElem hjz, List.getElem?_map, List.getElem?_take, if_pos hj, Option.map_some, Option.getD_some]
      congr 2
      rw [UInt8.toNat_ofNat']
      omega
theorem bytes_view {p : Option Addr} {len cap : Nat} {d : DataW H} {ps : List MemPlace} (h : DataW.Trod enc Try.prog W 0 (fun _ => true) true 31 (.slice p len cap) d ps) : ∃ xs : List UInt8, xs.length = len ∧ len ≤ maxLen ∧ Src W (.slice p len cap) xs := by
  obtain ⟨fuel, hf⟩ := h
  simp only [Value.cells] at hf
  obtain ⟨p', len', cap', xs, hc, h1, h2, h3⟩ := bytes_read hf
  simp at hc
  obtain ⟨rfl, rfl, rfl⟩ := hc
  exact ⟨xs, h1, h2, h3⟩
end
end Go.Proofs.Ytkihibpmpebejaa
