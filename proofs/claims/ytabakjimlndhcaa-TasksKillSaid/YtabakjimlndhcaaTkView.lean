/-
  How the laws' arguments are read. No conditions.
-/
import Derived.Test.YtabakjimlndhcaaRows
import Derived.Test.YtabakjimlndhcaaTkAwake
import Derived.WalkKit
import Derived.ProofKit
import Derived.OpenShut
import Derived.Deep.Slices
namespace Go.Proofs.Ytabakjimlndhcaa
open Go.ChangeShapes Go.WideShapes Go.ChangeAt Go.RowKit
theorem laidOut : laidOutB Try.prog = true := by kernel_rfl
theorem cells3 : Try.prog.cellsOf 3 = 1 := by kernel_rfl
theorem int3 : Try.prog.underlying 3 = some (.int .i64) := by kernel_rfl
theorem kints_s : Try.prog.underlying 53 = some (.slice 3) := by kernel_rfl
theorem add_plain (b off j : Nat) : (⟨b, off, none⟩ : Addr).add j = ⟨b, off + j, none⟩ := by
  simp [Addr.add]
  try omega
theorem fit_wf {n : Int} (h : (Lit.int .i64 n).wf = true) : fit n := by
  simp [Lit.wf, IntKind.min, IntKind.max, IntKind.signed, IntKind.bits] at h
  unfold fit
  omega
def fieldsOf (d : Option TypeDesc) : List (TypeId × Nat) := match d with | some (.struct fs) => fs.toList.map (fun f => (f.type, f.offset)) | _ => []
/-- Integers that came in. -/
def ZsAt (W : World) (p : Option Addr) (len : Nat) (zs : List Int) : Prop := zs.length = len ∧ (∀ x ∈ zs, fit x) ∧ (0 < len → ∃ g o, p = some ⟨g, o, none⟩ ∧ ∀ j x, zs[j]? = some x → W.cell? ⟨g, o + j, none⟩ = some (.int .i64 x))
section
variable {H : Type} {enc : TypeId × Value → H} {W : World}
theorem zs_view {p : Option Addr} {len cap : Nat} {d : DataW H} {ps : List MemPlace} (h : DataW.Trod enc Try.prog W 0 (fun _ => true) true 53 (.slice p len cap) d ps) : ∃ zs, ZsAt W p len zs := by
  obtain ⟨fuel, hf⟩ := h
  simp only [Value.cells] at hf
  rcases open_ints kints_s int3 cells3 hf with ⟨hcs, hx⟩ | ⟨a, len', cap', zs, hcs, _, hl, hm, hz, hx, hcell, hwz⟩
  · simp at hcs
    obtain ⟨rfl, rfl, rfl⟩ := hcs
    exact ⟨[], rfl, (fun x hx => by cases hx), fun h => by omega⟩
  · simp at hcs
    obtain ⟨rfl, rfl, rfl⟩ := hcs
    simp only [if_true] at hz
    have hlen : (zs.take len).length = len := by rw [List.length_take]; omega
    refine ⟨zs.take len, hlen, fun x hx => fit_wf (hwz x (List.mem_of_mem_take hx)), fun h0 => ?_⟩
    obtain ⟨b, off, spot⟩ := a
    have hspot : spot = none := by simpa [Addr.add] using World.cell?_spot (hcell 0 (by omega))
    subst hspot
    refine ⟨b, off, rfl, fun j x hx => ?_⟩
    have hj := (List.getElem?_eq_some_iff.1 hx).1
    rw [hlen] at hj
    rw [List.getElem?_take_of_lt hj] at hx
    rw [← add_plain, hcell j (by omega), List.getD_eq_getElem?_getD, hx]
    rfl
end
section
variable {H : Type} {enc : TypeId × Value → H} {w : World} {base : Nat} {spare : Nat → Bool} {held : Bool}
/-- A struct's parts. -/
theorem parts_read {t : TypeId} {fuel : Nat} {cs : List Value} {x : DataW H × List MemPlace} {l : List (TypeId × Nat)} (hl : fieldsOf (Try.prog.underlying t) = l) (hne : l ≠ [])
    (h : DataW.trod enc Try.prog w base spare held fuel t cs = some x) :
    cs.length = Try.prog.cellsOf t ∧ ∃ n, ∀ (i : Nat) (ty : TypeId) (off : Nat), l[i]? = some (ty, off) → ∃ y, DataW.trod enc Try.prog w base spare held n ty ((cs.drop off).take (Try.prog.cellsOf ty)) = some y := by
  unfold fieldsOf at hl
  split at hl
  · rename_i fs hfs
    obtain ⟨xs, n, _, _, hlen, hxl, hf⟩ := DataW.trod_struct hfs h
    refine ⟨hlen, n, fun i ty off hi => ?_⟩
    rw [← hl] at hi
    simp only [List.getElem?_map, Array.getElem?_toList] at hi
    cases hfi : fs[i]? with
    | none => rw [hfi] at hi; simp at hi
    | some f =>
      rw [hfi] at hi
      simp only [Option.map_some, Option.some.injEq, Prod.mk.injEq] at hi
      have h4 := hf i f hfi
      rw [hi.1, hi.2] at h4
      have hlt := (Array.getElem?_eq_some_iff.1 hfi).1
      rw [List.getElem?_eq_getElem (by omega)] at h4
      exact ⟨_, h4⟩
  · exact absurd hl.symm hne
end
end Go.Proofs.Ytabakjimlndhcaa
