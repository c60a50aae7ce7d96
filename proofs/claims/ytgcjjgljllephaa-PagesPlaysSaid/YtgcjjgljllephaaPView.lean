/-
  What a law's arguments are: numbers, slices of bytes and of numbers, a struct of both. No conditions.
-/
import Derived.Test.YtgcjjgljllephaaRows
import Derived.Test.YtgcjjgljllephaaPRead
import Derived.WalkKit
import Derived.ProofKit
import Derived.OpenShut
import Derived.Deep.Slices
namespace Go.Proofs.Ytgcjjgljllephaa
open Go.ChangeShapes Go.WideShapes Go.ChangeAt Go.RowKit

theorem laidOut : laidOutB Try.prog = true := by kernel_rfl
theorem cells3 : Try.prog.cellsOf 3 = 1 := by kernel_rfl
theorem cells5 : Try.prog.cellsOf 5 = 1 := by kernel_rfl
theorem cells31 : Try.prog.cellsOf 31 = 1 := by kernel_rfl
theorem int3 : Try.prog.underlying 3 = some (.int .i64) := by kernel_rfl
theorem u85 : Try.prog.underlying 5 = some (.int .u8) := by kernel_rfl

def fieldsOf (d : Option TypeDesc) : List (TypeId × Nat) := match d with | some (.struct fs) => fs.toList.map (fun f => (f.type, f.offset)) | _ => []
theorem fields55 : fieldsOf (Try.prog.underlying 55) = [(31, 0), (31, 1), (3, 2), (3, 3)] := by kernel_rfl
theorem cells55 : Try.prog.cellsOf 55 = 4 := by kernel_rfl
theorem struct_of {t : TypeId} {l : List (TypeId × Nat)} (hl : fieldsOf (Try.prog.underlying t) = l) (hne : l ≠ []) : ∃ fs, Try.prog.underlying t = some (.struct fs) := by
  unfold fieldsOf at hl
  split at hl
  · rename_i fs hfs; exact ⟨fs, hfs⟩
  · exact absurd hl.symm hne

theorem fit_wf {n : Int} (h : (Lit.int .i64 n).wf = true) : fit n := by
  simp only [Lit.wf, IntKind.min, IntKind.max, IntKind.signed, IntKind.bits, Bool.and_eq_true, decide_eq_true_eq, if_true] at h
  unfold fit
  omega
theorem byte_wf {n : Int} (h : (Lit.int .u8 n).wf = true) : 0 ≤ n ∧ n < 256 := by
  simp [Lit.wf, IntKind.min, IntKind.max, IntKind.signed, IntKind.bits] at h
  omega
theorem add_plain (b off j : Nat) : (⟨b, off, none⟩ : Addr).add j = ⟨b, off + j, none⟩ := by
  simp [Addr.add]
  try omega

section
variable {H : Type} {enc : TypeId × Value → H} {W : World}
theorem bytes_read {fuel : Nat} {cs : List Value} {x : DataW H × List MemPlace} (h : DataW.trod enc Try.prog W 0 (fun _ => true) true fuel 31 cs = some x) :
    ∃ p len cap xs, cs = [.slice p len cap] ∧ xs.length = len ∧ len ≤ maxLen ∧ Src W (.slice p len cap) xs := by
  rcases open_ints bytes31 u85 cells5 h with ⟨hcs, hx⟩ | ⟨a, len', cap', zs, hcs, _, hl, hm, hz, hx, hcell, hwz⟩
  · exact ⟨none, 0, 0, [], hcs, rfl, by unfold maxLen; omega, .inl ⟨⟨none, 0, rfl⟩, rfl⟩⟩
  · simp only [if_true] at hz
    have hbl : ((zs.take len').map (fun z => UInt8.ofNat z.toNat)).length = len' := by simp; omega
    refine ⟨some a, len', cap', (zs.take len').map (fun z => UInt8.ofNat z.toNat), hcs, hbl, by omega, ?_⟩
    by_cases h0 : len' = 0
    · subst h0
      exact .inl ⟨⟨some a, cap', rfl⟩, rfl⟩
    · obtain ⟨b, off, spot⟩ := a
      have hspot : spot = none := by simpa [Addr.add] using World.cell?_spot (hcell 0 (by omega))
      subst hspot
      refine .inr ⟨b, off, cap', by rw [hbl], fun j hj => ?_⟩
      rw [hbl] at hj
      have hjz : j < zs.length := by omega
      rw [← add_plain, hcell j (by omega)]
      have hw := byte_wf (hwz zs[j] (List.getElem_mem hjz))
      simp only [List.getD, List.getElem?_eq_getElem hjz, List.getElem?_map, List.getElem?_take, if_pos hj, Option.map_some, Option.getD_some]
      congr 2
      rw [UInt8.toNat_ofNat']
      omega
theorem bytes_view {p : Option Addr} {len cap : Nat} {d : DataW H} {ps : List MemPlace} (h : DataW.Trod enc Try.prog W 0 (fun _ => true) true 31 (.slice p len cap) d ps) : ∃ xs : List UInt8, xs.length = len ∧ len ≤ maxLen ∧ Src W (.slice p len cap) xs := by
  obtain ⟨fuel, hf⟩ := h
  simp only [Value.cells] at hf
  obtain ⟨p', len', cap', xs, hc, h1, h2, h3⟩ := bytes_read hf
  simp at hc
  obtain ⟨rfl, rfl, rfl⟩ := hc
  exact ⟨xs, h1, h2, h3⟩
end
section
variable {H : Type} {enc : TypeId × Value → H} {w : World} {base : Nat} {spare : Nat → Bool} {held : Bool}
/-- A struct's parts. -/
theorem parts_read {t : TypeId} {fuel : Nat} {cs : List Value} {x : DataW H × List MemPlace} {l : List (TypeId × Nat)} (hl : fieldsOf (Try.prog.underlying t) = l) (hne : l ≠ [])
    (h : DataW.trod enc Try.prog w base spare held fuel t cs = some x) :
    cs.length = Try.prog.cellsOf t ∧ ∃ n, ∀ (i : Nat) (ty : TypeId) (off : Nat), l[i]? = some (ty, off) → ∃ y, DataW.trod enc Try.prog w base spare held n ty ((cs.drop off).take (Try.prog.cellsOf ty)) = some y := by
  unfold fieldsOf at hl
  split at hl
  · rename_i fs hfs
    obtain ⟨xs, n, _, _, hlen, hxl, hf⟩ := DataW.trod_struct hfs h
    refine ⟨hlen, n, fun i ty off hi => ?_⟩
    rw [← hl] at hi
    simp only [List.getElem?_map, Array.getElem?_toList] at hi
    cases hfi : fs[i]? with
    | none => rw [hfi] at hi; simp at hi
    | some f =>
      rw [hfi] at hi
      simp only [Option.map_some, Option.some.injEq, Prod.mk.injEq] at hi
      have h4 := hf i f hfi
      rw [hi.1, hi.2] at h4
      have hlt := (Array.getElem?_eq_some_iff.1 hfi).1
      rw [List.getElem?_eq_getElem (by omega)] at h4
      exact ⟨_, h4⟩
  · exact absurd hl.symm hne

theorem int_read {t : TypeId} {fuel : Nat} {c : Value} {x : DataW H × List MemPlace} (ht : Try.prog.underlying t = some (.int .i64)) (h : DataW.trod enc Try.prog w base spare held fuel t [c] = some x) : ∃ z, c = .int .i64 z ∧ fit z := by
  obtain ⟨z, hz, _, hw⟩ := DataW.trod_int ht h
  simp at hz
  exact ⟨z, hz, fit_wf hw⟩


end
section
variable {H : Type} {enc : TypeId × Value → H} {W : World}
set_option maxRecDepth 100000 in
theorem shared_read {r : Reach} {b0 : Nat} {v : Value} {d : DataW H} {p : List MemPlace} (hv : Value.okWide Try.prog W r b0 55 v) (h : DataW.Trod enc Try.prog W 0 (fun _ => true) true 55 v d p) :
    ∃ pa la ca pb lb cb x y xa xb, v = .agg #[.slice pa la ca, .slice pb lb cb, .int .i64 x, .int .i64 y] ∧ xa.length = la ∧ la ≤ maxLen ∧ Src W (.slice pa la ca) xa ∧ xb.length = lb ∧ lb ≤ maxLen ∧ Src W (.slice pb lb cb) xb ∧ fit x ∧ fit y := by
  obtain ⟨fs, hs⟩ := struct_of fields55 (List.cons_ne_nil _ _)
  obtain ⟨cs, rfl, hsz⟩ := okWide_struct hs hv
  rw [cells55] at hsz
  obtain ⟨fuel, hf⟩ := h
  obtain ⟨l⟩ := cs
  simp only [Value.cells] at hf
  match l, hsz with
  | [c0, c1, c2, c3], _ =>
    obtain ⟨_, n, hp⟩ := parts_read fields55 (by simp) hf
    obtain ⟨y0, h0⟩ := hp 0 31 0 rfl
    obtain ⟨y1, h1⟩ := hp 1 31 1 rfl
    obtain ⟨y2, h2⟩ := hp 2 3 2 rfl
    obtain ⟨y3, h3⟩ := hp 3 3 3 rfl
    rw [cells31] at h0 h1
    rw [cells3] at h2 h3
    obtain ⟨pa, la, ca, xa, e0, a1, a2, a3⟩ := bytes_read h0
    obtain ⟨pb, lb, cb, xb, e1, b1, b2, b3⟩ := bytes_read h1
    obtain ⟨z2, rfl, f2⟩ := int_read int3 h2
    obtain ⟨z3, rfl, f3⟩ := int_read int3 h3
    simp at e0 e1
    subst e0; subst e1
    exact ⟨pa, la, ca, pb, lb, cb, z2, z3, xa, xb, rfl, a1, a2, a3, b1, b2, b3, f2, f3⟩
end
end Go.Proofs.Ytgcjjgljllephaa
