/-
  What a law's arguments are: structs of numbers, slices of them. No conditions.
-/
import Derived.Test.YtacdhlhkpdlekaaRows
import Derived.Test.YtacdhlhkpdlekaaHModel
import Derived.WalkKit
import Derived.ProofKit
import Derived.OpenShut
import Derived.Deep.Slices
namespace Go.Proofs.Ytacdhlhkpdlekaa
open Go.ChangeShapes Go.WideShapes Go.ChangeAt Go.RowKit

theorem laidOut : laidOutB Try.prog = true := by kernel_rfl
theorem cells3 : Try.prog.cellsOf 3 = 1 := by kernel_rfl
theorem cells27 : Try.prog.cellsOf 27 = 1 := by kernel_rfl
theorem cells31 : Try.prog.cellsOf 31 = 1 := by kernel_rfl
theorem cells33 : Try.prog.cellsOf 33 = 3 := by kernel_rfl
theorem cells35 : Try.prog.cellsOf 35 = 10 := by kernel_rfl
theorem cells63 : Try.prog.cellsOf 63 = 4 := by kernel_rfl
theorem cells66 : Try.prog.cellsOf 66 = 6 := by kernel_rfl
theorem int31 : Try.prog.underlying 31 = some (.int .i64) := by kernel_rfl
theorem int3 : Try.prog.underlying 3 = some (.int .i64) := by kernel_rfl
theorem slice27 : Try.prog.underlying 27 = some (.slice 3) := by kernel_rfl
theorem slice22 : Try.prog.underlying 22 = some (.slice 35) := by kernel_rfl

def fieldsOf (d : Option TypeDesc) : List (TypeId × Nat) := match d with | some (.struct fs) => fs.toList.map (fun f => (f.type, f.offset)) | _ => []
theorem fields33 : fieldsOf (Try.prog.underlying 33) = [(3, 0), (3, 1), (31, 2)] := by kernel_rfl
theorem fields63 : fieldsOf (Try.prog.underlying 63) = [(3, 0), (3, 1), (3, 2), (3, 3)] := by kernel_rfl
theorem fields66 : fieldsOf (Try.prog.underlying 66) = [(33, 0), (3, 3), (3, 4), (3, 5)] := by kernel_rfl
theorem fields35 : fieldsOf (Try.prog.underlying 35) = [(3, 0), (3, 1), (3, 2), (3, 3), (3, 4), (3, 5), (33, 6), (27, 9)] := by kernel_rfl

theorem fit_wf {n : Int} (h : (Lit.int .i64 n).wf = true) : fit n := by
  simp only [Lit.wf, IntKind.min, IntKind.max, IntKind.signed, IntKind.bits, Bool.and_eq_true, decide_eq_true_eq, if_true] at h
  unfold fit
  omega

theorem struct_of {t : TypeId} {l : List (TypeId × Nat)} (hl : fieldsOf (Try.prog.underlying t) = l) (hne : l ≠ []) : ∃ fs, Try.prog.underlying t = some (.struct fs) := by
  unfold fieldsOf at hl
  split at hl
  · rename_i fs hfs; exact ⟨fs, hfs⟩
  · exact absurd hl.symm hne

section
variable {H : Type} {enc : TypeId × Value → H} {w : World} {base : Nat} {spare : Nat → Bool} {held : Bool}

/-- A struct's parts. -/
theorem parts_read {t : TypeId} {fuel : Nat} {cs : List Value} {x : DataW H × List MemPlace} {l : List (TypeId × Nat)} (hl : fieldsOf (Try.prog.underlying t) = l) (hne : l ≠ [])
    (h : DataW.trod enc Try.prog w base spare held fuel t cs = some x) :
    cs.length = Try.prog.cellsOf t ∧ ∃ n, ∀ (i : Nat) (ty : TypeId) (off : Nat), l[i]? = some (ty, off) → ∃ y, DataW.trod enc Try.prog w base spare held n ty ((cs.drop off).take (Try.prog.cellsOf ty)) = some y := by
  unfold fieldsOf at hl
  split at hl
  · rename_i fs hfs
    obtain ⟨xs, n, _, _, hlen, hxl, hf⟩ := DataW.trod_struct hfs h
    refine ⟨hlen, n, fun i ty off hi => ?_⟩
    rw [← hl] at hi
    simp only [List.getElem?_map, Array.getElem?_toList] at hi
    cases hfi : fs[i]? with
    | none => rw [hfi] at hi; simp at hi
    | some f =>
      rw [hfi] at hi
      simp only [Option.map_some, Option.some.injEq, Prod.mk.injEq] at hi
      have h4 := hf i f hfi
      rw [hi.1, hi.2] at h4
      have hlt := (Array.getElem?_eq_some_iff.1 hfi).1
      rw [List.getElem?_eq_getElem (by omega)] at h4
      exact ⟨_, h4⟩
  · exact absurd hl.symm hne

theorem int_read {t : TypeId} {fuel : Nat} {c : Value} {x : DataW H × List MemPlace} (ht : Try.prog.underlying t = some (.int .i64)) (h : DataW.trod enc Try.prog w base spare held fuel t [c] = some x) : ∃ z, c = .int .i64 z ∧ fit z := by
  obtain ⟨z, hz, _, hw⟩ := DataW.trod_int ht h
  simp at hz
  exact ⟨z, hz, fit_wf hw⟩

theorem ent_read {fuel : Nat} {c0 c1 c2 : Value} {x : DataW H × List MemPlace} (h : DataW.trod enc Try.prog w base spare held fuel 33 [c0, c1, c2] = some x) :
    ∃ e : Ent, c0 = .int .i64 e.o ∧ c1 = .int .i64 e.k ∧ c2 = .int .i64 e.r ∧ fit e.o ∧ fit e.k ∧ fit e.r := by
  obtain ⟨_, n, hp⟩ := parts_read fields33 (by simp) h
  obtain ⟨y0, h0⟩ := hp 0 3 0 rfl
  obtain ⟨y1, h1⟩ := hp 1 3 1 rfl
  obtain ⟨y2, h2⟩ := hp 2 31 2 rfl
  rw [cells3] at h0 h1
  rw [cells31] at h2
  obtain ⟨z0, rfl, f0⟩ := int_read int3 h0
  obtain ⟨z1, rfl, f1⟩ := int_read int3 h1
  obtain ⟨z2, rfl, f2⟩ := int_read int31 h2
  exact ⟨⟨z0, z1, z2⟩, rfl, rfl, rfl, f0, f1, f2⟩

set_option maxRecDepth 100000 in
theorem sought_read {r : Reach} {b0 : Nat} {v : Value} {d : DataW H} {p : List MemPlace} (hv : Value.okWide Try.prog w r b0 66 v) (h : DataW.Trod enc Try.prog w base spare held 66 v d p) :
    ∃ (e : Ent) (x y z : Int), v = .agg #[.int .i64 e.o, .int .i64 e.k, .int .i64 e.r, .int .i64 x, .int .i64 y, .int .i64 z] ∧ fit e.o ∧ fit e.k ∧ fit e.r ∧ fit x ∧ fit y ∧ fit z := by
  obtain ⟨fs, hs⟩ := struct_of fields66 (List.cons_ne_nil _ _)
  obtain ⟨cs, rfl, hsz⟩ := okWide_struct hs hv
  rw [cells66] at hsz
  obtain ⟨fuel, hf⟩ := h
  obtain ⟨l⟩ := cs
  simp only [Value.cells] at hf
  match l, hsz with
  | [c0, c1, c2, c3, c4, c5], _ =>
    obtain ⟨_, n, hp⟩ := parts_read fields66 (by simp) hf
    obtain ⟨y0, h0⟩ := hp 0 33 0 rfl
    obtain ⟨y1, h1⟩ := hp 1 3 3 rfl
    obtain ⟨y2, h2⟩ := hp 2 3 4 rfl
    obtain ⟨y3, h3⟩ := hp 3 3 5 rfl
    rw [cells33] at h0
    rw [cells3] at h1 h2 h3
    obtain ⟨e, rfl, rfl, rfl, f0, f1, f2⟩ := ent_read h0
    obtain ⟨z3, rfl, f3⟩ := int_read int3 h1
    obtain ⟨z4, rfl, f4⟩ := int_read int3 h2
    obtain ⟨z5, rfl, f5⟩ := int_read int3 h3
    exact ⟨e, z3, z4, z5, rfl, f0, f1, f2, f3, f4, f5⟩
set_option maxRecDepth 100000 in
theorem places_read {r : Reach} {b0 : Nat} {v : Value} {d : DataW H} {p : List MemPlace} (hv : Value.okWide Try.prog w r b0 63 v) (h : DataW.Trod enc Try.prog w base spare held 63 v d p) :
    ∃ (x0 x1 x2 x3 : Int), v = .agg #[.int .i64 x0, .int .i64 x1, .int .i64 x2, .int .i64 x3] ∧ fit x0 ∧ fit x1 ∧ fit x2 ∧ fit x3 := by
  obtain ⟨fs, hs⟩ := struct_of fields63 (List.cons_ne_nil _ _)
  obtain ⟨cs, rfl, hsz⟩ := okWide_struct hs hv
  rw [cells63] at hsz
  obtain ⟨fuel, hf⟩ := h
  obtain ⟨l⟩ := cs
  simp only [Value.cells] at hf
  match l, hsz with
  | [c0, c1, c2, c3], _ =>
    obtain ⟨_, n, hp⟩ := parts_read fields63 (by simp) hf
    obtain ⟨y0, h0⟩ := hp 0 3 0 rfl
    obtain ⟨y1, h1⟩ := hp 1 3 1 rfl
    obtain ⟨y2, h2⟩ := hp 2 3 2 rfl
    obtain ⟨y3, h3⟩ := hp 3 3 3 rfl
    rw [cells3] at h0 h1 h2 h3
    obtain ⟨z0, rfl, f0⟩ := int_read int3 h0
    obtain ⟨z1, rfl, f1⟩ := int_read int3 h1
    obtain ⟨z2, rfl, f2⟩ := int_read int3 h2
    obtain ⟨z3, rfl, f3⟩ := int_read int3 h3
    exact ⟨z0, z1, z2, z3, rfl, f0, f1, f2, f3⟩
end
end Go.Proofs.Ytacdhlhkpdlekaa
