/-
  Where a signal is first met among items; one who waits alone. No walk, no conditions.
-/
import Derived.Test.YtabakjimlndhcaaBView
namespace Go.Proofs.Ytabakjimlndhcaa
open Go.ChangeShapes Go.WideShapes Go.ChangeAt Go.RowKit Go.Shelf

theorem wrap_fit (x : Int) (h : fit x) : IntKind.i64.wrap x = x := by
  rw [IntKind.wrap_i64]
  unfold fit at h
  omega
/-- The first from place j on of which p is true; -1, if there is none. -/
def wantI (p : It → Bool) (its : List It) (j : Nat) : Int := (((its.drop j).findIdx? p).map (fun k => ((k + j : Nat) : Int))).getD (-1)
theorem wantI_end (p : It → Bool) (its : List It) : wantI p its its.length = -1 := by simp [wantI]
theorem wantI_step {p : It → Bool} {its : List It} {j : Nat} {i : It} (hi : its[j]? = some i) : wantI p its j = if p i = true then (j : Int) else wantI p its (j + 1) := by
  obtain ⟨hlt, he⟩ := List.getElem?_eq_some_iff.1 hi
  unfold wantI
  rw [List.drop_eq_getElem_cons hlt, he, List.findIdx?_cons]
  cases hp : p i with
  | true => simp
  | false =>
    simp only [Bool.false_eq_true, if_false]
    cases (List.drop (j + 1) its).findIdx? p with
    | none => rfl
    | some k =>
      simp only [Option.map_some, Option.getD_some]
      omega
theorem wantI_zero (P : Int → Bool) (o : Int) (its : List It) : wantI (fun i => i.o == o && P i.m) its 0 = ((fitI P o its).map (fun (k : Nat) => (k : Int))).getD (-1) := by
  unfold wantI fitI
  rw [List.drop_zero]
  rfl
theorem blk_one (its : List It) : blkS 2 [] 1 its = if posB its = true then 0 else -10 := by
  unfold blkS
  cases posB its <;> simp [hasW]
theorem blk_oneL (its : List It) (h : posB its = true) : blkL 2 [] 1 9 its = [⟨1, 9, its⟩] := by
  unfold blkL
  rw [blk_one, h]
  simp
theorem one_tell (its : List It) (P : Int → Bool) (o s f : Int) : ([⟨1, 9, its⟩] : List Wt).filterMap (wkA P o s f) = ((fitI P o its).map (fun (k : Nat) => (⟨1, (k : Int), s, f⟩ : Wk))).toList ∧ ([⟨1, 9, its⟩] : List Wt).filter (keepA P o) = if (fitI P o its).isNone = true then [⟨1, 9, its⟩] else [] := by
  unfold wkA keepA
  cases h : fitI P o its <;> simp [h]

end Go.Proofs.Ytabakjimlndhcaa
