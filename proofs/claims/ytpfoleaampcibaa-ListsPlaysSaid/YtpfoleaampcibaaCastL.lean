/-
  Lists of natural numbers, told as integers. No conditions.
-/
import Derived.Test.YtpfoleaampcibaaIter
namespace Go.Proofs.Ytpfoleaampcibaa

theorem castL_append (l m : List Nat) : castL (l ++ m) = castL l ++ castL m := by simp [castL]
theorem castL_cons (x : Nat) (l : List Nat) : castL (x :: l) = (x : Int) :: castL l := rfl
theorem castL_len (l : List Nat) : (castL l).length = l.length := by simp [castL]
theorem castL_getD (l : List Nat) (j : Nat) : (castL l).getD j 0 = ((l.getD j 0 : Nat) : Int) := by
  simp only [castL, List.getD, List.getElem?_map]
  cases l[j]? <;> rfl

end Go.Proofs.Ytpfoleaampcibaa
