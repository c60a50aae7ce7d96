/-
  What awake answers.
-/
import Derived.Test.YtdddmjdlikjedaaGreatGList
namespace Go.Proofs.YtdddmjdlikjedaaGreat
open Go.ChangeShapes Go.WideShapes Go.ChangeAt Go.RowKit Go.Shelf

def pAw : Pc := ⟨0, 192, 1, 0, 3⟩
theorem seg_nil (x n : Int) : SegIs [] x n 0 0 := ⟨⟨Nat.le_refl _, fun j p h => by omega, fun j p _ h => by simp at h⟩, Nat.le_refl _, Nat.le_refl _, fun j p _ h => by omega, fun p h => by simp at h⟩
theorem seg_aw : SegIs [pAw] 64 64 0 1 := by
  refine ⟨⟨by decide, fun j p h => by omega, fun j p _ h => ?_⟩, by decide, by decide, fun j p _ h2 h => ?_, fun p h => by simp at h⟩
  · rcases j with _ | j
    · simp at h; subst h; decide
    · simp at h
  · obtain rfl : j = 0 := by omega
    simp at h
    subst h
    unfold Ov
    decide
theorem gok_aw : GOK 256 [pAw] := by
  refine ⟨by omega, fun p hp => ?_, ?_⟩
  · simp at hp
    subst hp
    decide
  · simp

end Go.Proofs.YtdddmjdlikjedaaGreat
