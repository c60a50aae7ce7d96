/-
  The letters one by one. No run of the program in this text.
-/
import Derived.Test.YtefcklkepoihkaaDoorRMath
namespace Go.Proofs.YtefcklkepoihkaaDoor

theorem letters_size : (ByteArray.mk letters.toArray).size = 12 := rfl
theorem letter_get (k : Nat) (h : k < 12) : (ByteArray.mk letters.toArray)[k]'(by rw [letters_size]; exact h) = letterAt k := by
  have : ∀ j : Nat, (hj : j < 12) → (ByteArray.mk letters.toArray)[j]'(by rw [letters_size]; exact hj) = letterAt j := by decide +kernel
  exact this k h
theorem letters_succ_no (n k : Nat) (h : n.testBit k = false) : lettersOf n (k + 1) = lettersOf n k := by
  rw [lettersOf, h]; simp
theorem letters_succ_yes (n k : Nat) (h : n.testBit k = true) : lettersOf n (k + 1) = lettersOf n k ++ [letterAt k] := by
  rw [lettersOf, h]; simp
end Go.Proofs.YtefcklkepoihkaaDoor
