/-
  Contracts of the few functions of layer 4 (rights) that a table calls. Conditions: the arguments are numbers of 64 bits where it is said.
-/
import Derived.Test.YtacdhlhkpdlekaaHVal
namespace Go.Proofs.Ytacdhlhkpdlekaa
open Go.ChangeShapes Go.WideShapes Go.ChangeAt Go.RowKit

/-- (Rights).Has -/
theorem has_any (a b : Int) (w : World) :
    Calls Try.prog 25 #[.int .i64 a, .int .i64 b] w fun e w' => e = .returned (.bool (hasB a b)) ∧ w = w' := by
  go_enter Try.func25, Try.ntmps25
  go_wp2
  go_ret
  exact ⟨rfl, rfl⟩
/-- (Rights).Right -/
theorem right_any (a : Int) (w : World) :
    Calls Try.prog 53 #[.int .i64 a] w fun e w' => e = .returned (.bool (hasB 4095 a)) ∧ w = w' := by
  go_enter Try.func53, Try.ntmps53
  go_wp2_with (go_at_call 25; (with_reducible refine (has_any _ _ _).mono ?_); rintro e w' ⟨rfl, rfl⟩)
  go_ret
  exact ⟨rfl, rfl⟩
/-- The status of Need. -/
def needV (h : Bool) : Int := if h then 0 else -30
theorem need_any (a b : Int) (w : World) :
    Calls Try.prog 46 #[.int .i64 a, .int .i64 b] w fun e w' => e = .returned (.int .i64 (needV (hasB a b))) ∧ w = w' := by
  by_cases h : hasB a b = true
  all_goals
    go_enter Try.func46, Try.ntmps46
    go_wp2_with (go_at_call 25; (with_reducible refine (has_any _ _ _).mono ?_); rintro e w' ⟨rfl, rfl⟩)
    go_ret
    exact ⟨by simp [needV, h], rfl⟩
/-- The document's answer: is a bit in a number? -/
theorem rhas_any (a : Int) (i : Nat) (ha : fit a) (hi : i < 64) (w : World) :
    Calls Try.prog 57 #[.int .i64 a, .int .i64 i] w fun e w' => e = .returned (.bool (bitB a i)) ∧ w = w' := by
  have hs := shr_one a ha i hi
  have hm : min i 64 = i := by omega
  go_enter Try.func57, Try.ntmps57
  go_wp2
  all_goals
    go_ret
    exact ⟨rfl, rfl⟩

/-- What Reduce answers. -/
def redV (a b : Int) : Int := if b = 2147483648 then a else if hasB 4095 b = true ∧ hasB a b = true then b else 0
def redS (a b : Int) : Int := if b = 2147483648 then 0 else if hasB 4095 b = true ∧ hasB a b = true then 0 else -10
theorem ret_two {a b c d : Int} (h1 : a = c) (h2 : b = d) : Ending.returned (.tuple #[.int .i64 a, .int .i64 b]) = .returned (.tuple #[.int .i64 c, .int .i64 d]) := by rw [h1, h2]
theorem reduce_any (a b : Int) (w : World) :
    Calls Try.prog 43 #[.int .i64 a, .int .i64 b] w fun e w' => e = .returned (.tuple #[.int .i64 (redV a b), .int .i64 (redS a b)]) ∧ w = w' := by
  by_cases h0 : b = 2147483648
  · subst h0
    go_enter Try.func43, Try.ntmps43
    go_wp2
    go_ret2
    exact ⟨ret_two (by simp [redV]) (by simp [redS]), rfl⟩
  · by_cases h1 : hasB 4095 b = true <;> by_cases h2 : hasB a b = true
    all_goals
      have h1' := h1
      have h2' := h2
      try simp only [Bool.not_eq_true] at h1
      try simp only [Bool.not_eq_true] at h2
      have H : Hid (redV a b = (if hasB 4095 b = true ∧ hasB a b = true then b else 0) ∧ redS a b = (if hasB 4095 b = true ∧ hasB a b = true then 0 else -10)) := by
        refine Lib.hid ⟨?_, ?_⟩ <;> simp [redV, redS, h0]
      have H1 : Hid (hasB 4095 b = true ∨ hasB 4095 b = false) := Lib.hid (by cases hasB 4095 b <;> simp)
      go_enter Try.func43, Try.ntmps43
      go_wp2_with (first | (go_at_call 53; (with_reducible refine (right_any _ _).mono ?_); rintro e w' ⟨rfl, rfl⟩) | (go_at_call 25; (with_reducible refine (has_any _ _ _).mono ?_); rintro e w' ⟨rfl, rfl⟩))
      go_ret2
      exact ⟨ret_two (by rw [H.out.1]; simp [h1, h2]) (by rw [H.out.2]; simp [h1, h2]), rfl⟩

end Go.Proofs.Ytacdhlhkpdlekaa
