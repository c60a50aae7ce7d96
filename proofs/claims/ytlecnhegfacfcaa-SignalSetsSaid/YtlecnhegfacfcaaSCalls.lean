/-
  Contracts of the small functions of layer 5 (signal): what each call answers. Conditions: the arguments are numbers of 64 bits where it is said.
-/
import Derived.Test.YtlecnhegfacfcaaSBits
import Derived.Test.YtlecnhegfacfcaaProg
import Derived.Outline
import Derived.Lib.Hide
import Derived.Deep.QuietTactic
import Derived.BigQuiet
import Derived.ProofKit
namespace Go.Proofs.Ytlecnhegfacfcaa
open Go.ChangeShapes Go.WideShapes Go.ChangeAt Go.RowKit

theorem ret_bool {a b : Bool} (h : a = b) : Ending.returned (.bool a) = .returned (.bool b) := by rw [h]
theorem ret_int {k : IntKind} {a b : Int} (h : a = b) : Ending.returned (.int k a) = .returned (.int k b) := by rw [h]
theorem ret_str {a b : ByteArray} (h : a = b) : Ending.returned (.string a) = .returned (.string b) := by rw [h]
theorem ret_two {a b c d : Int} (h1 : a = c) (h2 : b = d) : Ending.returned (.tuple #[.int .i64 a, .int .i64 b]) = .returned (.tuple #[.int .i64 c, .int .i64 d]) := by rw [h1, h2]

/-- The signals of a type, those that users may change, those at its beginning, and the user's own. -/
def ofV (k : Int) : Int := if k = 4 ∨ k = 5 ∨ k = 6 then 65287 else if k = 7 ∨ k = 10 then 65288 else if k = 8 then 65292 else if k = 1 ∨ k = 2 ∨ k = 3 then 65296 else if k = 11 then 65312 else if k = 9 then 65281 else 0
def mineV (k : Int) : Int := if k = 7 ∨ k = 8 then 65288 else if k = 9 then 0 else if 1 ≤ k ∧ k ≤ 11 then 65280 else 0
def firstV (k : Int) : Int := if k = 4 ∨ k = 5 ∨ k = 6 then 2 else if k = 11 then 32 else 0
def userV (i : Int) : Int := if 0 ≤ i ∧ i < 8 then 2 ^ (i.toNat + 8) else 0

theorem of_any (k : Int) (w : World) :
    Calls Try.prog 9 #[.int .i64 k] w fun e w' => e = .returned (.int .i64 (ofV k)) ∧ w = w' := by
  by_cases h : 1 ≤ k ∧ k ≤ 11
  · have hb : k = 1 ∨ k = 2 ∨ k = 3 ∨ k = 4 ∨ k = 5 ∨ k = 6 ∨ k = 7 ∨ k = 8 ∨ k = 9 ∨ k = 10 ∨ k = 11 := by omega
    clear h
    rcases hb with rfl | rfl | rfl | rfl | rfl | rfl | rfl | rfl | rfl | rfl | rfl
    all_goals
      go_enter Try.func9, Try.ntmps9
      go_wp2
      go_ret
      exact ⟨rfl, rfl⟩
  · have H : Hid (ofV k = 0) := Lib.hid (by unfold ofV; repeat' (rw [if_neg (by omega)]))
    have e1 : k ≠ 1 := by omega
    have e2 : k ≠ 2 := by omega
    have e3 : k ≠ 3 := by omega
    have e4 : k ≠ 4 := by omega
    have e5 : k ≠ 5 := by omega
    have e6 : k ≠ 6 := by omega
    have e7 : k ≠ 7 := by omega
    have e8 : k ≠ 8 := by omega
    have e9 : k ≠ 9 := by omega
    have e10 : k ≠ 10 := by omega
    have e11 : k ≠ 11 := by omega
    clear h
    go_enter Try.func9, Try.ntmps9
    go_wp2
    go_ret
    exact ⟨ret_int H.out.symm, rfl⟩
/-- (Set).Meets -/
theorem meets_any (a b : Int) (w : World) :
    Calls Try.prog 21 #[.int .i64 a, .int .i64 b] w fun e w' => e = .returned (.int .i64 (bits .and .i64 a b)) ∧ w = w' := by
  go_enter Try.func21, Try.ntmps21
  go_wp2
  go_ret
  exact ⟨rfl, rfl⟩
/-- (Set).within -/
def inB (a all : Int) : Bool := decide (bits .andNot .i64 a all = 0)
theorem within_any (a b : Int) (w : World) :
    Calls Try.prog 27 #[.int .i64 a, .int .i64 b] w fun e w' => e = .returned (.bool (inB a b)) ∧ w = w' := by
  go_enter Try.func27, Try.ntmps27
  go_wp2
  go_ret
  exact ⟨rfl, rfl⟩
/-- (Set).Right -/
theorem right_any (a k : Int) (w : World) :
    Calls Try.prog 19 #[.int .i64 a, .int .i64 k] w fun e w' => e = .returned (.bool (inB a (ofV k))) ∧ w = w' := by
  go_enter Try.func19, Try.ntmps19
  go_wp2_with (first | (go_at_call 9; (with_reducible refine (of_any _ _).mono ?_); rintro e w' ⟨rfl, rfl⟩) | (go_at_call 27; (with_reducible refine (within_any _ _ _).mono ?_); rintro e w' ⟨rfl, rfl⟩))
  go_ret
  exact ⟨rfl, rfl⟩
theorem mine_any (k : Int) (w : World) :
    Calls Try.prog 12 #[.int .i64 k] w fun e w' => e = .returned (.int .i64 (mineV k)) ∧ w = w' := by
  by_cases h : 1 ≤ k ∧ k ≤ 11
  · have hb : k = 1 ∨ k = 2 ∨ k = 3 ∨ k = 4 ∨ k = 5 ∨ k = 6 ∨ k = 7 ∨ k = 8 ∨ k = 9 ∨ k = 10 ∨ k = 11 := by omega
    clear h
    rcases hb with rfl | rfl | rfl | rfl | rfl | rfl | rfl | rfl | rfl | rfl | rfl
    all_goals
      go_enter Try.func12, Try.ntmps12
      go_wp2_with (first | (go_at_call 9; (with_reducible refine (of_any _ _).mono ?_); rintro e w' ⟨rfl, rfl⟩) | (go_at_call 21; (with_reducible refine (meets_any _ _ _).mono ?_); rintro e w' ⟨rfl, rfl⟩))
      go_ret
      exact ⟨ret_int (by decide +kernel), rfl⟩
  · have H0 : ofV k = 0 := by unfold ofV; repeat' (rw [if_neg (by omega)])
    have H : Hid (bits .and .i64 (ofV k) 65280 = mineV k) := Lib.hid (by
      rw [H0]; unfold mineV; rw [if_neg (by omega), if_neg (by omega), if_neg (by omega)]; decide +kernel)
    have e7 : k ≠ 7 := by omega
    have e8 : k ≠ 8 := by omega
    have e9 : k ≠ 9 := by omega
    clear h H0
    go_enter Try.func12, Try.ntmps12
    go_wp2_with (first | (go_at_call 9; (with_reducible refine (of_any _ _).mono ?_); rintro e w' ⟨rfl, rfl⟩) | (go_at_call 21; (with_reducible refine (meets_any _ _ _).mono ?_); rintro e w' ⟨rfl, rfl⟩))
    go_ret
    exact ⟨ret_int H.out, rfl⟩
theorem first_any (k : Int) (w : World) :
    Calls Try.prog 14 #[.int .i64 k] w fun e w' => e = .returned (.int .i64 (firstV k)) ∧ w = w' := by
  have hb : k = 4 ∨ k = 5 ∨ k = 6 ∨ k = 11 ∨ (k ≠ 4 ∧ k ≠ 5 ∧ k ≠ 6 ∧ k ≠ 11) := by omega
  rcases hb with rfl | rfl | rfl | rfl | ⟨h1, h2, h3, h4⟩
  · go_enter Try.func14, Try.ntmps14
    go_wp2
    go_ret
    exact ⟨rfl, rfl⟩
  · go_enter Try.func14, Try.ntmps14
    go_wp2
    go_ret
    exact ⟨rfl, rfl⟩
  · go_enter Try.func14, Try.ntmps14
    go_wp2
    go_ret
    exact ⟨rfl, rfl⟩
  · go_enter Try.func14, Try.ntmps14
    go_wp2
    go_ret
    exact ⟨rfl, rfl⟩
  · have H : Hid (firstV k = 0) := Lib.hid (by unfold firstV; rw [if_neg (by omega), if_neg (by omega)])
    go_enter Try.func14, Try.ntmps14
    go_wp2
    go_ret
    exact ⟨ret_int H.out.symm, rfl⟩
theorem user_in (n : Int) (h : 0 ≤ n ∧ n < 8) (w : World) :
    Calls Try.prog 15 #[.int .i64 n] w fun e w' => e = .returned (.int .i64 (userV n)) ∧ w = w' := by
  have hb : n = 0 ∨ n = 1 ∨ n = 2 ∨ n = 3 ∨ n = 4 ∨ n = 5 ∨ n = 6 ∨ n = 7 := by omega
  clear h
  rcases hb with rfl | rfl | rfl | rfl | rfl | rfl | rfl | rfl
  all_goals
    go_enter Try.func15, Try.ntmps15
    go_wp2
    go_ret
    exact ⟨rfl, rfl⟩
theorem user_any (i : Int) (w : World) :
    Calls Try.prog 15 #[.int .i64 i] w fun e w' => e = .returned (.int .i64 (userV i)) ∧ w = w' := by
  by_cases h : 0 ≤ i ∧ i < 8
  · exact user_in i h w
  · have H : Hid (userV i = 0) := Lib.hid (by unfold userV; rw [if_neg h])
    have h' : i < 0 ∨ (¬ i < 0 ∧ 8 ≤ i) := by omega
    clear h
    rcases h' with h | ⟨h1, h2⟩
    all_goals
      go_enter Try.func15, Try.ntmps15
      go_wp2
      go_ret
      exact ⟨ret_int H.out.symm, rfl⟩
/-- What Change answers. -/
def okB (k c s : Int) : Bool := inB (bits .or .i64 c s) (mineV k)
def chV (a k c s : Int) : Int := if okB k c s then bits .or .i64 (bits .andNot .i64 a c) s else 0
def chS (k c s : Int) : Int := if okB k c s then 0 else -10
theorem change_any (a k c s : Int) (w : World) :
    Calls Try.prog 17 #[.int .i64 a, .int .i64 k, .int .i64 c, .int .i64 s] w fun e w' => e = .returned (.tuple #[.int .i64 (chV a k c s), .int .i64 (chS k c s)]) ∧ w = w' := by
  have c1 := within_any (bits .or .i64 c s) (mineV k)
  have h0 : okB k c s = inB (bits .or .i64 c s) (mineV k) := rfl
  by_cases h : okB k c s = true
  · have H : Hid (chV a k c s = bits .or .i64 (bits .andNot .i64 a c) s ∧ chS k c s = 0) := Lib.hid ⟨by unfold chV; rw [if_pos h], by unfold chS; rw [if_pos h]⟩
    rw [← h0, h] at c1
    clear h h0
    go_enter Try.func17, Try.ntmps17
    go_wp2_with (first | (go_at_call 12; (with_reducible refine (mine_any _ _).mono ?_); rintro e w' ⟨rfl, rfl⟩) | (go_at_call 27; (with_reducible refine (c1 _).mono ?_); rintro e w' ⟨rfl, rfl⟩))
    go_ret2
    exact ⟨ret_two H.out.1.symm H.out.2.symm, rfl⟩
  · have H : Hid (chV a k c s = 0 ∧ chS k c s = -10) := Lib.hid ⟨by unfold chV; rw [if_neg h], by unfold chS; rw [if_neg h]⟩
    simp only [Bool.not_eq_true] at h
    rw [← h0, h] at c1
    clear h h0
    go_enter Try.func17, Try.ntmps17
    go_wp2_with (first | (go_at_call 12; (with_reducible refine (mine_any _ _).mono ?_); rintro e w' ⟨rfl, rfl⟩) | (go_at_call 27; (with_reducible refine (c1 _).mono ?_); rintro e w' ⟨rfl, rfl⟩))
    go_ret2
    exact ⟨ret_two H.out.1.symm H.out.2.symm, rfl⟩
/-- (Set).Fires -/
def fireB (s old want : Int) : Bool := decide (bits .and .i64 s want ≠ 0) && decide (bits .and .i64 old want = 0)
theorem fires_any (s old want : Int) (w : World) :
    Calls Try.prog 22 #[.int .i64 s, .int .i64 old, .int .i64 want] w fun e w' => e = .returned (.bool (fireB s old want)) ∧ w = w' := by
  by_cases h1 : bits .and .i64 s want = 0 <;> by_cases h2 : bits .and .i64 old want = 0
  all_goals
    have H1 := Lib.hid h1
    have H2 := Lib.hid h2
    go_enter Try.func22, Try.ntmps22
    go_wp2_with (go_at_call 21; (with_reducible refine (meets_any _ _ _).mono ?_); rintro e w' ⟨rfl, rfl⟩)
    go_ret
    exact ⟨ret_bool (by simp [fireB, H1.out, H2.out]), rfl⟩
/-- The place of the k-th name's bit. -/
def pl (k : Nat) : Nat := if k < 6 then k else k + 2
theorem named_any (k : Nat) (h : k < 14) (w : World) :
    Calls Try.prog 28 #[.int .i64 k] w fun e w' => e = .returned (.int .i64 (2 ^ pl k)) ∧ w = w' := by
  have hb : ∃ z : Int, (k : Int) = z ∧ (z = 0 ∨ z = 1 ∨ z = 2 ∨ z = 3 ∨ z = 4 ∨ z = 5 ∨ z = 6 ∨ z = 7 ∨ z = 8 ∨ z = 9 ∨ z = 10 ∨ z = 11 ∨ z = 12 ∨ z = 13) ∧ (2 : Int) ^ pl k = 2 ^ pl z.toNat := ⟨k, rfl, by omega, by simp⟩
  obtain ⟨z, e1, hb, e2⟩ := hb
  rw [e1, e2]
  clear e1 e2 h
  rcases hb with rfl | rfl | rfl | rfl | rfl | rfl | rfl | rfl | rfl | rfl | rfl | rfl | rfl | rfl
  all_goals
    go_enter Try.func28, Try.ntmps28
    go_wp2_with (go_at_call 15; (with_reducible refine (user_any _ _).mono ?_); rintro e w' ⟨rfl, rfl⟩)
    go_ret
    exact ⟨rfl, rfl⟩
end Go.Proofs.Ytlecnhegfacfcaa
