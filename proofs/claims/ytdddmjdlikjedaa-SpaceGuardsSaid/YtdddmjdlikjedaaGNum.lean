/-
  What num's Within and Overlap answer. No conditions but that arguments are numbers of 64 bits.
-/
import Derived.Test.YtdddmjdlikjedaaPVal
namespace Go.Proofs.Ytdddmjdlikjedaa
open Go.ChangeShapes Go.WideShapes Go.ChangeAt Go.RowKit

def min4 (a n b m : Int) : Int := min (min (min a n) b) m
theorem min4_nonneg (a n b m : Int) : 0 ≤ min4 a n b m ↔ 0 ≤ a ∧ 0 ≤ n ∧ 0 ≤ b ∧ 0 ≤ m := by unfold min4; omega
theorem run_min_four {P : Program} (w : World) (ts : Array TypeId) (t : TypeId) (a n b m : Int) :
    (Builtin.min_ ts t #[.int .i64 a, .int .i64 n, .int .i64 b, .int .i64 m]).run P w = .ok (.int .i64 (min4 a n b m)) w := by
  have e : min4 a n b m = (if m < (if b < (if n < a then n else a) then b else (if n < a then n else a)) then m else (if b < (if n < a then n else a) then b else (if n < a then n else a))) := by
    unfold min4; omega
  rw [e]
  simp [Builtin.min_, Builtin.min2]
theorem gwithin_yes (a n s : Int) (w : World) (h : 0 ≤ a ∧ 0 ≤ n ∧ a + n ≤ s) (hs : s ≤ 9223372036854775807) :
    Calls Try.prog 52 #[.int .i64 a, .int .i64 n, .int .i64 s] w fun e w' => e = .returned (.bool true) ∧ w = w' := by
  obtain ⟨h1, h2, h3⟩ := h
  have h4 : a ≤ s := by omega
  have h5 : n ≤ s - a := by omega
  go_enter Try.func52, Try.ntmps52
  go_wp2
  all_goals
    go_ret
    exact ⟨rfl, rfl⟩
theorem gwithin_no (a n s : Int) (w : World) (h : ¬ (0 ≤ a ∧ 0 ≤ n ∧ a + n ≤ s)) (ha : fit a) (hn : fit n) (hs : fit s) :
    Calls Try.prog 52 #[.int .i64 a, .int .i64 n, .int .i64 s] w fun e w' => e = .returned (.bool false) ∧ w = w' := by
  unfold fit at ha hn hs
  by_cases h1 : a < 0
  · by_cases h2 : n ≤ a
    all_goals
      clear h
      go_enter Try.func52, Try.ntmps52
      go_wp2
      all_goals
        go_ret
        exact ⟨rfl, rfl⟩
  · by_cases h2 : n < 0
    · clear h
      go_enter Try.func52, Try.ntmps52
      go_wp2
      all_goals
        go_ret
        exact ⟨rfl, rfl⟩
    · by_cases h3 : s < a
      · clear h
        go_enter Try.func52, Try.ntmps52
        go_wp2
        all_goals
          go_ret
          exact ⟨rfl, rfl⟩
      · have h4 : decide (n ≤ s - a) = false := by simp; omega
        clear h
        go_enter Try.func52, Try.ntmps52
        go_wp2
        all_goals
          go_ret
          exact ⟨rfl, rfl⟩

theorem overlap_yes (a n b m : Int) (w : World) (h : 0 ≤ a ∧ 1 ≤ n ∧ 0 ≤ b ∧ 1 ≤ m ∧ a < b + m ∧ b < a + n) (ha : fit a) (hn : fit n) (hb : fit b) (hm : fit m) :
    Calls Try.prog 92 #[.int .i64 a, .int .i64 n, .int .i64 b, .int .i64 m] w fun e w' => e = .returned (.bool true) ∧ w = w' := by
  obtain ⟨h1, h2, h3, h4, h5, h6⟩ := h
  unfold fit at *
  have h9 : decide (min4 a n b m < 0) = false := by
    have := (min4_nonneg a n b m).2 (by omega)
    simp; omega
  have h10 : (n == 0) = false := by simp; omega
  have h11 : (m == 0) = false := by simp; omega
  have hmin := fun w ts t => run_min_four (P := Try.prog) w ts t a n b m
  by_cases h7 : a ≤ b
  · have h8 : b - a < n := by omega
    go_enter Try.func92, Try.ntmps92
    go_wp2
    all_goals
      go_ret
      exact ⟨rfl, rfl⟩
  · have h8 : a - b < m := by omega
    go_enter Try.func92, Try.ntmps92
    go_wp2
    all_goals
      go_ret
      exact ⟨rfl, rfl⟩
theorem overlap_no (a n b m : Int) (w : World) (h : ¬ (0 ≤ a ∧ 1 ≤ n ∧ 0 ≤ b ∧ 1 ≤ m ∧ a < b + m ∧ b < a + n)) (ha : fit a) (hn : fit n) (hb : fit b) (hm : fit m) :
    Calls Try.prog 92 #[.int .i64 a, .int .i64 n, .int .i64 b, .int .i64 m] w fun e w' => e = .returned (.bool false) ∧ w = w' := by
  unfold fit at *
  have hmin := fun w ts t => run_min_four (P := Try.prog) w ts t a n b m
  have h9 := min4_nonneg a n b m
  by_cases h1 : min4 a n b m < 0
  · clear h9 h
    go_enter Try.func92, Try.ntmps92
    go_wp2
    all_goals
      go_ret
      exact ⟨rfl, rfl⟩
  · have h10 := h9.1 (by omega)
    clear h9
    obtain ⟨h11, h12, h13, h14⟩ := h10
    have h1 : decide (min4 a n b m < 0) = false := by simp; omega
    by_cases h2 : n = 0 ∨ m = 0
    · clear h
      rcases h2 with rfl | rfl
      all_goals
        go_enter Try.func92, Try.ntmps92
        go_wp2
        all_goals
          go_ret
          exact ⟨rfl, rfl⟩
    · have h15 : 1 ≤ n := by omega
      have h16 : 1 ≤ m := by omega
      have h17 : (n == 0) = false := by simp; omega
      have h18 : (m == 0) = false := by simp; omega
      by_cases h7 : a ≤ b
      · have h8 : decide (b - a < n) = false := by simp; omega
        clear h h2
        go_enter Try.func92, Try.ntmps92
        go_wp2
        all_goals
          go_ret
          exact ⟨rfl, rfl⟩
      · have h8 : decide (a - b < m) = false := by simp; omega
        clear h h2
        go_enter Try.func92, Try.ntmps92
        go_wp2
        all_goals
          go_ret
          exact ⟨rfl, rfl⟩

end Go.Proofs.Ytdddmjdlikjedaa
