/-
  The statement NumPages answers true at all numbers of 64 bits.
-/
import Derived.Test.YtdpkkkkmohnhgaaNumCalls
import Derived.Test.YtdpkkkkmohnhgaaNumMath2
import Derived.Outline
import Derived.Deep.Light
namespace Go.Proofs.Ytdpkkkkmohnhgaa
open Go.ChangeShapes Go.WideShapes Go.ChangeAt Go.RowKit


theorem pages_walk_no (a n b : Int) (w : World) (ha : fit a) (hn : fit n) (h : ¬ (0 ≤ a ∧ 0 ≤ n ∧ fit (a + n))) :
    Calls Try.prog 11 #[.int .i64 a, .int .i64 n, .int .i64 b] w fun e w' => e = .returned (.bool true) ∧ w = w' := by
  have c1 := fun w => pages_no a n w h ha hn
  have c3 := awake_any
  by_cases h1 : a < 0
  · clear h
    go_enter Try.func11, Try.ntmps11
    go_wp2_with (first | (go_at_call 27; (with_reducible refine (c1 _).mono ?_); rintro e w' ⟨rfl, rfl⟩) | (go_at_call 19; (with_reducible refine (c3 _).mono ?_); rintro e w' ⟨rfl, rfl⟩))
    all_goals
      go_ret
      exact ⟨rfl, rfl⟩
  · by_cases h2 : n < 0
    · clear h
      go_enter Try.func11, Try.ntmps11
      go_wp2_with (first | (go_at_call 27; (with_reducible refine (c1 _).mono ?_); rintro e w' ⟨rfl, rfl⟩) | (go_at_call 19; (with_reducible refine (c3 _).mono ?_); rintro e w' ⟨rfl, rfl⟩))
      all_goals
        go_ret
        exact ⟨rfl, rfl⟩
    · have h3 : 9223372036854775807 - n < a := by unfold fit at *; omega
      unfold fit at ha hn
      clear h
      go_enter Try.func11, Try.ntmps11
      go_wp2_with (first | (go_at_call 27; (with_reducible refine (c1 _).mono ?_); rintro e w' ⟨rfl, rfl⟩) | (go_at_call 19; (with_reducible refine (c3 _).mono ?_); rintro e w' ⟨rfl, rfl⟩))
      all_goals
        go_ret
        exact ⟨rfl, rfl⟩
theorem pages_walk_none (a b : Int) (w : World) (ha : fit a) (hb : fit b) (h : 0 ≤ a) :
    Calls Try.prog 11 #[.int .i64 a, .int .i64 0, .int .i64 b] w fun e w' => e = .returned (.bool true) ∧ w = w' := by
  have c1 := fun w => pages_none a w h ha
  have c3 := awake_any
  unfold fit at ha hb
  by_cases h1 : a ≤ b
  · have h2 : decide (b - a < 0) = false := by simp; omega
    go_enter Try.func11, Try.ntmps11
    go_wp2_with (first | (go_at_call 27; (with_reducible refine (c1 _).mono ?_); rintro e w' ⟨rfl, rfl⟩) | (go_at_call 19; (with_reducible refine (c3 _).mono ?_); rintro e w' ⟨rfl, rfl⟩))
    all_goals
      go_ret
      exact ⟨rfl, rfl⟩
  · go_enter Try.func11, Try.ntmps11
    go_wp2_with (first | (go_at_call 27; (with_reducible refine (c1 _).mono ?_); rintro e w' ⟨rfl, rfl⟩) | (go_at_call 19; (with_reducible refine (c3 _).mono ?_); rintro e w' ⟨rfl, rfl⟩))
    all_goals
      go_ret
      exact ⟨rfl, rfl⟩
theorem pages_walk_yes (a n b : Int) (w : World) (hb : fit b) (h1 : 0 ≤ a) (h2 : 1 ≤ n) (h3 : a + n ≤ 9223372036854775807) :
    Calls Try.prog 11 #[.int .i64 a, .int .i64 n, .int .i64 b] w fun e w' => e = .returned (.bool true) ∧ w = w' := by
  have c1 := fun w => pages_yes a n w h1 h2 h3
  have c3 := awake_any
  unfold fit at hb
  have h4 : (n == 0) = false := by simp; omega
  by_cases hin : a ≤ b ∧ b - a < n
  · obtain ⟨h5, h6⟩ := hin
    have g1 : a / 64 ≤ b / 64 := by omega
    have g2 : b / 64 - a / 64 < (a + n - 1) / 64 - a / 64 + 1 := by omega
    have g3 : ((a + n - 1) / 64 - a / 64 + 1 == 0) = false := by simp; omega
    have g4 : (a + n - 1) / 64 - a / 64 + 1 ≤ n := by omega
    have g5 : 0 ≤ a / 64 := by omega
    have g6 : b / 64 ≤ 9223372036854775807 := by omega
    generalize (a + n - 1) / 64 - a / 64 + 1 = C at *
    generalize a / 64 = F at *
    obtain ⟨G, hG⟩ : ∃ G, b / 64 = G := ⟨_, rfl⟩
    rw [hG] at g1 g2 g6
    go_enter Try.func11, Try.ntmps11
    go_wp2_with (first | (go_at_call 27; (with_reducible refine (c1 _).mono ?_); rintro e w' ⟨rfl, rfl⟩) | (go_at_call 19; (with_reducible refine (c3 _).mono ?_); rintro e w' ⟨rfl, rfl⟩))
    all_goals
      go_ret
      exact ⟨rfl, rfl⟩
  · have g3 : ((a + n - 1) / 64 - a / 64 + 1 == 0) = false := by simp; omega
    have g4 : (a + n - 1) / 64 - a / 64 + 1 ≤ n := by omega
    generalize (a + n - 1) / 64 - a / 64 + 1 = C at *
    generalize a / 64 = F at *
    by_cases h5 : a ≤ b
    · have h6 : decide (b - a < n) = false := by simp; omega
      clear hin
      go_enter Try.func11, Try.ntmps11
      go_wp2_with (first | (go_at_call 27; (with_reducible refine (c1 _).mono ?_); rintro e w' ⟨rfl, rfl⟩) | (go_at_call 19; (with_reducible refine (c3 _).mono ?_); rintro e w' ⟨rfl, rfl⟩))
      all_goals
        go_ret
        exact ⟨rfl, rfl⟩
    · clear hin
      go_enter Try.func11, Try.ntmps11
      go_wp2_with (first | (go_at_call 27; (with_reducible refine (c1 _).mono ?_); rintro e w' ⟨rfl, rfl⟩) | (go_at_call 19; (with_reducible refine (c3 _).mono ?_); rintro e w' ⟨rfl, rfl⟩))
      all_goals
        go_ret
        exact ⟨rfl, rfl⟩
theorem pages_walk (a n b : Int) (w : World) (ha : fit a) (hn : fit n) (hb : fit b) :
    Calls Try.prog 11 #[.int .i64 a, .int .i64 n, .int .i64 b] w fun e w' => e = .returned (.bool true) ∧ w = w' := by
  by_cases h : 0 ≤ a ∧ 0 ≤ n ∧ fit (a + n)
  · obtain ⟨h1, h2, h3⟩ := h
    by_cases h4 : n = 0
    · subst h4
      exact pages_walk_none a b w ha hb h1
    · exact pages_walk_yes a n b w hb h1 (by omega) h3.2
  · exact pages_walk_no a n b w ha hn h
end Go.Proofs.Ytdpkkkkmohnhgaa
