/-
  What each function of layer 1 (num) answers, one contract each: Add, Sub, Mul, Down, Up, Within, Overlap, Pages, Mix; and the statements' own awake. No conditions but that arguments are numbers of 64 bits.
-/
import Derived.Test.YtobjmngfikmdhaaRows
import Derived.Test.YtobjmngfikmdhaaNumMath
import Derived.WalkKit
import Derived.ProofKit
import Derived.OpenShut
import Derived.Lib.Mul64
namespace Go.Proofs.Ytobjmngfikmdhaa
open Go.ChangeShapes Go.WideShapes Go.ChangeAt Go.RowKit

theorem mix_any (n : Int) (w : World) :
    Calls Try.prog 29 #[.int .i64 n] w fun e w' => e = .returned (.int .i64 (mixv n)) ∧ w = w' := by
  rw [← mix_eq n]
  go_enter Try.func29, Try.ntmps29
  go_wp2
  go_ret
  exact ⟨rfl, rfl⟩

theorem add_yes (a b : Int) (w : World) (ha : fit a) (hb : fit b) (h : fit (a + b)) :
    Calls Try.prog 14 #[.int .i64 a, .int .i64 b] w fun e w' => e = .returned (.tuple #[.int .i64 (a + b), .bool true]) ∧ w = w' := by
  have hs := add_lt a b ha hb h
  unfold fit at ha hb h
  go_enter Try.func14, Try.ntmps14
  go_wp2
  go_ret2
  exact ⟨rfl, rfl⟩
theorem add_no (a b : Int) (w : World) (ha : fit a) (hb : fit b) (h : ¬ fit (a + b)) :
    Calls Try.prog 14 #[.int .i64 a, .int .i64 b] w fun e w' => e = .returned (.tuple #[.int .i64 0, .bool false]) ∧ w = w' := by
  have hs := add_ge a b ha hb h
  clear ha hb h
  go_enter Try.func14, Try.ntmps14
  go_wp2
  go_ret2
  exact ⟨rfl, rfl⟩

theorem sub_yes (a b : Int) (w : World) (ha : fit a) (hb : fit b) (h : fit (a - b)) :
    Calls Try.prog 15 #[.int .i64 a, .int .i64 b] w fun e w' => e = .returned (.tuple #[.int .i64 (a - b), .bool true]) ∧ w = w' := by
  have hs := sub_lt a b ha hb h
  unfold fit at ha hb h
  go_enter Try.func15, Try.ntmps15
  go_wp2
  go_ret2
  exact ⟨rfl, rfl⟩
theorem sub_no (a b : Int) (w : World) (ha : fit a) (hb : fit b) (h : ¬ fit (a - b)) :
    Calls Try.prog 15 #[.int .i64 a, .int .i64 b] w fun e w' => e = .returned (.tuple #[.int .i64 0, .bool false]) ∧ w = w' := by
  have hs := sub_ge a b ha hb h
  clear ha hb h
  go_enter Try.func15, Try.ntmps15
  go_wp2
  go_ret2
  exact ⟨rfl, rfl⟩

theorem awake_any (w : World) :
    Calls Try.prog 19 #[] w fun e w' => e = .returned (.bool true) ∧ w = w' := by
  have h1 : fit 2 := by unfold fit; omega
  have h2 : fit 3 := by unfold fit; omega
  have h3 : fit (2 + 3) := by unfold fit; omega
  have c1 := fun w => add_yes 2 3 w h1 h2 h3
  have h4 : fit 9223372036854775807 := by unfold fit; omega
  have h5 : fit 1 := by unfold fit; omega
  have h6 : ¬ fit (9223372036854775807 + 1) := by unfold fit; omega
  have c2 := fun w => add_no 9223372036854775807 1 w h4 h5 h6
  clear h1 h2 h3 h4 h5 h6
  go_enter Try.func19, Try.ntmps19
  go_wp2_with (first | (go_at_call 14; (with_reducible refine (c1 _).mono ?_); rintro e w' ⟨rfl, rfl⟩) | (go_at_call 14; (with_reducible refine (c2 _).mono ?_); rintro e w' ⟨rfl, rfl⟩))
  go_ret
  exact ⟨rfl, rfl⟩

theorem down_yes (n to : Int) (w : World) (hn : 0 ≤ n) (hn' : n ≤ 9223372036854775807) (ht : 1 ≤ to) (ht' : to ≤ 9223372036854775807) :
    Calls Try.prog 22 #[.int .i64 n, .int .i64 to] w fun e w' => e = .returned (.tuple #[.int .i64 (n - n % to), .bool true]) ∧ w = w' := by
  obtain ⟨hm, hm', -⟩ := emod_le n to hn ht
  go_enter Try.func22, Try.ntmps22
  go_wp2
  go_ret2
  exact ⟨rfl, rfl⟩
theorem down_no (n to : Int) (w : World) (h : to < 1 ∨ n < 0) :
    Calls Try.prog 22 #[.int .i64 n, .int .i64 to] w fun e w' => e = .returned (.tuple #[.int .i64 0, .bool false]) ∧ w = w' := by
  rcases h with h | h
  all_goals
    by_cases ht : to < 1
    all_goals
      go_enter Try.func22, Try.ntmps22
      go_wp2
      go_ret2
      exact ⟨rfl, rfl⟩

theorem up_no (n to : Int) (w : World) (h : to < 1 ∨ n < 0) :
    Calls Try.prog 23 #[.int .i64 n, .int .i64 to] w fun e w' => e = .returned (.tuple #[.int .i64 0, .bool false]) ∧ w = w' := by
  have c := fun w => down_no n to w h
  clear h
  go_enter Try.func23, Try.ntmps23
  go_wp2_with (go_at_call 22; (with_reducible refine (c _).mono ?_); rintro e w' ⟨rfl, rfl⟩)
  go_ret2
  exact ⟨rfl, rfl⟩
theorem up_same (n to : Int) (w : World) (hn : 0 ≤ n) (hn' : n ≤ 9223372036854775807) (ht : 1 ≤ to) (ht' : to ≤ 9223372036854775807) (h : n % to = 0) :
    Calls Try.prog 23 #[.int .i64 n, .int .i64 to] w fun e w' => e = .returned (.tuple #[.int .i64 n, .bool true]) ∧ w = w' := by
  have c := fun w => down_yes n to w hn hn' ht ht'
  rw [h, Int.sub_zero] at c
  clear h
  go_enter Try.func23, Try.ntmps23
  go_wp2_with (go_at_call 22; (with_reducible refine (c _).mono ?_); rintro e w' ⟨rfl, rfl⟩)
  go_ret2
  exact ⟨rfl, rfl⟩
theorem up_yes (n to : Int) (w : World) (hn : 0 ≤ n) (hn' : n ≤ 9223372036854775807) (ht : 1 ≤ to) (ht' : to ≤ 9223372036854775807) (h : n % to ≠ 0) (hf : fit (n - n % to + to)) :
    Calls Try.prog 23 #[.int .i64 n, .int .i64 to] w fun e w' => e = .returned (.tuple #[.int .i64 (n - n % to + to), .bool true]) ∧ w = w' := by
  have c := fun w => down_yes n to w hn hn' ht ht'
  obtain ⟨hm, hm', -⟩ := emod_le n to hn ht
  obtain ⟨d, hd⟩ : ∃ d, n - n % to = d := ⟨_, rfl⟩
  rw [hd] at c hf ⊢
  have c2 := fun w => add_yes d to w (by unfold fit; omega) (by unfold fit; omega) hf
  have hne : ¬ d = n := by omega
  clear h hf hd hm hm'
  go_enter Try.func23, Try.ntmps23
  go_wp2_with (first | (go_at_call 22; (with_reducible refine (c _).mono ?_); rintro e w' ⟨rfl, rfl⟩) | (go_at_call 14; (with_reducible refine (c2 _).mono ?_); rintro e w' ⟨rfl, rfl⟩))
  go_ret2
  exact ⟨rfl, rfl⟩
theorem up_far (n to : Int) (w : World) (hn : 0 ≤ n) (hn' : n ≤ 9223372036854775807) (ht : 1 ≤ to) (ht' : to ≤ 9223372036854775807) (h : n % to ≠ 0) (hf : ¬ fit (n - n % to + to)) :
    Calls Try.prog 23 #[.int .i64 n, .int .i64 to] w fun e w' => e = .returned (.tuple #[.int .i64 0, .bool false]) ∧ w = w' := by
  have c := fun w => down_yes n to w hn hn' ht ht'
  obtain ⟨hm, hm', -⟩ := emod_le n to hn ht
  obtain ⟨d, hd⟩ : ∃ d, n - n % to = d := ⟨_, rfl⟩
  rw [hd] at c hf
  have c2 := fun w => add_no d to w (by unfold fit; omega) (by unfold fit; omega) hf
  have hne : ¬ d = n := by omega
  clear h hf hd hm hm'
  go_enter Try.func23, Try.ntmps23
  go_wp2_with (first | (go_at_call 22; (with_reducible refine (c _).mono ?_); rintro e w' ⟨rfl, rfl⟩) | (go_at_call 14; (with_reducible refine (c2 _).mono ?_); rintro e w' ⟨rfl, rfl⟩))
  go_ret2
  exact ⟨rfl, rfl⟩

theorem within_yes (a n s : Int) (w : World) (h : 0 ≤ a ∧ 0 ≤ n ∧ a + n ≤ s) (hs : s ≤ 9223372036854775807) :
    Calls Try.prog 24 #[.int .i64 a, .int .i64 n, .int .i64 s] w fun e w' => e = .returned (.bool true) ∧ w = w' := by
  obtain ⟨h1, h2, h3⟩ := h
  have h4 : a ≤ s := by omega
  have h5 : n ≤ s - a := by omega
  go_enter Try.func24, Try.ntmps24
  go_wp2
  all_goals
    go_ret
    exact ⟨rfl, rfl⟩
theorem within_no (a n s : Int) (w : World) (h : ¬ (0 ≤ a ∧ 0 ≤ n ∧ a + n ≤ s)) (ha : fit a) (hn : fit n) (hs : fit s) :
    Calls Try.prog 24 #[.int .i64 a, .int .i64 n, .int .i64 s] w fun e w' => e = .returned (.bool false) ∧ w = w' := by
  unfold fit at ha hn hs
  by_cases h1 : a < 0
  · by_cases h2 : n ≤ a
    all_goals
      clear h
      go_enter Try.func24, Try.ntmps24
      go_wp2
      all_goals
        go_ret
        exact ⟨rfl, rfl⟩
  · by_cases h2 : n < 0
    · clear h
      go_enter Try.func24, Try.ntmps24
      go_wp2
      all_goals
        go_ret
        exact ⟨rfl, rfl⟩
    · by_cases h3 : s < a
      · clear h
        go_enter Try.func24, Try.ntmps24
        go_wp2
        all_goals
          go_ret
          exact ⟨rfl, rfl⟩
      · have h4 : decide (n ≤ s - a) = false := by simp; omega
        clear h
        go_enter Try.func24, Try.ntmps24
        go_wp2
        all_goals
          go_ret
          exact ⟨rfl, rfl⟩

theorem overlap_yes (a n b m : Int) (w : World) (h : 0 ≤ a ∧ 1 ≤ n ∧ 0 ≤ b ∧ 1 ≤ m ∧ a < b + m ∧ b < a + n) (ha : fit a) (hn : fit n) (hb : fit b) (hm : fit m) :
    Calls Try.prog 26 #[.int .i64 a, .int .i64 n, .int .i64 b, .int .i64 m] w fun e w' => e = .returned (.bool true) ∧ w = w' := by
  obtain ⟨h1, h2, h3, h4, h5, h6⟩ := h
  unfold fit at *
  have h9 : decide (min4 a n b m < 0) = false := by
    have := (min4_nonneg a n b m).2 (by omega)
    simp; omega
  have h10 : (n == 0) = false := by simp; omega
  have h11 : (m == 0) = false := by simp; omega
  have hmin := fun w ts t => run_min_four (P := Try.prog) w ts t a n b m
  by_cases h7 : a ≤ b
  · have h8 : b - a < n := by omega
    go_enter Try.func26, Try.ntmps26
    go_wp2
    all_goals
      go_ret
      exact ⟨rfl, rfl⟩
  · have h8 : a - b < m := by omega
    go_enter Try.func26, Try.ntmps26
    go_wp2
    all_goals
      go_ret
      exact ⟨rfl, rfl⟩
theorem overlap_no (a n b m : Int) (w : World) (h : ¬ (0 ≤ a ∧ 1 ≤ n ∧ 0 ≤ b ∧ 1 ≤ m ∧ a < b + m ∧ b < a + n)) (ha : fit a) (hn : fit n) (hb : fit b) (hm : fit m) :
    Calls Try.prog 26 #[.int .i64 a, .int .i64 n, .int .i64 b, .int .i64 m] w fun e w' => e = .returned (.bool false) ∧ w = w' := by
  unfold fit at *
  have hmin := fun w ts t => run_min_four (P := Try.prog) w ts t a n b m
  have h9 := min4_nonneg a n b m
  by_cases h1 : min4 a n b m < 0
  · clear h9 h
    go_enter Try.func26, Try.ntmps26
    go_wp2
    all_goals
      go_ret
      exact ⟨rfl, rfl⟩
  · have h10 := h9.1 (by omega)
    clear h9
    obtain ⟨h11, h12, h13, h14⟩ := h10
    have h1 : decide (min4 a n b m < 0) = false := by simp; omega
    by_cases h2 : n = 0 ∨ m = 0
    · clear h
      rcases h2 with rfl | rfl
      all_goals
        go_enter Try.func26, Try.ntmps26
        go_wp2
        all_goals
          go_ret
          exact ⟨rfl, rfl⟩
    · have h15 : 1 ≤ n := by omega
      have h16 : 1 ≤ m := by omega
      have h17 : (n == 0) = false := by simp; omega
      have h18 : (m == 0) = false := by simp; omega
      by_cases h7 : a ≤ b
      · have h8 : decide (b - a < n) = false := by simp; omega
        clear h h2
        go_enter Try.func26, Try.ntmps26
        go_wp2
        all_goals
          go_ret
          exact ⟨rfl, rfl⟩
      · have h8 : decide (a - b < m) = false := by simp; omega
        clear h h2
        go_enter Try.func26, Try.ntmps26
        go_wp2
        all_goals
          go_ret
          exact ⟨rfl, rfl⟩

theorem pages_no (a n : Int) (w : World) (h : ¬ (0 ≤ a ∧ 0 ≤ n ∧ fit (a + n))) (ha : fit a) (hn : fit n) :
    Calls Try.prog 27 #[.int .i64 a, .int .i64 n] w fun e w' => e = .returned (.tuple #[.int .i64 0, .int .i64 0, .bool false]) ∧ w = w' := by
  by_cases hf : fit (a + n)
  · have c := fun w => add_yes a n w ha hn hf
    have h1 : a < 0 ∨ n < 0 := by
      have : ¬ (0 ≤ a ∧ 0 ≤ n) := fun hh => h ⟨hh.1, hh.2, hf⟩
      omega
    unfold fit at *
    clear h hf
    rcases h1 with h1 | h1
    all_goals
      go_enter Try.func27, Try.ntmps27
      go_wp2_with (go_at_call 14; (with_reducible refine (c _).mono ?_); rintro e w' ⟨rfl, rfl⟩)
      all_goals
        go_ret3
        exact ⟨rfl, rfl⟩
  · have c := fun w => add_no a n w ha hn hf
    clear h hf ha hn
    go_enter Try.func27, Try.ntmps27
    go_wp2_with (go_at_call 14; (with_reducible refine (c _).mono ?_); rintro e w' ⟨rfl, rfl⟩)
    all_goals
      go_ret3
      exact ⟨rfl, rfl⟩
theorem pages_none (a : Int) (w : World) (h1 : 0 ≤ a) (ha : fit a) :
    Calls Try.prog 27 #[.int .i64 a, .int .i64 0] w fun e w' => e = .returned (.tuple #[.int .i64 (a / 64), .int .i64 0, .bool true]) ∧ w = w' := by
  have c := fun w => add_yes a 0 w ha (by unfold fit; omega) (by simpa using ha)
  rw [Int.add_zero] at c
  unfold fit at ha
  go_enter Try.func27, Try.ntmps27
  go_wp2_with (go_at_call 14; (with_reducible refine (c _).mono ?_); rintro e w' ⟨rfl, rfl⟩)
  all_goals
    go_ret3
    exact ⟨rfl, rfl⟩
theorem pages_yes (a n : Int) (w : World) (h1 : 0 ≤ a) (h2 : 1 ≤ n) (h3 : a + n ≤ 9223372036854775807) :
    Calls Try.prog 27 #[.int .i64 a, .int .i64 n] w fun e w' => e = .returned (.tuple #[.int .i64 (a / 64), .int .i64 ((a + n - 1) / 64 - a / 64 + 1), .bool true]) ∧ w = w' := by
  have c := fun w => add_yes a n w (by unfold fit; omega) (by unfold fit; omega) (by unfold fit; omega)
  go_enter Try.func27, Try.ntmps27
  go_wp2_with (go_at_call 14; (with_reducible refine (c _).mono ?_); rintro e w' ⟨rfl, rfl⟩)
  all_goals
    go_ret3
    exact ⟨rfl, rfl⟩
theorem mag_neg (n : Int) (w : World) (h : n < 0) (hf : fit n) :
    Calls Try.prog 34 #[.int .i64 n] w fun e w' => e = .returned (.int .u64 (n.natAbs : Int)) ∧ w = w' := by
  unfold fit at hf
  have e : IntKind.u64.wrap (-IntKind.u64.wrap n) = (n.natAbs : Int) := by rw [IntKind.wrap_u64, IntKind.wrap_u64]; omega
  rw [← e]; clear e
  go_enter Try.func34, Try.ntmps34
  go_wp2
  go_ret
  exact ⟨rfl, rfl⟩
theorem mag_pos (n : Int) (w : World) (h : 0 ≤ n) (hf : fit n) :
    Calls Try.prog 34 #[.int .i64 n] w fun e w' => e = .returned (.int .u64 (n.natAbs : Int)) ∧ w = w' := by
  unfold fit at hf
  rw [show (n.natAbs : Int) = n by omega]
  go_enter Try.func34, Try.ntmps34
  go_wp2
  go_ret
  exact ⟨rfl, rfl⟩
theorem mag_any (n : Int) (w : World) (hf : fit n) :
    Calls Try.prog 34 #[.int .i64 n] w fun e w' => e = .returned (.int .u64 (n.natAbs : Int)) ∧ w = w' := by
  by_cases h : n < 0
  · exact mag_neg n w h hf
  · exact mag_pos n w (by omega) hf

set_option maxHeartbeats 1000000 in
theorem mul64_any (x y : Nat) (hx : x < 18446744073709551616) (hy : y < 18446744073709551616) (w : World) :
    Calls Try.prog 33 #[.int .u64 x, .int .u64 y] w fun e w' => e = .returned (.tuple #[.int .u64 ((x * y / 18446744073709551616 : Nat) : Int), .int .u64 ((x * y % 18446744073709551616 : Nat) : Int)]) ∧ w = w' := by
  obtain ⟨bd, bt, bw, hhi⟩ := Lib.mul64_hi x y hx hy
  have ba := Lib.half_mul_le (a := x / 4294967296) (b := y / 4294967296) (by omega) (by omega)
  have bb := Lib.half_mul_le (a := x / 4294967296) (b := y % 4294967296) (by omega) (by omega)
  have bc := Lib.half_mul_le (a := x % 4294967296) (b := y / 4294967296) (by omega) (by omega)
  have ba' : x / 4294967296 * (y / 4294967296) < 18446744073709551616 := by omega
  have bb' : x / 4294967296 * (y % 4294967296) < 18446744073709551616 := by omega
  have bc' : x % 4294967296 * (y / 4294967296) < 18446744073709551616 := by omega
  have bh1 : x / 4294967296 * (y / 4294967296) + (x / 4294967296 * (y % 4294967296) + x % 4294967296 * (y % 4294967296) / 4294967296) / 4294967296 < 18446744073709551616 := by omega
  have bh : x / 4294967296 * (y / 4294967296) + (x / 4294967296 * (y % 4294967296) + x % 4294967296 * (y % 4294967296) / 4294967296) / 4294967296 + ((x / 4294967296 * (y % 4294967296) + x % 4294967296 * (y % 4294967296) / 4294967296) % 4294967296 + x % 4294967296 * (y / 4294967296)) / 4294967296 < 18446744073709551616 := by omega
  go_enter Try.func33, Try.ntmps33
  go_wp2
  simp only [half_of x hx, half_of y hy, div_cast, mul_cast, add_cast, wrap_small _ bd, wrap_small _ bb', wrap_small _ bt, half_of _ bt, wrap_small _ bc', wrap_small _ bw, wrap_small _ ba', wrap_small _ bh1, wrap_small _ bh, wrap_rest (x * y)]
  rw [hhi]
  go_ret2
  exact ⟨rfl, rfl⟩

theorem greatest_neg (w : World) :
    Calls Try.prog 35 #[.bool true] w fun e w' => e = .returned (.int .u64 9223372036854775808) ∧ w = w' := by
  go_enter Try.func35, Try.ntmps35
  go_wp2
  go_ret
  exact ⟨rfl, rfl⟩
theorem greatest_pos (w : World) :
    Calls Try.prog 35 #[.bool false] w fun e w' => e = .returned (.int .u64 9223372036854775807) ∧ w = w' := by
  go_enter Try.func35, Try.ntmps35
  go_wp2
  go_ret
  exact ⟨rfl, rfl⟩
theorem mul64_low (a b : Int) (p : Nat) (ha : fit a) (hb : fit b) (hp : a.natAbs * b.natAbs = p) (h : p < 18446744073709551616) (w : World) :
    Calls Try.prog 33 #[.int .u64 (a.natAbs : Int), .int .u64 (b.natAbs : Int)] w fun e w' => e = .returned (.tuple #[.int .u64 0, .int .u64 (p : Int)]) ∧ w = w' := by
  have c := mul64_any a.natAbs b.natAbs (natAbs_le a ha) (natAbs_le b hb) w
  rw [hp, Nat.div_eq_of_lt h, Nat.mod_eq_of_lt h] at c
  exact c
theorem mul64_high (a b : Int) (p : Nat) (ha : fit a) (hb : fit b) (hp : a.natAbs * b.natAbs = p) (h : 18446744073709551616 ≤ p) (w : World) :
    Calls Try.prog 33 #[.int .u64 (a.natAbs : Int), .int .u64 (b.natAbs : Int)] w fun e w' => (∃ x y : Int, x ≠ 0 ∧ e = .returned (.tuple #[.int .u64 x, .int .u64 y])) ∧ w = w' := by
  have c := mul64_any a.natAbs b.natAbs (natAbs_le a ha) (natAbs_le b hb) w
  rw [hp] at c
  exact c.mono fun e w' ⟨he, hw⟩ => ⟨⟨_, _, by omega, he⟩, hw⟩

theorem mul_yes (a b : Int) (w : World) (ha : fit a) (hb : fit b) (h : fit (a * b)) :
    Calls Try.prog 20 #[.int .i64 a, .int .i64 b] w fun e w' => e = .returned (.tuple #[.int .i64 (a * b), .bool true]) ∧ w = w' := by
  obtain ⟨p, hp⟩ : ∃ p, a.natAbs * b.natAbs = p := ⟨_, rfl⟩
  have hc := prod_cases a b
  rw [hp] at hc
  have c1 := fun w => mag_any a w ha
  have c2 := fun w => mag_any b w hb
  rcases hc with ⟨he, hs⟩ | ⟨he, hs⟩
  · rw [he] at h ⊢
    unfold fit at h
    have c3 := fun w => mul64_low a b p ha hb hp (by omega) w
    have c4 := fun w => greatest_pos w
    have hq := pos_wrap p (by omega)
    have hr : (p : Int) ≤ 9223372036854775807 := by omega
    clear h he hp ha hb
    rcases hs with ⟨h1, h2⟩ | ⟨h1, h2⟩
    all_goals
      go_enter Try.func20, Try.ntmps20
      go_wp2_with (first | (go_at_call 34; (with_reducible refine (c1 _).mono ?_); rintro e w' ⟨rfl, rfl⟩) | (go_at_call 34; (with_reducible refine (c2 _).mono ?_); rintro e w' ⟨rfl, rfl⟩) | (go_at_call 33; (with_reducible refine (c3 _).mono ?_); rintro e w' ⟨rfl, rfl⟩) | (go_at_call 35; (with_reducible refine (c4 _).mono ?_); rintro e w' ⟨rfl, rfl⟩))
      go_ret2
      exact ⟨rfl, rfl⟩
  · rw [he] at h ⊢
    unfold fit at h
    have c3 := fun w => mul64_low a b p ha hb hp (by omega) w
    have c4 := fun w => greatest_neg w
    have hq := neg_wrap p (by omega)
    have hr : (p : Int) ≤ 9223372036854775808 := by omega
    rw [← hq]
    clear h he hp ha hb hq
    rcases hs with ⟨h1, h2⟩ | ⟨h1, h2⟩
    all_goals
      go_enter Try.func20, Try.ntmps20
      go_wp2_with (first | (go_at_call 34; (with_reducible refine (c1 _).mono ?_); rintro e w' ⟨rfl, rfl⟩) | (go_at_call 34; (with_reducible refine (c2 _).mono ?_); rintro e w' ⟨rfl, rfl⟩) | (go_at_call 33; (with_reducible refine (c3 _).mono ?_); rintro e w' ⟨rfl, rfl⟩) | (go_at_call 35; (with_reducible refine (c4 _).mono ?_); rintro e w' ⟨rfl, rfl⟩))
      go_ret2
      exact ⟨rfl, rfl⟩
theorem mul_no (a b : Int) (w : World) (ha : fit a) (hb : fit b) (h : ¬ fit (a * b)) :
    Calls Try.prog 20 #[.int .i64 a, .int .i64 b] w fun e w' => e = .returned (.tuple #[.int .i64 0, .bool false]) ∧ w = w' := by
  obtain ⟨p, hp⟩ : ∃ p, a.natAbs * b.natAbs = p := ⟨_, rfl⟩
  have hc := prod_cases a b
  rw [hp] at hc
  have c1 := fun w => mag_any a w ha
  have c2 := fun w => mag_any b w hb
  by_cases hbig : 18446744073709551616 ≤ p
  · have c3 := fun w => mul64_high a b p ha hb hp hbig w
    clear h hp ha hb hbig
    have hs : (a < 0 ∧ b < 0) ∨ (0 ≤ a ∧ 0 ≤ b) ∨ (a < 0 ∧ 0 ≤ b) ∨ (0 ≤ a ∧ b < 0) := by clear hc; omega
    clear hc
    rcases hs with ⟨h1, h2⟩ | ⟨h1, h2⟩ | ⟨h1, h2⟩ | ⟨h1, h2⟩
    all_goals
      go_enter Try.func20, Try.ntmps20
      go_wp2_with (first | (go_at_call 34; (with_reducible refine (c1 _).mono ?_); rintro e w' ⟨rfl, rfl⟩) | (go_at_call 34; (with_reducible refine (c2 _).mono ?_); rintro e w' ⟨rfl, rfl⟩) | (go_at_call 33; (with_reducible refine (c3 _).mono ?_); rintro e w' ⟨⟨x, y, hx, rfl⟩, rfl⟩))
      go_ret2
      exact ⟨rfl, rfl⟩
  · have c3 := fun w => mul64_low a b p ha hb hp (by omega) w
    rcases hc with ⟨he, hs⟩ | ⟨he, hs⟩
    · rw [he] at h
      unfold fit at h
      have c4 := fun w => greatest_pos w
      have hr : (9223372036854775807 : Int) < p := by omega
      clear h he hp ha hb hbig
      rcases hs with ⟨h1, h2⟩ | ⟨h1, h2⟩
      all_goals
        go_enter Try.func20, Try.ntmps20
        go_wp2_with (first | (go_at_call 34; (with_reducible refine (c1 _).mono ?_); rintro e w' ⟨rfl, rfl⟩) | (go_at_call 34; (with_reducible refine (c2 _).mono ?_); rintro e w' ⟨rfl, rfl⟩) | (go_at_call 33; (with_reducible refine (c3 _).mono ?_); rintro e w' ⟨rfl, rfl⟩) | (go_at_call 35; (with_reducible refine (c4 _).mono ?_); rintro e w' ⟨rfl, rfl⟩))
        go_ret2
        exact ⟨rfl, rfl⟩
    · rw [he] at h
      unfold fit at h
      have c4 := fun w => greatest_neg w
      have hr : (9223372036854775808 : Int) < p := by omega
      clear h he hp ha hb hbig
      rcases hs with ⟨h1, h2⟩ | ⟨h1, h2⟩
      all_goals
        go_enter Try.func20, Try.ntmps20
        go_wp2_with (first | (go_at_call 34; (with_reducible refine (c1 _).mono ?_); rintro e w' ⟨rfl, rfl⟩) | (go_at_call 34; (with_reducible refine (c2 _).mono ?_); rintro e w' ⟨rfl, rfl⟩) | (go_at_call 33; (with_reducible refine (c3 _).mono ?_); rintro e w' ⟨rfl, rfl⟩) | (go_at_call 35; (with_reducible refine (c4 _).mono ?_); rintro e w' ⟨rfl, rfl⟩))
        go_ret2
        exact ⟨rfl, rfl⟩
end Go.Proofs.Ytobjmngfikmdhaa
