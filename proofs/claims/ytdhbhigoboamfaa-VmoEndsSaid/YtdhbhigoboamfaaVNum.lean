/-
  What num's functions answer that layer 8 uses: Add, Down, Up, Within, Pages. No conditions but that arguments are numbers of 64 bits.
-/
import Derived.Test.YtdhbhigoboamfaaPVal
namespace Go.Proofs.Ytdhbhigoboamfaa
open Go.ChangeShapes Go.WideShapes Go.ChangeAt Go.RowKit

theorem wrap_i64_toInt (x : BitVec 64) : IntKind.i64.wrap (x.toNat : Int) = x.toInt := by
  have hx := x.isLt
  rw [BitVec.toInt_eq_toNat_cond]
  have e : IntKind.i64.wrap (x.toNat : Int) = (if (x.toNat : Int) % 18446744073709551616 ≥ 9223372036854775808 then (x.toNat : Int) % 18446744073709551616 - 18446744073709551616 else (x.toNat : Int) % 18446744073709551616) := by
    simp [IntKind.wrap, IntKind.bits, IntKind.signed]
  rw [e]
  split <;> split <;> omega

theorem and_i64 (a b : Int) : bits .and .i64 a b = (BitVec.ofInt 64 a &&& BitVec.ofInt 64 b).toInt := by
  show IntKind.i64.wrap ((BitVec.ofInt 64 a &&& BitVec.ofInt 64 b).toNat : Int) = _
  exact wrap_i64_toInt _
theorem xor_i64 (a b : Int) : bits .xor .i64 a b = (BitVec.ofInt 64 a ^^^ BitVec.ofInt 64 b).toInt := by
  show IntKind.i64.wrap ((BitVec.ofInt 64 a ^^^ BitVec.ofInt 64 b).toNat : Int) = _
  exact wrap_i64_toInt _

theorem msb_ofInt (a : Int) (h : fit a) : (BitVec.ofInt 64 a).msb = decide (a < 0) := by
  unfold fit at h
  rw [BitVec.msb_eq_toInt, BitVec.toInt_ofInt_eq_self (by omega) (by omega) (by omega)]

theorem sign_of (a b c d : Int) (ha : fit a) (hb : fit b) (hc : fit c) (hd : fit d) :
    bits .and .i64 (bits .xor .i64 a b) (bits .xor .i64 c d) < 0 ↔ (a < 0 ↔ ¬ b < 0) ∧ (c < 0 ↔ ¬ d < 0) := by
  rw [and_i64, xor_i64, xor_i64, BitVec.ofInt_toInt, BitVec.ofInt_toInt, ← decide_eq_true_eq (p := BitVec.toInt _ < 0), ← BitVec.msb_eq_toInt, BitVec.msb_and, BitVec.msb_xor, BitVec.msb_xor,
    msb_ofInt a ha, msb_ofInt b hb, msb_ofInt c hc, msb_ofInt d hd]
  simp only [Bool.and_eq_true, bne_iff_ne, ne_eq, decide_eq_decide]
  omega

theorem add_lt (a b : Int) (ha : fit a) (hb : fit b) (h : fit (a + b)) :
    0 ≤ bits .and .i64 (bits .xor .i64 a (a + b)) (bits .xor .i64 b (a + b)) := by
  have := sign_of a (a + b) b (a + b) ha h hb h
  unfold fit at *; omega
theorem add_ge (a b : Int) (ha : fit a) (hb : fit b) (h : ¬ fit (a + b)) :
    bits .and .i64 (bits .xor .i64 a (wrap64 (a + b))) (bits .xor .i64 b (wrap64 (a + b))) < 0 := by
  have hw : fit (wrap64 (a + b)) := by unfold fit wrap64; omega
  have := sign_of a (wrap64 (a + b)) b (wrap64 (a + b)) ha hw hb hw
  unfold fit wrap64 at *; omega
theorem emod_le (n to : Int) (hn : 0 ≤ n) (ht : 1 ≤ to) : 0 ≤ n % to ∧ n % to ≤ n ∧ n % to < to := by
  have h1 := Int.mul_ediv_add_emod n to
  have h2 : 0 ≤ to * (n / to) := Int.mul_nonneg (by omega) (Int.ediv_nonneg hn (by omega))
  have h3 := Int.emod_nonneg n (b := to) (by omega)
  have h4 := Int.emod_lt_of_pos n (b := to) (by omega)
  omega

theorem add_yes (a b : Int) (w : World) (ha : fit a) (hb : fit b) (h : fit (a + b)) :
    Calls Try.prog 75 #[.int .i64 a, .int .i64 b] w fun e w' => e = .returned (.tuple #[.int .i64 (a + b), .bool true]) ∧ w = w' := by
  have hs := add_lt a b ha hb h
  unfold fit at ha hb h
  go_enter Try.func75, Try.ntmps75
  go_wp2
  go_ret2
  exact ⟨rfl, rfl⟩
theorem add_no (a b : Int) (w : World) (ha : fit a) (hb : fit b) (h : ¬ fit (a + b)) :
    Calls Try.prog 75 #[.int .i64 a, .int .i64 b] w fun e w' => e = .returned (.tuple #[.int .i64 0, .bool false]) ∧ w = w' := by
  have hs := add_ge a b ha hb h
  clear ha hb h
  go_enter Try.func75, Try.ntmps75
  go_wp2
  go_ret2
  exact ⟨rfl, rfl⟩

theorem down_yes (n to : Int) (w : World) (hn : 0 ≤ n) (hn' : n ≤ 9223372036854775807) (ht : 1 ≤ to) (ht' : to ≤ 9223372036854775807) :
    Calls Try.prog 74 #[.int .i64 n, .int .i64 to] w fun e w' => e = .returned (.tuple #[.int .i64 (n - n % to), .bool true]) ∧ w = w' := by
  obtain ⟨hm, hm', -⟩ := emod_le n to hn ht
  go_enter Try.func74, Try.ntmps74
  go_wp2
  go_ret2
  exact ⟨rfl, rfl⟩
theorem down_no (n to : Int) (w : World) (h : to < 1 ∨ n < 0) :
    Calls Try.prog 74 #[.int .i64 n, .int .i64 to] w fun e w' => e = .returned (.tuple #[.int .i64 0, .bool false]) ∧ w = w' := by
  rcases h with h | h
  all_goals
    by_cases ht : to < 1
    all_goals
      go_enter Try.func74, Try.ntmps74
      go_wp2
      go_ret2
      exact ⟨rfl, rfl⟩

theorem up_no (n to : Int) (w : World) (h : to < 1 ∨ n < 0) :
    Calls Try.prog 65 #[.int .i64 n, .int .i64 to] w fun e w' => e = .returned (.tuple #[.int .i64 0, .bool false]) ∧ w = w' := by
  have c := fun w => down_no n to w h
  clear h
  go_enter Try.func65, Try.ntmps65
  go_wp2_with (go_at_call 74; (with_reducible refine (c _).mono ?_); rintro e w' ⟨rfl, rfl⟩)
  go_ret2
  exact ⟨rfl, rfl⟩
theorem up_same (n to : Int) (w : World) (hn : 0 ≤ n) (hn' : n ≤ 9223372036854775807) (ht : 1 ≤ to) (ht' : to ≤ 9223372036854775807) (h : n % to = 0) :
    Calls Try.prog 65 #[.int .i64 n, .int .i64 to] w fun e w' => e = .returned (.tuple #[.int .i64 n, .bool true]) ∧ w = w' := by
  have c := fun w => down_yes n to w hn hn' ht ht'
  rw [h, Int.sub_zero] at c
  clear h
  go_enter Try.func65, Try.ntmps65
  go_wp2_with (go_at_call 74; (with_reducible refine (c _).mono ?_); rintro e w' ⟨rfl, rfl⟩)
  go_ret2
  exact ⟨rfl, rfl⟩
theorem up_yes (n to : Int) (w : World) (hn : 0 ≤ n) (hn' : n ≤ 9223372036854775807) (ht : 1 ≤ to) (ht' : to ≤ 9223372036854775807) (h : n % to ≠ 0) (hf : fit (n - n % to + to)) :
    Calls Try.prog 65 #[.int .i64 n, .int .i64 to] w fun e w' => e = .returned (.tuple #[.int .i64 (n - n % to + to), .bool true]) ∧ w = w' := by
  have c := fun w => down_yes n to w hn hn' ht ht'
  obtain ⟨hm, hm', -⟩ := emod_le n to hn ht
  obtain ⟨d, hd⟩ : ∃ d, n - n % to = d := ⟨_, rfl⟩
  rw [hd] at c hf ⊢
  have c2 := fun w => add_yes d to w (by unfold fit; omega) (by unfold fit; omega) hf
  have hne : ¬ d = n := by omega
  clear h hf hd hm hm'
  go_enter Try.func65, Try.ntmps65
  go_wp2_with (first | (go_at_call 74; (with_reducible refine (c _).mono ?_); rintro e w' ⟨rfl, rfl⟩) | (go_at_call 75; (with_reducible refine (c2 _).mono ?_); rintro e w' ⟨rfl, rfl⟩))
  go_ret2
  exact ⟨rfl, rfl⟩
theorem within_yes (a n s : Int) (w : World) (h : 0 ≤ a ∧ 0 ≤ n ∧ a + n ≤ s) (hs : s ≤ 9223372036854775807) :
    Calls Try.prog 50 #[.int .i64 a, .int .i64 n, .int .i64 s] w fun e w' => e = .returned (.bool true) ∧ w = w' := by
  obtain ⟨h1, h2, h3⟩ := h
  have h4 : a ≤ s := by omega
  have h5 : n ≤ s - a := by omega
  go_enter Try.func50, Try.ntmps50
  go_wp2
  all_goals
    go_ret
    exact ⟨rfl, rfl⟩
theorem within_no (a n s : Int) (w : World) (h : ¬ (0 ≤ a ∧ 0 ≤ n ∧ a + n ≤ s)) (ha : fit a) (hn : fit n) (hs : fit s) :
    Calls Try.prog 50 #[.int .i64 a, .int .i64 n, .int .i64 s] w fun e w' => e = .returned (.bool false) ∧ w = w' := by
  unfold fit at ha hn hs
  by_cases h1 : a < 0
  · by_cases h2 : n ≤ a
    all_goals
      clear h
      go_enter Try.func50, Try.ntmps50
      go_wp2
      all_goals
        go_ret
        exact ⟨rfl, rfl⟩
  · by_cases h2 : n < 0
    · clear h
      go_enter Try.func50, Try.ntmps50
      go_wp2
      all_goals
        go_ret
        exact ⟨rfl, rfl⟩
    · by_cases h3 : s < a
      · clear h
        go_enter Try.func50, Try.ntmps50
        go_wp2
        all_goals
          go_ret
          exact ⟨rfl, rfl⟩
      · have h4 : decide (n ≤ s - a) = false := by simp; omega
        clear h
        go_enter Try.func50, Try.ntmps50
        go_wp2
        all_goals
          go_ret
          exact ⟨rfl, rfl⟩

theorem pages_no (a n : Int) (w : World) (h : ¬ (0 ≤ a ∧ 0 ≤ n ∧ fit (a + n))) (ha : fit a) (hn : fit n) :
    Calls Try.prog 66 #[.int .i64 a, .int .i64 n] w fun e w' => e = .returned (.tuple #[.int .i64 0, .int .i64 0, .bool false]) ∧ w = w' := by
  by_cases hf : fit (a + n)
  · have c := fun w => add_yes a n w ha hn hf
    have h1 : a < 0 ∨ n < 0 := by
      have : ¬ (0 ≤ a ∧ 0 ≤ n) := fun hh => h ⟨hh.1, hh.2, hf⟩
      omega
    unfold fit at *
    clear h hf
    rcases h1 with h1 | h1
    all_goals
      go_enter Try.func66, Try.ntmps66
      go_wp2_with (go_at_call 75; (with_reducible refine (c _).mono ?_); rintro e w' ⟨rfl, rfl⟩)
      all_goals
        go_ret3
        exact ⟨rfl, rfl⟩
  · have c := fun w => add_no a n w ha hn hf
    clear h hf ha hn
    go_enter Try.func66, Try.ntmps66
    go_wp2_with (go_at_call 75; (with_reducible refine (c _).mono ?_); rintro e w' ⟨rfl, rfl⟩)
    all_goals
      go_ret3
      exact ⟨rfl, rfl⟩
theorem pages_none (a : Int) (w : World) (h1 : 0 ≤ a) (ha : fit a) :
    Calls Try.prog 66 #[.int .i64 a, .int .i64 0] w fun e w' => e = .returned (.tuple #[.int .i64 (a / 64), .int .i64 0, .bool true]) ∧ w = w' := by
  have c := fun w => add_yes a 0 w ha (by unfold fit; omega) (by simpa using ha)
  rw [Int.add_zero] at c
  unfold fit at ha
  go_enter Try.func66, Try.ntmps66
  go_wp2_with (go_at_call 75; (with_reducible refine (c _).mono ?_); rintro e w' ⟨rfl, rfl⟩)
  all_goals
    go_ret3
    exact ⟨rfl, rfl⟩
theorem pages_yes (a n : Int) (w : World) (h1 : 0 ≤ a) (h2 : 1 ≤ n) (h3 : a + n ≤ 9223372036854775807) :
    Calls Try.prog 66 #[.int .i64 a, .int .i64 n] w fun e w' => e = .returned (.tuple #[.int .i64 (a / 64), .int .i64 ((a + n - 1) / 64 - a / 64 + 1), .bool true]) ∧ w = w' := by
  have c := fun w => add_yes a n w (by unfold fit; omega) (by unfold fit; omega) (by unfold fit; omega)
  go_enter Try.func66, Try.ntmps66
  go_wp2_with (go_at_call 75; (with_reducible refine (c _).mono ?_); rintro e w' ⟨rfl, rfl⟩)
  all_goals
    go_ret3
    exact ⟨rfl, rfl⟩
end Go.Proofs.Ytdhbhigoboamfaa
