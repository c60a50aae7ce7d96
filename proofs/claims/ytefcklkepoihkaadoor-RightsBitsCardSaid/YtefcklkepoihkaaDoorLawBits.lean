/-
  The statement RightsBits answers true at all pairs of numbers, where the table of default rights lies as it was laid.
-/
import Derived.Test.YtefcklkepoihkaaDoorLawReduces
namespace Go.Proofs.YtefcklkepoihkaaDoor
open Go.ChangeShapes Go.WideShapes Go.ChangeAt Go.RowKit

/-- Whether the k lowest bits are right, and how many of them are bits of All. -/
def rt (a : Int) : Nat → Bool
  | 0 => true
  | k + 1 => rt a k && (!bitB a k || decide (k < 12))
def ct (a : Int) : Nat → Nat
  | 0 => 0
  | k + 1 => ct a k + (if bitB a k = true ∧ k < 12 then 1 else 0)
theorem rt_iff (a : Int) (k : Nat) : rt a k = true ↔ ∀ j, j < k → bitB a j = true → j < 12 := by
  induction k with
  | zero => simp [rt]
  | succ k ih =>
    rw [rt, Bool.and_eq_true, ih]
    simp only [Bool.or_eq_true, Bool.not_eq_true', decide_eq_true_eq]
    constructor
    · rintro ⟨h1, h2⟩ j hj hb
      rcases Nat.lt_succ_iff_lt_or_eq.1 hj with h | rfl
      · exact h1 j h hb
      · rcases h2 with h2 | h2
        · rw [h2] at hb; cases hb
        · exact h2
    · intro h
      refine ⟨fun j hj hb => h j (by omega) hb, ?_⟩
      cases hb : bitB a k
      · exact .inl rfl
      · exact .inr (h k (by omega) hb)
theorem rt_all (a : Int) (ha : fit a) : rt a 64 = hasB 4095 a := by
  rw [Bool.eq_iff_iff, rt_iff, hasB_iff _ a ha]
  constructor
  · intro h i hi hb
    rw [bit_4095 i hi]; simpa using h i hi hb
  · intro h j hj hb
    have := h j hj hb
    rw [bit_4095 j hj] at this; simpa using this
theorem ct_low (a : Int) (k : Nat) : ct a k = cnt (low a) (min k 12) := by
  induction k with
  | zero => rfl
  | succ k ih =>
    rw [ct, ih]
    by_cases h : k < 12
    · rw [show min (k + 1) 12 = min k 12 + 1 by omega, show min k 12 = k by omega, cnt, bit_low a k h]; simp [h]
    · rw [show min (k + 1) 12 = min k 12 by omega]; simp [h]
theorem ct_le (a : Int) (k : Nat) : ct a k ≤ k := by
  induction k with
  | zero => exact Nat.le_refl _
  | succ k ih => rw [ct]; split <;> omega
set_option maxHeartbeats 2000000 in
set_option maxRecDepth 20000 in
theorem bits_walk (a b : Int) (ha : fit a) (hb : fit b) (w : World) (hd : Defs w) :
    Calls Tryd.prog 4 #[.int .i64 a, .int .i64 b] w fun e w' => e = .returned (.bool true) ∧ Below w.heap.size w w' := by
  have cA := awake_any w hd
  clear hd
  go_enter Tryd.func4, Tryd.ntmps4
  go_wp2
  go_loop [7, 8, 16] (fun r c i => ∃ (k m : Nat) (x : Bool), k ≤ 64 ∧ m ≤ k ∧ i = .int .i64 k ∧ r = .bool x ∧ c = .int .i64 m ∧ Hid (x = rt a k) ∧ Hid (m = ct a k)) (fun _ _ i => 64 - (intOf i).toNat)
  case atStart => exact ⟨0, 0, true, by omega, by omega, rfl, rfl, rfl, Lib.hid rfl, Lib.hid rfl⟩
  case round =>
    obtain ⟨k, m, r, hk, hm, rfl, rfl, rfl, HR, HM⟩ := hrel
    by_cases hlt : k < 64
    · have c1 := rhas_any a k ha hlt
      have c2 := rhas_any b k hb hlt
      have c3 := meet_any a b
      have c4 := without_any a b
      have c5 := rhas_any (bits .and .i64 a b) k (fit_bits _ _ _) hlt
      have c6 := rhas_any (bits .andNot .i64 a b) k (fit_bits _ _ _) hlt
      rw [bit_and] at c5
      rw [bit_andNot a b k hlt] at c6
      generalize bits .and .i64 a b = M at c3 c5
      generalize bits .andNot .i64 a b = N at c4 c6
      have HX := Lib.hid (show bitB a k = bitB a k from rfl)
      rcases hx : bitB a k with _ | _ <;> rcases hy : bitB b k with _ | _ <;> rcases r with _ | _ <;> by_cases h12 : k < 12
      all_goals
        rw [hx] at c1 c5 c6
        rw [hy] at c2 c5 c6
        simp only [Bool.and_true, Bool.and_false, Bool.not_true, Bool.not_false] at c5 c6
        have HB := Lib.hid hx
        clear hx hy HX
        go_wp2_with (first
          | (go_at_call 15; (with_reducible refine (c1 _).mono ?_); rintro e w' ⟨rfl, rfl⟩)
          | (go_at_call 15; (with_reducible refine (c2 _).mono ?_); rintro e w' ⟨rfl, rfl⟩)
          | (go_at_call 15; (with_reducible refine (c5 _).mono ?_); rintro e w' ⟨rfl, rfl⟩)
          | (go_at_call 15; (with_reducible refine (c6 _).mono ?_); rintro e w' ⟨rfl, rfl⟩)
          | (go_at_call 16; (with_reducible refine (c3 _).mono ?_); rintro e w' ⟨rfl, rfl⟩)
          | (go_at_call 17; (with_reducible refine (c4 _).mono ?_); rintro e w' ⟨rfl, rfl⟩))
        go_round
        case rel =>
          first
          | exact ⟨k + 1, m, _, by omega, by omega, by go_num, rfl, rfl, Lib.hid (by rw [rt, ← HR.out, HB.out]; first | (simp [h12]; done) | (simp [h12]; omega)), Lib.hid (by rw [ct, ← HM.out, HB.out]; first | (simp [h12]; done) | (simp [h12]; omega))⟩
          | exact ⟨k + 1, m + 1, _, by omega, by omega, by go_num, rfl, by go_num, Lib.hid (by rw [rt, ← HR.out, HB.out]; first | (simp [h12]; done) | (simp [h12]; omega)), Lib.hid (by rw [ct, ← HM.out, HB.out]; first | (simp [h12]; done) | (simp [h12]; omega))⟩
        case measure => simp [intOf]; omega
    · obtain rfl : k = 64 := by omega
      have hr : r = hasB 4095 a := by rw [HR.out, rt_all a ha]
      have hc : m = cnt (low a) 12 := by rw [HM.out, ct_low]; rfl
      have c1 := sub_any a b ha hb
      have c2 := right_any a
      have c3 := count_any a
      have c4 := has_any a b
      have c5 := need_any a b
      rw [← hr] at c2
      rw [← hc] at c3
      clear hr hc HR HM
      generalize hh : hasB a b = h at c1 c4 c5
      clear hh
      cases h <;> cases r
      all_goals
        simp only [needV, Bool.false_eq_true, if_true, if_false] at c5
        go_wp2_with (first
          | (go_at_call 18; (with_reducible refine (c1 _).mono ?_); rintro e w' ⟨rfl, rfl⟩)
          | (go_at_call 11; (with_reducible refine (c2 _).mono ?_); rintro e w' ⟨rfl, rfl⟩)
          | (go_at_call 19; (with_reducible refine (c3 _).mono ?_); rintro e w' ⟨rfl, rfl⟩)
          | (go_at_call 20; (with_reducible refine (c4 _).mono ?_); rintro e w' ⟨rfl, rfl⟩)
          | (go_at_call 21; (with_reducible refine (c5 _).mono ?_); rintro e w' ⟨rfl, rfl⟩)
          | (go_at_call 14; (with_reducible refine cA.mono ?_); rintro e w' ⟨rfl, hb⟩))
        go_ret
        exact ⟨rfl, hb⟩
end Go.Proofs.YtefcklkepoihkaaDoor
