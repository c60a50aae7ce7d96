/-
  The statement SignalFires answers true at all numbers.
-/
import Derived.Test.YtlecnhegfacfcaaSOf
namespace Go.Proofs.Ytlecnhegfacfcaa
open Go.ChangeShapes Go.WideShapes Go.ChangeAt Go.RowKit

/-- Has one of the first k bits of both? -/
def anyB (a w : Int) : Nat → Bool
  | 0 => false
  | k + 1 => anyB a w k || (bitB a k && bitB w k)
theorem anyB_iff (a w : Int) (k : Nat) : anyB a w k = true ↔ ∃ i, i < k ∧ bitB a i = true ∧ bitB w i = true := by
  induction k with
  | zero => simp [anyB]
  | succ k ih =>
    rw [anyB, Bool.or_eq_true, ih, Bool.and_eq_true]
    constructor
    · rintro (⟨i, h1, h2⟩ | h)
      · exact ⟨i, by omega, h2⟩
      · exact ⟨k, by omega, h⟩
    · rintro ⟨i, h1, h2⟩
      rcases Nat.lt_succ_iff_lt_or_eq.1 h1 with h' | rfl
      · exact .inl ⟨i, h', h2⟩
      · exact .inr h2
theorem bit_zero (i : Nat) (hi : i < 64) : bitB 0 i = false := by
  have := bit_nat 0 i hi
  simpa using this
theorem and_zero (a w : Int) : (bits .and .i64 a w = 0) ↔ anyB a w 64 = false := by
  rw [← Bool.not_eq_true, anyB_iff]
  constructor
  · rintro h ⟨i, hi, h1, h2⟩
    have := bit_and a w i
    rw [h, bit_zero i hi, h1, h2] at this
    cases this
  · intro h
    refine bits_ext _ _ (fit_bits _ _ _) (by unfold fit; omega) fun i hi => ?_
    rw [bit_and, bit_zero i hi]
    cases h1 : bitB a i <;> cases h2 : bitB w i <;> first | rfl | exact absurd ⟨i, hi, h1, h2⟩ h
theorem fire_eq (s o w : Int) : fireB s o w = (anyB s w 64 && !anyB o w 64) := by
  unfold fireB
  cases h1 : anyB s w 64 <;> cases h2 : anyB o w 64
  all_goals
    first | have e1 := (and_zero s w).2 h1 | have e1 : ¬ bits .and .i64 s w = 0 := fun e => by rw [(and_zero s w).1 e] at h1; cases h1
    first | have e2 := (and_zero o w).2 h2 | have e2 : ¬ bits .and .i64 o w = 0 := fun e => by rw [(and_zero o w).1 e] at h2; cases h2
    simp [e1, e2]
set_option linter.unusedSimpArgs false in
set_option maxHeartbeats 4000000 in
set_option maxRecDepth 20000 in
theorem fires_walk (s o v : Int) (w : World) (hs : fit s) (ho : fit o) (hv : fit v) :
    Calls Try.prog 5 #[.int .i64 s, .int .i64 o, .int .i64 v] w fun e w' => e = .returned (.bool true) ∧ Below w.heap.size w w' := by
  have cA := awake_at w
  have cF := fires_any s o v
  rw [fire_eq] at cF
  have cM := meets_any s v
  go_enter Try.func5, Try.ntmps5
  go_wp2
  go_loopw [7, 8, 13] (fun a b i wr => ∃ k : Nat, ∃ x y : Bool, k ≤ 64 ∧ a = .bool x ∧ b = .bool y ∧ i = .int .i64 k ∧ Hid (x = anyB s v k ∧ y = anyB o v k) ∧ Below w.heap.size w wr) (fun _ _ i _ => 64 - (intOf i).toNat)
  case atStart => exact ⟨0, false, false, by omega, rfl, rfl, rfl, Lib.hid ⟨rfl, rfl⟩, Below.refl _ _⟩
  case round =>
    obtain ⟨k, x, y, hk, rfl, rfl, rfl, HK, hbw⟩ := hrel
    by_cases hlt : k < 64
    · have s1 := shr_one v hv k hlt
      have s2 := shr_one s hs k hlt
      have s3 := shr_one o ho k hlt
      have s4 := shr_one (bits .and .i64 s v) (fit_bits _ _ _) k hlt
      rw [bit_and] at s4
      have hm : min k 64 = k := by omega
      have HN := Lib.hid (show anyB s v (k + 1) = (x || (bitB s k && bitB v k)) ∧ anyB o v (k + 1) = (y || (bitB o k && bitB v k)) by
        rw [HK.out.1, HK.out.2]; exact ⟨rfl, rfl⟩)
      generalize bits .and .i64 s v = m at cM s4
      cases b1 : bitB v k <;> cases b2 : bitB s k <;> cases b3 : bitB o k <;> cases x <;> cases y
      all_goals
        rw [b1] at s1; rw [b2] at s2; rw [b3] at s3; rw [b1, b2] at s4
        simp only [Bool.and_true, Bool.and_false, Bool.false_eq_true, if_true, if_false] at s1 s2 s3 s4
        have HM := HN.out
        rw [b1, b2, b3] at HM
        simp only [Bool.and_true, Bool.and_false, Bool.or_true, Bool.or_false, Bool.true_or, Bool.false_or] at HM
        have HH := Lib.hid HM
        clear HN HM b1 b2 b3
        go_wp2
        go_quiet (fail)
        go_wp2_with (go_at_call 21; (with_reducible refine (cM _).mono ?_); rintro e w' ⟨rfl, rfl⟩)
        go_roundw
        case rel => exact ⟨k + 1, _, _, by omega, rfl, rfl, by go_num, Lib.hid ⟨HH.out.1.symm, HH.out.2.symm⟩, below_dn hbw _⟩
        case measure => simp [intOf]; omega
    · obtain rfl : k = 64 := by omega
      rw [← HK.out.1, ← HK.out.2] at cF
      clear HK
      cases x <;> cases y
      all_goals
        simp only [Bool.not_true, Bool.not_false, Bool.and_true, Bool.and_false, Bool.false_and, Bool.true_and] at cF
        go_wp2_with (first
          | (go_at_call 22; (with_reducible refine (cF _).mono ?_); rintro e w' ⟨rfl, rfl⟩)
          | (go_at_call 16; (with_reducible refine (cA _ (by assumption)).mono ?_); rintro e w' ⟨rfl, hb⟩))
        go_ret
        exact ⟨rfl, by assumption⟩
end Go.Proofs.Ytlecnhegfacfcaa
