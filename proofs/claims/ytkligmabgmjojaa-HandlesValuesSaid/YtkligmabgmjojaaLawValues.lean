/-
  The statement HandlesValues answers true at all numbers.
-/
import Derived.Test.YtkligmabgmjojaaHAwake
namespace Go.Proofs.Ytkligmabgmjojaa
open Go.ChangeShapes Go.WideShapes Go.ChangeAt Go.RowKit

theorem place_valS (p : Nat) (d : Int) (h : p < 65536) : placeS (valS p d) = p := by
  unfold placeS valS
  have h1 := Int.emod_nonneg d (b := 65536) (by decide)
  have h2 := Int.emod_lt_of_pos d (b := 65536) (by decide)
  rw [if_neg (by omega)]
  omega
theorem valS_fit (p : Nat) (d : Int) (h : p < 65536) : fit (valS p d) := by
  unfold valS fit
  have h1 := Int.emod_nonneg d (b := 65536) (by decide)
  have h2 := Int.emod_lt_of_pos d (b := 65536) (by decide)
  omega

set_option maxRecDepth 20000 in
set_option maxHeartbeats 4000000 in
theorem values_walk (p d v : Int) (hp : fit p) (hv : fit v) (w : World) :
    Calls Try.prog 4 #[.int .i64 p, .int .i64 d, .int .i64 v] w fun e w' => e = .returned (.bool true) ∧ Turn NoBlock w w' := by
  have cA := awake_b (Turn.refl NoBlock w)
  have cP := fun w => place_any v w hv
  have cM := fun w => mod_any d w
  unfold fit at hp hv
  have hp3 : (∃ n : Nat, p = n ∧ n < 65536) ∨ p < 0 ∨ (0 ≤ p ∧ 65536 ≤ p) := by
    by_cases h1 : p < 0
    · exact .inr (.inl h1)
    · by_cases h2 : 65536 ≤ p
      · exact .inr (.inr ⟨by omega, h2⟩)
      · exact .inl ⟨p.toNat, by omega, by omega⟩
  have hv5 : (v < 0 ∧ placeS v = -1) ∨ (0 ≤ v ∧ 68719476736 ≤ v ∧ placeS v = -1) ∨ (0 ≤ v ∧ v < 68719476736 ∧ v % 4 ≠ 3 ∧ placeS v = -1) ∨ (0 ≤ v ∧ v < 68719476736 ∧ v % 4 = 3 ∧ 262144 ≤ v % 1048576 ∧ placeS v = -1) ∨
      (0 ≤ v ∧ v < 68719476736 ∧ v % 4 = 3 ∧ v % 1048576 < 262144 ∧ ∃ n : Nat, n < 65536 ∧ placeS v = n ∧ (v % 1048576 - 3) / 4 = n ∧ (v % 1048576 - 3).tdiv 4 = n ∧ valS n (v / 1048576) = v) := by
    by_cases h1 : v < 0
    · exact .inl ⟨h1, by unfold placeS; rw [if_pos (by omega)]⟩
    · by_cases h2 : 68719476736 ≤ v
      · exact .inr (.inl ⟨by omega, h2, by unfold placeS; rw [if_pos (by omega)]⟩)
      · by_cases h3 : v % 4 = 3
        · by_cases h4 : 262144 ≤ v % 1048576
          · exact .inr (.inr (.inr (.inl ⟨by omega, by omega, h3, h4, by unfold placeS; rw [if_pos (by omega)]⟩)))
          · refine .inr (.inr (.inr (.inr ⟨by omega, by omega, h3, by omega, (v / 4 % 262144).toNat, by omega, ?_, by omega, ?_, ?_⟩)))
            · unfold placeS; rw [if_neg (by omega)]; omega
            · rw [Int.tdiv_eq_ediv_of_nonneg (by omega)]; omega
            · unfold valS; omega
        · exact .inr (.inr (.inl ⟨by omega, by omega, h3, by unfold placeS; rw [if_pos (by omega)]⟩))
  rcases hp3 with ⟨n, rfl, hn⟩ | hp3 | ⟨hp3, hp4⟩
  · have cV := fun w => value_yes n d w hn
    have cQ := fun w => place_any (valS n d) w (valS_fit n d hn)
    rw [place_valS n d hn] at cQ
    have hV : valS n d = d % 65536 * 1048576 + n * 4 + 3 := rfl
    have h1 := Int.emod_nonneg d (b := 65536) (by decide)
    have h2 := Int.emod_lt_of_pos d (b := 65536) (by decide)
    rw [hV] at cV cQ
    generalize d % 65536 = m at *
    rcases hv5 with ⟨v1, v2⟩ | ⟨v1, v2, v3⟩ | ⟨v1, v2, v3, v4⟩ | ⟨v1, v2, v3, v4, v5⟩ | ⟨v1, v2, v3, v4, k, v5, v6, v7, v8, v9⟩
    · rw [v2] at cP
      go_enter Try.func4, Try.ntmps4
      go_wp2_with (first
        | (go_at_call 19; (with_reducible refine (cV _).mono ?_); rintro x w1 ⟨rfl, rfl⟩)
        | (go_at_call 20; (with_reducible refine (cM _).mono ?_); rintro x w1 ⟨rfl, rfl⟩)
        | (go_at_call 21; (with_reducible refine (cQ _).mono ?_); rintro x w1 ⟨rfl, rfl⟩)
        | (go_at_call 21; (with_reducible refine (cP _).mono ?_); rintro x w1 ⟨rfl, rfl⟩)
        | (go_at_call 10; (with_reducible refine cA.mono ?_); rintro x w1 ⟨rfl, hT⟩))
      go_ret
      exact ⟨rfl, hT⟩
    · rw [v3] at cP
      go_enter Try.func4, Try.ntmps4
      go_wp2_with (first
        | (go_at_call 19; (with_reducible refine (cV _).mono ?_); rintro x w1 ⟨rfl, rfl⟩)
        | (go_at_call 20; (with_reducible refine (cM _).mono ?_); rintro x w1 ⟨rfl, rfl⟩)
        | (go_at_call 21; (with_reducible refine (cQ _).mono ?_); rintro x w1 ⟨rfl, rfl⟩)
        | (go_at_call 21; (with_reducible refine (cP _).mono ?_); rintro x w1 ⟨rfl, rfl⟩)
        | (go_at_call 10; (with_reducible refine cA.mono ?_); rintro x w1 ⟨rfl, hT⟩))
      go_ret
      exact ⟨rfl, hT⟩
    · rw [v4] at cP
      go_enter Try.func4, Try.ntmps4
      go_wp2_with (first
        | (go_at_call 19; (with_reducible refine (cV _).mono ?_); rintro x w1 ⟨rfl, rfl⟩)
        | (go_at_call 20; (with_reducible refine (cM _).mono ?_); rintro x w1 ⟨rfl, rfl⟩)
        | (go_at_call 21; (with_reducible refine (cQ _).mono ?_); rintro x w1 ⟨rfl, rfl⟩)
        | (go_at_call 21; (with_reducible refine (cP _).mono ?_); rintro x w1 ⟨rfl, rfl⟩)
        | (go_at_call 10; (with_reducible refine cA.mono ?_); rintro x w1 ⟨rfl, hT⟩))
      go_ret
      exact ⟨rfl, hT⟩
    · rw [v5] at cP
      go_enter Try.func4, Try.ntmps4
      go_wp2_with (first
        | (go_at_call 19; (with_reducible refine (cV _).mono ?_); rintro x w1 ⟨rfl, rfl⟩)
        | (go_at_call 20; (with_reducible refine (cM _).mono ?_); rintro x w1 ⟨rfl, rfl⟩)
        | (go_at_call 21; (with_reducible refine (cQ _).mono ?_); rintro x w1 ⟨rfl, rfl⟩)
        | (go_at_call 21; (with_reducible refine (cP _).mono ?_); rintro x w1 ⟨rfl, rfl⟩)
        | (go_at_call 10; (with_reducible refine cA.mono ?_); rintro x w1 ⟨rfl, hT⟩))
      go_ret
      exact ⟨rfl, hT⟩
    · rw [v6] at cP
      have cW := fun w => value_yes k (v / 1048576) w v5
      rw [v9] at cW
      clear v9
      go_enter Try.func4, Try.ntmps4
      go_wp2_with (first
        | (go_at_call 19; (with_reducible refine (cV _).mono ?_); rintro x w1 ⟨rfl, rfl⟩)
        | (go_at_call 20; (with_reducible refine (cM _).mono ?_); rintro x w1 ⟨rfl, rfl⟩)
        | (go_at_call 21; (with_reducible refine (cQ _).mono ?_); rintro x w1 ⟨rfl, rfl⟩)
        | (go_at_call 21; (with_reducible refine (cP _).mono ?_); rintro x w1 ⟨rfl, rfl⟩)
        | (go_at_call 19; (with_reducible refine (cW _).mono ?_); rintro x w1 ⟨rfl, rfl⟩)
        | (go_at_call 10; (with_reducible refine cA.mono ?_); rintro x w1 ⟨rfl, hT⟩))
      go_ret
      exact ⟨rfl, hT⟩
  · have cV := fun w => value_no p d w (.inl hp3)
    rcases hv5 with ⟨v1, v2⟩ | ⟨v1, v2, v3⟩ | ⟨v1, v2, v3, v4⟩ | ⟨v1, v2, v3, v4, v5⟩ | ⟨v1, v2, v3, v4, k, v5, v6, v7, v8, v9⟩
    · rw [v2] at cP
      go_enter Try.func4, Try.ntmps4
      go_wp2_with (first
        | (go_at_call 19; (with_reducible refine (cV _).mono ?_); rintro x w1 ⟨rfl, rfl⟩)
        | (go_at_call 21; (with_reducible refine (cP _).mono ?_); rintro x w1 ⟨rfl, rfl⟩)
        | (go_at_call 10; (with_reducible refine cA.mono ?_); rintro x w1 ⟨rfl, hT⟩))
      go_ret
      exact ⟨rfl, hT⟩
    · rw [v3] at cP
      go_enter Try.func4, Try.ntmps4
      go_wp2_with (first
        | (go_at_call 19; (with_reducible refine (cV _).mono ?_); rintro x w1 ⟨rfl, rfl⟩)
        | (go_at_call 21; (with_reducible refine (cP _).mono ?_); rintro x w1 ⟨rfl, rfl⟩)
        | (go_at_call 10; (with_reducible refine cA.mono ?_); rintro x w1 ⟨rfl, hT⟩))
      go_ret
      exact ⟨rfl, hT⟩
    · rw [v4] at cP
      go_enter Try.func4, Try.ntmps4
      go_wp2_with (first
        | (go_at_call 19; (with_reducible refine (cV _).mono ?_); rintro x w1 ⟨rfl, rfl⟩)
        | (go_at_call 21; (with_reducible refine (cP _).mono ?_); rintro x w1 ⟨rfl, rfl⟩)
        | (go_at_call 10; (with_reducible refine cA.mono ?_); rintro x w1 ⟨rfl, hT⟩))
      go_ret
      exact ⟨rfl, hT⟩
    · rw [v5] at cP
      go_enter Try.func4, Try.ntmps4
      go_wp2_with (first
        | (go_at_call 19; (with_reducible refine (cV _).mono ?_); rintro x w1 ⟨rfl, rfl⟩)
        | (go_at_call 21; (with_reducible refine (cP _).mono ?_); rintro x w1 ⟨rfl, rfl⟩)
        | (go_at_call 10; (with_reducible refine cA.mono ?_); rintro x w1 ⟨rfl, hT⟩))
      go_ret
      exact ⟨rfl, hT⟩
    · rw [v6] at cP
      have cW := fun w => value_yes k (v / 1048576) w v5
      rw [v9] at cW
      clear v9
      go_enter Try.func4, Try.ntmps4
      go_wp2_with (first
        | (go_at_call 19; (with_reducible refine (cV _).mono ?_); rintro x w1 ⟨rfl, rfl⟩)
        | (go_at_call 21; (with_reducible refine (cP _).mono ?_); rintro x w1 ⟨rfl, rfl⟩)
        | (go_at_call 19; (with_reducible refine (cW _).mono ?_); rintro x w1 ⟨rfl, rfl⟩)
        | (go_at_call 10; (with_reducible refine cA.mono ?_); rintro x w1 ⟨rfl, hT⟩))
      go_ret
      exact ⟨rfl, hT⟩
  · have cV := fun w => value_no p d w (.inr ⟨hp3, hp4⟩)
    rcases hv5 with ⟨v1, v2⟩ | ⟨v1, v2, v3⟩ | ⟨v1, v2, v3, v4⟩ | ⟨v1, v2, v3, v4, v5⟩ | ⟨v1, v2, v3, v4, k, v5, v6, v7, v8, v9⟩
    · rw [v2] at cP
      go_enter Try.func4, Try.ntmps4
      go_wp2_with (first
        | (go_at_call 19; (with_reducible refine (cV _).mono ?_); rintro x w1 ⟨rfl, rfl⟩)
        | (go_at_call 21; (with_reducible refine (cP _).mono ?_); rintro x w1 ⟨rfl, rfl⟩)
        | (go_at_call 10; (with_reducible refine cA.mono ?_); rintro x w1 ⟨rfl, hT⟩))
      go_ret
      exact ⟨rfl, hT⟩
    · rw [v3] at cP
      go_enter Try.func4, Try.ntmps4
      go_wp2_with (first
        | (go_at_call 19; (with_reducible refine (cV _).mono ?_); rintro x w1 ⟨rfl, rfl⟩)
        | (go_at_call 21; (with_reducible refine (cP _).mono ?_); rintro x w1 ⟨rfl, rfl⟩)
        | (go_at_call 10; (with_reducible refine cA.mono ?_); rintro x w1 ⟨rfl, hT⟩))
      go_ret
      exact ⟨rfl, hT⟩
    · rw [v4] at cP
      go_enter Try.func4, Try.ntmps4
      go_wp2_with (first
        | (go_at_call 19; (with_reducible refine (cV _).mono ?_); rintro x w1 ⟨rfl, rfl⟩)
        | (go_at_call 21; (with_reducible refine (cP _).mono ?_); rintro x w1 ⟨rfl, rfl⟩)
        | (go_at_call 10; (with_reducible refine cA.mono ?_); rintro x w1 ⟨rfl, hT⟩))
      go_ret
      exact ⟨rfl, hT⟩
    · rw [v5] at cP
      go_enter Try.func4, Try.ntmps4
      go_wp2_with (first
        | (go_at_call 19; (with_reducible refine (cV _).mono ?_); rintro x w1 ⟨rfl, rfl⟩)
        | (go_at_call 21; (with_reducible refine (cP _).mono ?_); rintro x w1 ⟨rfl, rfl⟩)
        | (go_at_call 10; (with_reducible refine cA.mono ?_); rintro x w1 ⟨rfl, hT⟩))
      go_ret
      exact ⟨rfl, hT⟩
    · rw [v6] at cP
      have cW := fun w => value_yes k (v / 1048576) w v5
      rw [v9] at cW
      clear v9
      go_enter Try.func4, Try.ntmps4
      go_wp2_with (first
        | (go_at_call 19; (with_reducible refine (cV _).mono ?_); rintro x w1 ⟨rfl, rfl⟩)
        | (go_at_call 21; (with_reducible refine (cP _).mono ?_); rintro x w1 ⟨rfl, rfl⟩)
        | (go_at_call 19; (with_reducible refine (cW _).mono ?_); rintro x w1 ⟨rfl, rfl⟩)
        | (go_at_call 10; (with_reducible refine cA.mono ?_); rintro x w1 ⟨rfl, hT⟩))
      go_ret
      exact ⟨rfl, hT⟩
end Go.Proofs.Ytkligmabgmjojaa
