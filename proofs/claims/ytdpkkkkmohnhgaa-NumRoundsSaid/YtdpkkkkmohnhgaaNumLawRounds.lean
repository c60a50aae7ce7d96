/-
  The statement NumRounds answers true at all pairs of numbers of 64 bits.
-/
import Derived.Test.YtdpkkkkmohnhgaaNumCalls
import Derived.Test.YtdpkkkkmohnhgaaNumTold
import Derived.Deep.QuietTactic
import Derived.BigQuiet
import Derived.Deep.RegionHeld3
import Derived.Deep.DeepCutAuto
namespace Go.Proofs.Ytdpkkkkmohnhgaa
open Go.ChangeShapes Go.WideShapes Go.ChangeAt Go.RowKit

set_option maxRecDepth 100000 in
set_option maxHeartbeats 4000000 in
theorem rounds_no (n m : Int) (w : World) (h : m < 1 ∨ n < 0) :
    Calls Try.prog 5 #[.int .i64 n, .int .i64 m] w fun e w' => e = .returned (.bool true) ∧ Below w.heap.size w w' := by
  have c1 := fun w => down_no n m w h
  have c2 := fun w => up_no n m w h
  have c0 := awake_any
  by_cases ht : m < 1
  · clear h
    go_enter Try.func5, Try.ntmps5
    go_wp2_with (first | (go_at_call 22; (with_reducible refine (c1 _).mono ?_); rintro e w' ⟨rfl, rfl⟩) | (go_at_call 23; (with_reducible refine (c2 _).mono ?_); rintro e w' ⟨rfl, rfl⟩) | (go_at_call 19; (with_reducible refine (c0 _).mono ?_); rintro e w' ⟨rfl, rfl⟩))
    go_ret
    exact ⟨rfl, Below.refl _ _⟩
  · have hn : n < 0 := by omega
    clear h
    go_enter Try.func5, Try.ntmps5
    go_wp2_with (first | (go_at_call 22; (with_reducible refine (c1 _).mono ?_); rintro e w' ⟨rfl, rfl⟩) | (go_at_call 23; (with_reducible refine (c2 _).mono ?_); rintro e w' ⟨rfl, rfl⟩) | (go_at_call 19; (with_reducible refine (c0 _).mono ?_); rintro e w' ⟨rfl, rfl⟩))
    go_ret
    exact ⟨rfl, Below.refl _ _⟩
set_option maxRecDepth 100000 in
set_option maxHeartbeats 4000000 in
theorem rounds_same (n m : Int) (s : Bool) (x : Nat → Int) (w : World) (g2 : 0 ≤ n) (g4 : n % m = 0) (g5 : 1 ≤ m) (g6 : n ≤ 9223372036854775807) (g7 : m ≤ 9223372036854775807)
    (c1 : ∀ w, Calls Try.prog 22 #[.int .i64 n, .int .i64 m] w fun e w' => e = .returned (.tuple #[.int .i64 n, .bool true]) ∧ w = w')
    (c2 : ∀ w, Calls Try.prog 23 #[.int .i64 n, .int .i64 m] w fun e w' => e = .returned (.tuple #[.int .i64 n, .bool true]) ∧ w = w')
    (c3 : ∀ w, Calls Try.prog 13 #[.int .i64 n] w fun e w' => e = .returned (.agg #[.int .i64 (x 0), .int .i64 (x 1), .int .i64 (x 2), .int .i64 (x 3), .int .i64 (x 4), .int .i64 0, .int .i64 0, .int .i64 0, .int .i64 0, .int .i64 0, .int .i64 0, .int .i64 0, .bool s]) ∧ Below w.heap.size w w')
    (c6 : ∀ w, Calls Try.prog 16 #[.int .i64 n, .bool true, .agg #[.int .i64 (x 0), .int .i64 (x 1), .int .i64 (x 2), .int .i64 (x 3), .int .i64 (x 4), .int .i64 0, .int .i64 0, .int .i64 0, .int .i64 0, .int .i64 0, .int .i64 0, .int .i64 0, .bool s]] w fun e w' => e = .returned (.bool true) ∧ Below w.heap.size w w') :
    Calls Try.prog 5 #[.int .i64 n, .int .i64 m] w fun e w' => e = .returned (.bool true) ∧ Below w.heap.size w w' := by
  have c0 := awake_any
  go_enter Try.func5, Try.ntmps5
  go_wp2_with (first | (go_at_call 22; (with_reducible refine (c1 _).mono ?_); rintro e w' ⟨rfl, rfl⟩) | (go_at_call 23; (with_reducible refine (c2 _).mono ?_); rintro e w' ⟨rfl, rfl⟩) | (go_at_call 13; (with_reducible refine (c3 _).mono ?_); rintro e w1 ⟨rfl, hb1⟩) | (go_at_call 16; (with_reducible refine (c6 _).mono ?_); rintro e w4 ⟨rfl, hb4⟩) | (go_at_call 19; (with_reducible refine (c0 _).mono ?_); rintro e w' ⟨rfl, rfl⟩))
  go_ret
  refine ⟨rfl, ?_⟩
  exact (hb1.alloc (by have := hb1.size; omega) _).trans (hb4.mono (by have := hb1.size; simp; omega))
set_option maxRecDepth 100000 in
set_option maxHeartbeats 4000000 in
theorem rounds_up (n m l h : Int) (s t q ok : Bool) (x y r : Nat → Int) (w : World) (g0 : (l != n) = true) (g1 : l ≤ n) (g2 : 0 ≤ l) (g3 : n - l < m) (g4 : l % m = 0) (g5 : 1 ≤ m) (g6 : n ≤ 9223372036854775807) (g7 : m ≤ 9223372036854775807)
    (c1 : ∀ w, Calls Try.prog 22 #[.int .i64 n, .int .i64 m] w fun e w' => e = .returned (.tuple #[.int .i64 l, .bool true]) ∧ w = w')
    (c2 : ∀ w, Calls Try.prog 23 #[.int .i64 n, .int .i64 m] w fun e w' => e = .returned (.tuple #[.int .i64 h, .bool ok]) ∧ w = w')
    (c3 : ∀ w, Calls Try.prog 13 #[.int .i64 l] w fun e w' => e = .returned (.agg #[.int .i64 (x 0), .int .i64 (x 1), .int .i64 (x 2), .int .i64 (x 3), .int .i64 (x 4), .int .i64 0, .int .i64 0, .int .i64 0, .int .i64 0, .int .i64 0, .int .i64 0, .int .i64 0, .bool s]) ∧ Below w.heap.size w w')
    (c4 : ∀ w, Calls Try.prog 13 #[.int .i64 m] w fun e w' => e = .returned (.agg #[.int .i64 (y 0), .int .i64 (y 1), .int .i64 (y 2), .int .i64 (y 3), .int .i64 (y 4), .int .i64 0, .int .i64 0, .int .i64 0, .int .i64 0, .int .i64 0, .int .i64 0, .int .i64 0, .bool t]) ∧ Below w.heap.size w w')
    (c5 : ∀ w, Calls Try.prog 17 #[.agg #[.int .i64 (x 0), .int .i64 (x 1), .int .i64 (x 2), .int .i64 (x 3), .int .i64 (x 4), .int .i64 0, .int .i64 0, .int .i64 0, .int .i64 0, .int .i64 0, .int .i64 0, .int .i64 0, .bool s], .agg #[.int .i64 (y 0), .int .i64 (y 1), .int .i64 (y 2), .int .i64 (y 3), .int .i64 (y 4), .int .i64 0, .int .i64 0, .int .i64 0, .int .i64 0, .int .i64 0, .int .i64 0, .int .i64 0, .bool t]] w fun e w' => e = .returned (.agg #[.int .i64 (r 0), .int .i64 (r 1), .int .i64 (r 2), .int .i64 (r 3), .int .i64 (r 4), .int .i64 0, .int .i64 0, .int .i64 0, .int .i64 0, .int .i64 0, .int .i64 0, .int .i64 0, .bool q]) ∧ Below w.heap.size w w')
    (c6 : ∀ w, Calls Try.prog 16 #[.int .i64 h, .bool ok, .agg #[.int .i64 (r 0), .int .i64 (r 1), .int .i64 (r 2), .int .i64 (r 3), .int .i64 (r 4), .int .i64 0, .int .i64 0, .int .i64 0, .int .i64 0, .int .i64 0, .int .i64 0, .int .i64 0, .bool q]] w fun e w' => e = .returned (.bool true) ∧ Below w.heap.size w w') :
    Calls Try.prog 5 #[.int .i64 n, .int .i64 m] w fun e w' => e = .returned (.bool true) ∧ Below w.heap.size w w' := by
  have c0 := awake_any
  have g8 : 0 ≤ n := by omega
  go_enter Try.func5, Try.ntmps5
  go_upto_region 9 with (first | (go_at_call 22; (with_reducible refine (c1 _).mono ?_); rintro e w' ⟨rfl, rfl⟩) | (go_at_call 23; (with_reducible refine (c2 _).mono ?_); rintro e w' ⟨rfl, rfl⟩) | (go_at_call 13; (with_reducible refine (c3 _).mono ?_); rintro e w1 ⟨rfl, hb1⟩) | (go_at_call 13; (with_reducible refine (c4 _).mono ?_); rintro e w2 ⟨rfl, hb2⟩))
  clear c1 c2 c3 g0 g1 g2 g3 g4 g5 g6 g7 g8
  go_region_with (first | (go_at_call 13; (with_reducible refine (c4 _).mono ?_); rintro e w2 ⟨rfl, hb2⟩; obtain ⟨hc2, hf2⟩ := bcell hb2; have hz2 : w1.heap.size < w2.heap.size := by (have := hb2.size; simp at this; omega)) | (go_at_call 17; (with_reducible refine (c5 _).mono ?_); rintro e w3 ⟨rfl, hb3⟩; obtain ⟨hc3, hf3⟩ := bcell hb3; have hz3 : w2.heap.size ≤ w3.heap.size := hb3.size))
  all_goals
    go_wp2_with (first | (go_at_call 16; (with_reducible refine (c6 _).mono ?_); rintro e w4 ⟨rfl, hb4⟩) | (go_at_call 19; (with_reducible refine (c0 _).mono ?_); rintro e w' ⟨rfl, rfl⟩))
    go_ret
    refine ⟨rfl, ?_⟩
    have z1 := hb1.size
    have z2 := hb2.size
    have z3 := hb3.size
    simp at z2
    have z4 : w.heap.size ≤ w2.heap.size := by omega
    have z5 : w.heap.size ≤ w3.heap.size := by omega
    with_reducible refine Below.trans ?_ (hb4.mono ?_)
    · iterate 13 ((with_reducible refine Below.setCell ?_ z1 _))
      with_reducible refine Below.trans ?_ (hb3.mono z4)
      with_reducible refine Below.trans ?_ (hb2.mono ?_)
      · exact (hb1.alloc z1 _).drew
      · simp; omega
    · simp only [World.size_setCell]; exact z5
theorem rounds_walk (n m : Int) (w : World) (hn : fit n) (hm : fit m) :
    Calls Try.prog 5 #[.int .i64 n, .int .i64 m] w fun e w' => e = .returned (.bool true) ∧ Below w.heap.size w w' := by
  by_cases h : m < 1 ∨ n < 0
  · exact rounds_no n m w h
  · have h1 : 0 ≤ n := by omega
    have h2 : 1 ≤ m := by omega
    have h3 := hn.2
    have h4 := hm.2
    have cd := fun w => down_yes n m w h1 h3 h2 h4
    obtain ⟨e1, e2, e3⟩ := emod_le n m h1 h2
    have hz : (n - n % m) % m = 0 := Int.emod_eq_zero_of_dvd (Int.dvd_self_sub_emod)
    by_cases hs : n % m = 0
    · rw [hs, Int.sub_zero] at cd
      obtain ⟨k, ok, hc, hr⟩ := int5 (dig n) _ n (of_num n hn)
      obtain ⟨rfl, rfl⟩ := told_one (.inl ⟨rfl, rfl, hn⟩) hr
      exact rounds_same k m _ (dig k) w h1 hs h2 h3 h4 cd (fun w => up_same k m w h1 h3 h2 h4 hs) (of_val k hn) (fun w => same5 k true (dig k) _ w hc (fun h => by cases h))
    · obtain ⟨l, hl⟩ : ∃ l, n - n % m = l := ⟨_, rfl⟩
      have hlf : fit l := by unfold fit; omega
      obtain ⟨r, q, nr, _, c5⟩ := add_val (dig l) (dig m) _ _ l m (of_num l hlf) (of_num m hm) (by have := dig_size l hlf; have := dig_size m hm; omega)
      obtain ⟨k, ok, hc, hr⟩ := int5 r q _ nr
      have cu : ∀ w, Calls Try.prog 23 #[.int .i64 n, .int .i64 m] w fun e w' => e = .returned (.tuple #[.int .i64 k, .bool ok]) ∧ w = w' := by
        intro w
        by_cases hf : fit (l + m)
        · obtain ⟨rfl, rfl⟩ := told_one (.inl ⟨rfl, rfl, hf⟩) hr
          rw [← hl]
          exact up_yes n m w h1 h3 h2 h4 hs (by rw [hl]; exact hf)
        · obtain ⟨rfl, rfl⟩ := told_one (.inr ⟨rfl, rfl, hf⟩) hr
          exact up_far n m w h1 h3 h2 h4 hs (by rw [hl]; exact hf)
      rw [hl] at cd hz
      exact rounds_up n m l k _ _ q ok (dig l) (dig m) r w (by simp; omega) (by omega) (by omega) (by omega) hz h2 h3 h4 cd cu (of_val l hlf) (of_val m hm) c5 (fun w => same5 k ok r q w hc (told_zero hr))
end Go.Proofs.Ytdpkkkkmohnhgaa
