/-
  The statement NumUp answers true at all pairs of numbers of 64 bits.
-/
import Derived.Test.YtdpkkkkmohnhgaaNumCalls
import Derived.Test.YtdpkkkkmohnhgaaNumMath2
import Derived.Outline
import Derived.Deep.Light
namespace Go.Proofs.Ytdpkkkkmohnhgaa
open Go.ChangeShapes Go.WideShapes Go.ChangeAt Go.RowKit


theorem up_walk_no (n to : Int) (w : World) (h : to < 1 ∨ n < 0) :
    Calls Try.prog 10 #[.int .i64 n, .int .i64 to] w fun e w' => e = .returned (.bool true) ∧ w = w' := by
  have c1 := fun w => up_no n to w h
  have c2 := fun w => down_no n to w h
  have c3 := awake_any
  by_cases ht : to < 1
  · clear h
    go_enter Try.func10, Try.ntmps10
    go_wp2_with (first | (go_at_call 23; (with_reducible refine (c1 _).mono ?_); rintro e w' ⟨rfl, rfl⟩) | (go_at_call 22; (with_reducible refine (c2 _).mono ?_); rintro e w' ⟨rfl, rfl⟩) | (go_at_call 19; (with_reducible refine (c3 _).mono ?_); rintro e w' ⟨rfl, rfl⟩))
    all_goals
      go_ret
      exact ⟨rfl, rfl⟩
  · have hn : n < 0 := by omega
    clear h
    go_enter Try.func10, Try.ntmps10
    go_wp2_with (first | (go_at_call 23; (with_reducible refine (c1 _).mono ?_); rintro e w' ⟨rfl, rfl⟩) | (go_at_call 22; (with_reducible refine (c2 _).mono ?_); rintro e w' ⟨rfl, rfl⟩) | (go_at_call 19; (with_reducible refine (c3 _).mono ?_); rintro e w' ⟨rfl, rfl⟩))
    all_goals
      go_ret
      exact ⟨rfl, rfl⟩
theorem up_walk_same (n to : Int) (w : World) (hn : 0 ≤ n) (hn' : n ≤ 9223372036854775807) (ht : 1 ≤ to) (ht' : to ≤ 9223372036854775807) (h : n % to = 0) :
    Calls Try.prog 10 #[.int .i64 n, .int .i64 to] w fun e w' => e = .returned (.bool true) ∧ w = w' := by
  have c1 := fun w => up_same n to w hn hn' ht ht' h
  have c2 := fun w => down_yes n to w hn hn' ht ht'
  rw [h, Int.sub_zero] at c2
  have c3 := awake_any
  go_enter Try.func10, Try.ntmps10
  go_wp2_with (first | (go_at_call 23; (with_reducible refine (c1 _).mono ?_); rintro e w' ⟨rfl, rfl⟩) | (go_at_call 22; (with_reducible refine (c2 _).mono ?_); rintro e w' ⟨rfl, rfl⟩) | (go_at_call 19; (with_reducible refine (c3 _).mono ?_); rintro e w' ⟨rfl, rfl⟩))
  all_goals
    go_ret
    exact ⟨rfl, rfl⟩
theorem up_walk_far (n to : Int) (w : World) (hn : 0 ≤ n) (hn' : n ≤ 9223372036854775807) (ht : 1 ≤ to) (ht' : to ≤ 9223372036854775807) (h : n % to ≠ 0) (hf : ¬ fit (n - n % to + to)) :
    Calls Try.prog 10 #[.int .i64 n, .int .i64 to] w fun e w' => e = .returned (.bool true) ∧ w = w' := by
  have c1 := fun w => up_far n to w hn hn' ht ht' h hf
  have c2 := fun w => down_yes n to w hn hn' ht ht'
  have c3 := awake_any
  obtain ⟨hm, hm', -⟩ := emod_le n to hn ht
  obtain ⟨d, hd⟩ : ∃ d, n - n % to = d := ⟨_, rfl⟩
  rw [hd] at c2 hf
  have h1 : (d != n) = true := by simp; omega
  have h2 : 9223372036854775807 - to < d := by unfold fit at hf; omega
  have h3 : d ≤ 9223372036854775807 := by omega
  clear hf h hd hm hm'
  go_enter Try.func10, Try.ntmps10
  go_wp2_with (first | (go_at_call 23; (with_reducible refine (c1 _).mono ?_); rintro e w' ⟨rfl, rfl⟩) | (go_at_call 22; (with_reducible refine (c2 _).mono ?_); rintro e w' ⟨rfl, rfl⟩) | (go_at_call 19; (with_reducible refine (c3 _).mono ?_); rintro e w' ⟨rfl, rfl⟩))
  all_goals
    go_ret
    exact ⟨rfl, rfl⟩
theorem up_walk_yes (n to : Int) (w : World) (hn : 0 ≤ n) (hn' : n ≤ 9223372036854775807) (ht : 1 ≤ to) (ht' : to ≤ 9223372036854775807) (h : n % to ≠ 0) (hf : fit (n - n % to + to)) :
    Calls Try.prog 10 #[.int .i64 n, .int .i64 to] w fun e w' => e = .returned (.bool true) ∧ w = w' := by
  have c1 := fun w => up_yes n to w hn hn' ht ht' h hf
  have c2 := fun w => down_yes n to w hn hn' ht ht'
  have c3 := awake_any
  obtain ⟨hm, hm', hm''⟩ := emod_le n to hn ht
  have hz : (n - n % to + to) % to = 0 := by
    rw [Int.add_emod_right]
    exact Int.emod_eq_zero_of_dvd (Int.dvd_self_sub_emod)
  obtain ⟨u, hu⟩ : ∃ u, n - n % to + to = u := ⟨_, rfl⟩
  obtain ⟨d, hd⟩ : ∃ d, n - n % to = d := ⟨_, rfl⟩
  obtain ⟨r, hr⟩ : ∃ r, n % to = r := ⟨_, rfl⟩
  rw [hu] at c1 hf hz
  rw [hd] at c2
  rw [hd] at hu
  rw [hr] at h hm hm' hm'' hd
  unfold fit at hf
  have c4 := fun w => down_yes u to w (by omega) hf.2 ht ht'
  rw [hz, Int.sub_zero] at c4
  have h1 : (d == u) = false := by simp; omega
  have h2 : (r == 0) = false := by simp; omega
  have h3 : n ≤ u := by omega
  have h4 : u - n < to := by omega
  have h5 : u ≤ 9223372036854775807 := hf.2
  clear hf h hd hm hm' hm'' hu hz
  go_enter Try.func10, Try.ntmps10
  go_wp2_with (first | (go_at_call 23; (with_reducible refine (c1 _).mono ?_); rintro e w' ⟨rfl, rfl⟩) | (go_at_call 22; (with_reducible refine (c2 _).mono ?_); rintro e w' ⟨rfl, rfl⟩) | (go_at_call 22; (with_reducible refine (c4 _).mono ?_); rintro e w' ⟨rfl, rfl⟩) | (go_at_call 19; (with_reducible refine (c3 _).mono ?_); rintro e w' ⟨rfl, rfl⟩))
  all_goals
    go_ret
    exact ⟨rfl, rfl⟩
theorem up_walk (n to : Int) (w : World) (ha : fit n) (hb : fit to) :
    Calls Try.prog 10 #[.int .i64 n, .int .i64 to] w fun e w' => e = .returned (.bool true) ∧ w = w' := by
  by_cases h : to < 1 ∨ n < 0
  · exact up_walk_no n to w h
  · have h1 : 0 ≤ n := by omega
    have h2 : 1 ≤ to := by omega
    by_cases h3 : n % to = 0
    · exact up_walk_same n to w h1 ha.2 h2 hb.2 h3
    · by_cases h4 : fit (n - n % to + to)
      · exact up_walk_yes n to w h1 ha.2 h2 hb.2 h3 h4
      · exact up_walk_far n to w h1 ha.2 h2 hb.2 h3 h4
end Go.Proofs.Ytdpkkkkmohnhgaa
