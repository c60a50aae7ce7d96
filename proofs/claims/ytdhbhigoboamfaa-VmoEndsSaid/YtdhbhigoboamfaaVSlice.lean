/-
  window, Slice, and Snapshot of a slice. No conditions but that the set is one that calls can make.
-/
import Derived.Test.YtdhbhigoboamfaaVCreate
import Derived.Test.YtdhbhigoboamfaaVBehind
import Derived.Test.YtdhbhigoboamfaaVCommit
namespace Go.Proofs.Ytdhbhigoboamfaa
open Go.ChangeShapes Go.WideShapes Go.ChangeAt Go.RowKit

def winS (M : Mod) (i t n : Int) : Int := if findS M i ≠ 0 then -25 else if t < 0 ∨ n < 0 ∨ ¬ t % 64 = 0 ∨ ¬ n % 64 = 0 then -10 else match M.O i with | none => 0 | some o => if t + n ≤ (o.size : Int) then 0 else -14
section
variable {w : World} {s : Nat} {r : Rep} {M : Mod}
theorem find_ok {i : Int} (h : findS M i = 0) : ∃ o, M.O i = some o ∧ o.drp = false := by
  unfold findS at h
  cases hO : M.O i with
  | none => rw [hO] at h; simp at h
  | some o =>
    rw [hO] at h
    refine ⟨o, rfl, ?_⟩
    cases hd : o.drp with
    | false => rfl
    | true => simp [hd] at h
theorem find_of {i : Int} {o : Ob} (hO : M.O i = some o) (hd : o.drp = false) : findS M i = 0 := by unfold findS; rw [hO]; simp [hd]

set_option maxRecDepth 20000 in
theorem window_no (h : SMem w s r M) (hc : Chain M.O) (i t n : Int) (hi : fit i) (ht : fit t) (hn : fit n) (hs : winS M i t n ≠ 0) :
    Calls Try.prog 55 #[.pointer (some ⟨s, 0, none⟩), .int .i64 i, .int .i64 t, .int .i64 n] w fun e w' => e = .returned (.tuple #[.pointer none, .int .i64 (winS M i t n)]) ∧ w = w' := by
  unfold winS at *
  by_cases h1 : findS M i ≠ 0
  · rw [if_pos h1]
    have c := find_no h i hi h1
    clear h hs h1 hc
    go_enter Try.func55, Try.ntmps55
    go_wp2_with (go_at_call 49; (with_reducible refine c.mono ?_); rintro x w1 ⟨rfl, rfl⟩)
    go_ret2
    exact ⟨rfl, rfl⟩
  · rw [if_neg h1] at hs ⊢
    obtain ⟨o, hO, hd⟩ := find_ok (Classical.not_not.1 h1)
    obtain ⟨a, pb, hA, hB, hcell, hpm⟩ := h.live hO
    have c := find_yes h i hi hO hd hA
    have cw := fun w => whole_any t n w
    by_cases h2 : t < 0 ∨ n < 0 ∨ ¬ t % 64 = 0 ∨ ¬ n % 64 = 0
    · rw [if_pos h2]
      clear h hs h1 hc hO hA hB hcell hpm hd
      have hcs : (t < 0 ∧ t ≤ n) ∨ (n < 0 ∧ ¬ t ≤ n) ∨ (n < 0 ∧ t ≤ n ∧ t < 0) ∨ (0 ≤ t ∧ 0 ≤ n ∧ (decide (t % 64 = 0) && decide (n % 64 = 0)) = false) := by
        by_cases ha : t < 0
        · by_cases hb : t ≤ n
          · exact .inl ⟨ha, hb⟩
          · exact .inr (.inl ⟨by omega, hb⟩)
        · by_cases hb : n < 0
          · exact .inr (.inl ⟨hb, by omega⟩)
          · refine .inr (.inr (.inr ⟨by omega, by omega, ?_⟩))
            rcases h2 with h2 | h2 | h2 | h2
            · omega
            · omega
            · rw [decide_eq_false h2, Bool.false_and]
            · rw [decide_eq_false h2, Bool.and_false]
      clear h2
      rcases hcs with ⟨k1, k2⟩ | ⟨k1, k2⟩ | ⟨k1, k2, k3⟩ | ⟨k1, k2, k3⟩
      · go_enter Try.func55, Try.ntmps55
        go_wp2_with (first | (go_at_call 49; (with_reducible refine c.mono ?_); rintro x w1 ⟨rfl, rfl⟩))
        all_goals
          go_ret2
          exact ⟨rfl, rfl⟩
      · go_enter Try.func55, Try.ntmps55
        go_wp2_with (first | (go_at_call 49; (with_reducible refine c.mono ?_); rintro x w1 ⟨rfl, rfl⟩))
        all_goals
          go_ret2
          exact ⟨rfl, rfl⟩
      · go_enter Try.func55, Try.ntmps55
        go_wp2_with (first | (go_at_call 49; (with_reducible refine c.mono ?_); rintro x w1 ⟨rfl, rfl⟩))
        all_goals
          go_ret2
          exact ⟨rfl, rfl⟩
      · generalize (decide (t % 64 = 0) && decide (n % 64 = 0)) = b at *
        subst k3
        have k4 : ¬ t < 0 := by omega
        have k5 : ¬ n < 0 := by omega
        by_cases k6 : t ≤ n
        all_goals
          go_enter Try.func55, Try.ntmps55
          go_wp2_with (first | (go_at_call 49; (with_reducible refine c.mono ?_); rintro x w1 ⟨rfl, rfl⟩) | (go_at_call 59; (with_reducible refine (cw _).mono ?_); rintro x w1 ⟨rfl, rfl⟩))
          all_goals
            go_ret2
            exact ⟨rfl, rfl⟩
    · rw [if_neg h2] at hs ⊢
      rw [hO] at hs ⊢
      simp only at hs ⊢
      by_cases h3 : t + n ≤ (o.size : Int)
      · rw [if_pos h3] at hs; exact absurd rfl hs
      rw [if_neg h3]
      have hsm := hc.small i o hO
      have c50 := fun w => within_no t n (o.size : Int) w (by omega) ht hn (by unfold fit; omega)
      have d0 := (ocells hcell).c0
      have hw : (decide (t % 64 = 0) && decide (n % 64 = 0)) = true := by
        rw [decide_eq_true (by omega), decide_eq_true (by omega)]; rfl
      have k4 : ¬ t < 0 := by omega
      have k5 : ¬ n < 0 := by omega
      clear h hs h1 h2 h3 hc hO hA hB hcell hpm hd hsm
      generalize (decide (t % 64 = 0) && decide (n % 64 = 0)) = b at *
      subst hw
      by_cases k6 : t ≤ n
      all_goals
        go_enter Try.func55, Try.ntmps55
        go_wp2_with (first | (go_at_call 49; (with_reducible refine c.mono ?_); rintro x w1 ⟨rfl, rfl⟩) | (go_at_call 59; (with_reducible refine (cw _).mono ?_); rintro x w1 ⟨rfl, rfl⟩) | (go_at_call 50; (with_reducible refine (c50 _).mono ?_); rintro x w1 ⟨rfl, rfl⟩))
        all_goals
          go_ret2
          exact ⟨rfl, rfl⟩
set_option maxRecDepth 20000 in
theorem window_yes (h : SMem w s r M) (hc : Chain M.O) (i t n : Int) (hi : fit i) {o : Ob} {a : Nat} (hO : M.O i = some o) (hA : r.A i = some a) (hs : winS M i t n = 0) :
    Calls Try.prog 55 #[.pointer (some ⟨s, 0, none⟩), .int .i64 i, .int .i64 t, .int .i64 n] w fun e w' => e = .returned (.tuple #[.pointer (some ⟨a, 0, none⟩), .int .i64 0]) ∧ w = w' := by
  unfold winS at hs
  by_cases h1 : findS M i ≠ 0
  · rw [if_pos h1] at hs; simp at hs
  rw [if_neg h1] at hs
  obtain ⟨o', hO', hd⟩ := find_ok (Classical.not_not.1 h1)
  rw [hO] at hO'
  cases hO'
  by_cases h2 : t < 0 ∨ n < 0 ∨ ¬ t % 64 = 0 ∨ ¬ n % 64 = 0
  · rw [if_pos h2] at hs; simp at hs
  rw [if_neg h2, hO] at hs
  simp only at hs
  have h3 : t + n ≤ (o.size : Int) := by
    by_cases h3 : t + n ≤ (o.size : Int)
    · exact h3
    · rw [if_neg h3] at hs; simp at hs
  obtain ⟨a', pb, hA', hB, hcell, hpm⟩ := h.live hO
  rw [hA] at hA'
  cases hA'
  have c := find_yes h i hi hO hd hA
  have cw := fun w => whole_any t n w
  have hsm := hc.small i o hO
  have c50 := fun w => within_yes t n (o.size : Int) w (by omega) (by omega)
  have d0 := (ocells hcell).c0
  have hw : (decide (t % 64 = 0) && decide (n % 64 = 0)) = true := by
    rw [decide_eq_true (by omega), decide_eq_true (by omega)]; rfl
  have k4 : ¬ t < 0 := by omega
  have k5 : ¬ n < 0 := by omega
  clear h hs h1 h2 h3 hc hO hA hB hcell hpm hd hsm
  generalize (decide (t % 64 = 0) && decide (n % 64 = 0)) = b at *
  subst hw
  by_cases k6 : t ≤ n
  all_goals
    go_enter Try.func55, Try.ntmps55
    go_wp2_with (first | (go_at_call 49; (with_reducible refine c.mono ?_); rintro x w1 ⟨rfl, rfl⟩) | (go_at_call 59; (with_reducible refine (cw _).mono ?_); rintro x w1 ⟨rfl, rfl⟩) | (go_at_call 50; (with_reducible refine (c50 _).mono ?_); rintro x w1 ⟨rfl, rfl⟩))
    all_goals
      go_ret2
      exact ⟨rfl, rfl⟩
end
end Go.Proofs.Ytdhbhigoboamfaa
