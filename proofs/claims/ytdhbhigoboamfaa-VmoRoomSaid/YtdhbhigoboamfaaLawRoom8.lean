/-
  The statement VmoRoom answers true at all numbers.
-/
import Derived.Test.YtdhbhigoboamfaaVRoomM
namespace Go.Proofs.Ytdhbhigoboamfaa
open Go.ChangeShapes Go.WideShapes Go.ChangeAt Go.RowKit

def no1 : Int → Option Int := fun _ => none
section
variable {w : World} {s : Nat} {r : Rep}
theorem rr_create1 {n : Nat} (h : SMem w s r (M0 n 3)) : Calls Try.prog 16 #[.pointer (some ⟨s, 0, none⟩), .int .i64 4096] w fun e w' => e = .returned (.tuple #[.int .i64 1, .int .i64 0]) ∧ ∃ r', SMem w' s r' (addM (M0 n 3) (newOb 4096 0 0 0)) ∧ VNext w s r w' r' :=
  create_yes h 4096 rfl (show 3 ≤ 65536 by decide) (show 0 < 4611686018427387904 by decide)
theorem rr_create2 {n : Nat} (h : SMem w s r (addM (M0 n 3) (newOb 4096 0 0 0))) : Calls Try.prog 16 #[.pointer (some ⟨s, 0, none⟩), .int .i64 4096] w fun e w' => e = .returned (.tuple #[.int .i64 2, .int .i64 0]) ∧ ∃ r', SMem w' s r' (RM (LL n 0 0) (pOb no1 0) (pOb no1 0)) ∧ VNext w s r w' r' := by
  have c := create_yes h 4096 rfl (show 3 ≤ 65536 by decide) (show 1 < 4611686018427387904 by decide)
  have e : addM (addM (M0 n 3) (newOb 4096 0 0 0)) (newOb (upS 4096) 0 0 0) = RM (LL n 0 0) (pOb no1 0) (pOb no1 0) := by
    unfold addM RM M0
    simp only
    rw [ll_start]
    congr 1
    funext i
    unfold updI
    simp only
    by_cases h2 : i = 2
    · subst h2; rfl
    · rw [if_neg (show ¬ i = (((0 + 1 : Nat) : Int) + 1) by omega)]
      by_cases h1 : i = 1
      · subst h1; rfl
      · rw [if_neg (show ¬ i = (((0 : Nat) : Int) + 1) by omega), if_neg h1, if_neg h2]
  rw [e] at c
  exact c
theorem fit_1 : fit 1 := by unfold fit; omega
theorem fit_2 : fit 2 := by unfold fit; omega
theorem mul64 (f : Nat) : 64 * (f : Int) = ((64 * f : Nat) : Int) := by omega
theorem ll_room0 (n u : Nat) (h : u ≤ n) : roomN (LL n 0 u) = (n : Int) - (u : Int) := by rw [ll_room n 0 u (Nat.zero_le _) h]; rfl

theorem rr_c1_no {n f : Nat} (h : SMem w s r (RM (LL n 0 0) (pOb no1 0) (pOb no1 0))) (hf : n < f) (h40 : f ≤ 40) :
    Calls Try.prog 29 #[.pointer (some ⟨s, 0, none⟩), .int .i64 1, .int .i64 1, .int .i64 0, .int .i64 (64 * (f : Int))] w fun e w' => e = .returned (.int .i64 (-4)) ∧ Turn NoBlock w w' := by
  rw [mul64]
  refine op1_no h (rm_chain _ _ _ _ _) (show 2 < 4611686018427387904 by decide) fit_1 (rm_1 _ _ _) rfl 0 (64 * f) rfl (by omega) (by omega) (show 0 + 64 * f ≤ 4096 by omega) (j := 1) (t' := 0) rfl (rm_1 _ _ _) (by decide) ?_
  rw [parts_whole, lack_whole _ _ _ _ _ (fun q _ _ => rfl)]
  show roomN (LL n 0 0) < _
  rw [ll_room0 n 0 (Nat.zero_le _)]
  omega
theorem rr_c1_yes {n f : Nat} (h : SMem w s r (RM (LL n 0 0) (pOb no1 0) (pOb no1 0))) (hf : f ≤ n) (h40 : f ≤ 40) :
    Calls Try.prog 29 #[.pointer (some ⟨s, 0, none⟩), .int .i64 1, .int .i64 1, .int .i64 0, .int .i64 (64 * (f : Int))] w fun e w' => e = .returned (.int .i64 0) ∧ ∃ r' g, (∀ q : Nat, q < f → g (q : Int) = some ((q : Nat) : Int)) ∧ SMem w' s r' (RM (LL n 0 f) (pOb g f) (pOb no1 0)) ∧ VNext w s r w' r' := by
  rw [mul64]
  obtain ⟨g, hg1, hg2, -⟩ := commit_whole n f 0 0 no1 0 (by omega) (fun q _ _ => rfl)
  rw [Nat.zero_add] at hg1
  have c := op1_yes h (rm_chain _ _ _ _ _) (show 2 < 4611686018427387904 by decide) fit_1 (rm_1 _ _ _) rfl 0 (64 * f) rfl (by omega) (by omega) (show 0 + 64 * f ≤ 4096 by omega) (j := 1) (t' := 0) rfl (rm_1 _ _ _) (by decide) (by
    rw [parts_whole, lack_whole _ _ _ _ _ (fun q _ _ => rfl)]
    show _ ≤ roomN (LL n 0 0)
    rw [ll_room0 n 0 (Nat.zero_le _)]
    omega) (ll_few _ _ _) (show 0 ≤ 1152921504606846976 by decide)
  rw [parts_whole] at c
  rw [show (⟨(RM (LL n 0 0) (pOb no1 0) (pOb no1 0)).L, (pOb no1 0).pgs, (pOb no1 0).cnt⟩ : PL) = ⟨LL n 0 0, no1, 0⟩ from rfl, hg1, rm_set1] at c
  refine c.mono ?_
  rintro e w' ⟨rfl, r', m, k⟩
  refine ⟨rfl, r', g, fun q hq => ?_, m, k⟩
  have := hg2 q (Nat.zero_le _) (by omega)
  rw [this, Nat.sub_zero, Nat.zero_add]
theorem rr_c2_no {n u f : Nat} {g : Int → Option Int} {c : Nat} (h : SMem w s r (RM (LL n 0 u) (pOb g c) (pOb no1 0))) (hu : u ≤ n) (hf : n < u + f) (h40 : f ≤ 40) :
    Calls Try.prog 29 #[.pointer (some ⟨s, 0, none⟩), .int .i64 2, .int .i64 1, .int .i64 0, .int .i64 (64 * (f : Int))] w fun e w' => e = .returned (.int .i64 (-4)) ∧ Turn NoBlock w w' := by
  rw [mul64]
  refine op1_no h (rm_chain _ _ _ _ _) (show 2 < 4611686018427387904 by decide) fit_2 (rm_2 _ _ _) rfl 0 (64 * f) rfl (by omega) (by omega) (show 0 + 64 * f ≤ 4096 by omega) (j := 2) (t' := 0) rfl (rm_2 _ _ _) (by decide) ?_
  rw [parts_whole, lack_whole _ _ _ _ _ (fun q _ _ => rfl)]
  show roomN (LL n 0 u) < _
  rw [ll_room0 n u hu]
  omega
theorem rr_c2_yes {n u f : Nat} {g0 : Int → Option Int} {c0 : Nat} (h : SMem w s r (RM (LL n 0 u) (pOb g0 c0) (pOb no1 0))) (hf : u + f ≤ n) (h40 : f ≤ 40) :
    Calls Try.prog 29 #[.pointer (some ⟨s, 0, none⟩), .int .i64 2, .int .i64 1, .int .i64 0, .int .i64 (64 * (f : Int))] w fun e w' => e = .returned (.int .i64 0) ∧ ∃ r' g, SMem w' s r' (RM (LL n 0 (u + f)) (pOb g0 c0) (pOb g f)) ∧ VNext w s r w' r' := by
  rw [mul64]
  obtain ⟨g, hg1, hg2, -⟩ := commit_whole n f 0 u no1 0 (by omega) (fun q _ _ => rfl)
  rw [Nat.zero_add] at hg1
  have c := op1_yes h (rm_chain _ _ _ _ _) (show 2 < 4611686018427387904 by decide) fit_2 (rm_2 _ _ _) rfl 0 (64 * f) rfl (by omega) (by omega) (show 0 + 64 * f ≤ 4096 by omega) (j := 2) (t' := 0) rfl (rm_2 _ _ _) (by decide) (by
    rw [parts_whole, lack_whole _ _ _ _ _ (fun q _ _ => rfl)]
    show _ ≤ roomN (LL n 0 u)
    rw [ll_room0 n u (by omega)]
    omega) (ll_few _ _ _) (show 0 ≤ 1152921504606846976 by decide)
  rw [parts_whole] at c
  rw [show (⟨(RM (LL n 0 u) (pOb g0 c0) (pOb no1 0)).L, (pOb no1 0).pgs, (pOb no1 0).cnt⟩ : PL) = ⟨LL n 0 u, no1, 0⟩ from rfl, hg1, rm_set2] at c
  refine c.mono ?_
  rintro e w' ⟨rfl, r', m, k⟩
  exact ⟨rfl, r', g, m, k⟩
theorem rr_room {L : List Pg} {a b : Ob} (h : SMem w s r (RM L a b)) (z : Int) (hz : roomN L = z) : Calls Try.prog 27 #[.pointer (some ⟨s, 0, none⟩)] w fun e w' => e = .returned (.int .i64 z) ∧ Turn NoBlock w w' := by
  refine (vroom_any h).mono ?_
  rintro e w' ⟨rfl, m, rfl⟩
  exact ⟨by rw [← hz]; rfl, (Turn.refl _ _).drewN m⟩
theorem rr_d_yes {n hi f cb : Nat} {g gb : Int → Option Int} (h : SMem w s r (RM (LL n 0 hi) (pOb g f) (pOb gb cb))) (hg : ∀ q : Nat, q < f → g (q : Int) = some ((q : Nat) : Int)) (hf : f ≤ hi) (hh : hi ≤ n) (h40 : f ≤ 40) :
    Calls Try.prog 29 #[.pointer (some ⟨s, 0, none⟩), .int .i64 1, .int .i64 2, .int .i64 0, .int .i64 (64 * (f : Int))] w fun e w' => e = .returned (.int .i64 0) ∧ ∃ r' g', SMem w' s r' (RM (LL n f hi) (pOb g' 0) (pOb gb cb)) ∧ VNext w s r w' r' := by
  rw [mul64]
  obtain ⟨g', hg1⟩ := rel_whole n hi f 0 0 g f (by omega) hh (Nat.le_refl _) (fun q _ hq => by rw [hg q (by omega), Nat.sub_zero, Nat.zero_add])
  rw [Nat.zero_add, Nat.sub_self] at hg1
  have c := op2_yes h (rm_chain _ _ _ _ _) (show 2 < 4611686018427387904 by decide) fit_1 (rm_1 _ _ _) rfl 0 (64 * f) rfl (by omega) (by omega) (show 0 + 64 * f ≤ 4096 by omega) (j := 1) (t' := 0) rfl (rm_1 _ _ _) (by decide) (ll_few _ _ _)
  rw [parts_whole] at c
  rw [show (⟨(RM (LL n 0 hi) (pOb g f) (pOb gb cb)).L, (pOb g f).pgs, (pOb g f).cnt⟩ : PL) = ⟨LL n 0 hi, g, f⟩ from rfl, hg1, rm_set1] at c
  refine c.mono ?_
  rintro e w' ⟨rfl, r', m, k⟩
  exact ⟨rfl, r', g', m, k⟩
theorem rr_d_no {n hi f cb : Nat} {gb : Int → Option Int} (h : SMem w s r (RM (LL n 0 hi) (pOb no1 0) (pOb gb cb))) (h40 : f ≤ 40) :
    Calls Try.prog 29 #[.pointer (some ⟨s, 0, none⟩), .int .i64 1, .int .i64 2, .int .i64 0, .int .i64 (64 * (f : Int))] w fun e w' => e = .returned (.int .i64 0) ∧ ∃ r', SMem w' s r' (RM (LL n 0 hi) (pOb no1 0) (pOb gb cb)) ∧ VNext w s r w' r' := by
  rw [mul64]
  have c := op2_yes h (rm_chain _ _ _ _ _) (show 2 < 4611686018427387904 by decide) fit_1 (rm_1 _ _ _) rfl 0 (64 * f) rfl (by omega) (by omega) (show 0 + 64 * f ≤ 4096 by omega) (j := 1) (t' := 0) rfl (rm_1 _ _ _) (by decide) (ll_few _ _ _)
  rw [parts_whole, rel_nothing _ _ _ (fun q _ _ => rfl)] at c
  rw [show (⟨(RM (LL n 0 hi) (pOb no1 0) (pOb gb cb)).L, (pOb no1 0).pgs, (pOb no1 0).cnt⟩ : PL) = ⟨LL n 0 hi, no1, 0⟩ from rfl, rm_set1] at c
  exact c
theorem rr_info {L : List Pg} {g : Int → Option Int} {b : Ob} (h : SMem w s r (RM L (pOb g 0) b)) : Calls Try.prog 25 #[.pointer (some ⟨s, 0, none⟩), .int .i64 1] w fun e w' => e = .returned (.tuple #[.agg #[.int .i64 4096, .int .i64 0, .int .i64 0, .int .i64 0, .bool false, .bool false], .bool true]) ∧ Turn NoBlock w w' :=
  info_yes h 1 fit_1 (rm_1 _ _ _)
end

set_option maxRecDepth 20000 in
set_option maxHeartbeats 4000000 in
theorem room8_past (n f m : Int) (w : World) (h : n < 0 ∨ 30 < n ∨ f < 0 ∨ 40 < f ∨ m < 0 ∨ 40 < m) :
    Calls Try.prog 6 #[.int .i64 n, .int .i64 f, .int .i64 m] w fun e w' => e = .returned (.bool true) ∧ Turn NoBlock w w' := by
  by_cases hn : n < 0 ∨ 65536 < n
  · have c1 := vnew_no n 3 w (by omega)
    clear h
    rcases hn with hn | hn
    · go_enter Try.func6, Try.ntmps6
      go_wp2_with (first
        | (go_at_call 14; (with_reducible refine c1.mono ?_); rintro x w1 ⟨rfl, t1⟩; have K1 := Lib.hid t1; clear t1)
        | (go_at_call 15; (with_reducible refine (awake8 _).mono ?_); rintro x w2 ⟨rfl, t2⟩; have K2 := Lib.hid (K1.out.trans t2 (fun _ h => .inl h)); clear t2))
      go_ret
      exact ⟨rfl, K2.out⟩
    · have h0 : ¬ n < 0 := by omega
      go_enter Try.func6, Try.ntmps6
      go_wp2_with (first
        | (go_at_call 14; (with_reducible refine c1.mono ?_); rintro x w1 ⟨rfl, t1⟩; have K1 := Lib.hid t1; clear t1)
        | (go_at_call 15; (with_reducible refine (awake8 _).mono ?_); rintro x w2 ⟨rfl, t2⟩; have K2 := Lib.hid (K1.out.trans t2 (fun _ h => .inl h)); clear t2))
      go_ret
      exact ⟨rfl, K2.out⟩
  · obtain ⟨k, rfl⟩ : ∃ k : Nat, n = k := ⟨n.toNat, by omega⟩
    have c1 : Calls Try.prog 14 #[.int .i64 (k : Int), .int .i64 3] w _ := vnew_yes k 3 w (by omega) (by omega)
    have hcs : (30 : Int) < k ∨ (¬ (30 : Int) < k ∧ f < 0) ∨ (¬ (30 : Int) < k ∧ ¬ f < 0 ∧ 40 < f) ∨ (¬ (30 : Int) < k ∧ ¬ f < 0 ∧ ¬ 40 < f ∧ m < 0) ∨ (¬ (30 : Int) < k ∧ ¬ f < 0 ∧ ¬ 40 < f ∧ ¬ m < 0 ∧ 40 < m) := by omega
    clear h hn
    rcases hcs with h1 | ⟨h1, h2⟩ | ⟨h1, h2, h3⟩ | ⟨h1, h2, h3, h4⟩ | ⟨h1, h2, h3, h4, h5⟩
    all_goals
      go_enter Try.func6, Try.ntmps6
      go_wp2_with (first
        | (go_at_call 14; (with_reducible refine c1.mono ?_); rintro x w1 ⟨s, r, rfl, m1, t1, f1⟩; have K1 := Lib.hid t1; clear m1 t1 f1)
        | (go_at_call 15; (with_reducible refine (awake8 _).mono ?_); rintro x w2 ⟨rfl, t2⟩; have K2 := Lib.hid (K1.out.trans t2 (fun _ h => .inl h)); clear t2))
      go_ret
      exact ⟨rfl, K2.out⟩

set_option maxRecDepth 20000 in
set_option maxHeartbeats 8000000 in
theorem room8_walk (n f m : Nat) (w : World) (hn : n ≤ 30) (hf : f ≤ 40) (hm : m ≤ 40) :
    Calls Try.prog 6 #[.int .i64 n, .int .i64 f, .int .i64 m] w fun e w' => e = .returned (.bool true) ∧ Turn NoBlock w w' := by
  have c1 : Calls Try.prog 14 #[.int .i64 (n : Int), .int .i64 3] w _ := vnew_yes n 3 w (by omega) (by omega)
  have g1 : ¬ (30 : Int) < n := by omega
  have g2 : ¬ (f : Int) < 0 := by omega
  have g3 : ¬ (40 : Int) < f := by omega
  have g4 : ¬ (m : Int) < 0 := by omega
  have g5 : ¬ (40 : Int) < m := by omega
  have HF := Lib.hid hf
  have HM := Lib.hid hm
  have HN := Lib.hid hn
  by_cases hfn : f ≤ n
  · have p1 : (f : Int) ≤ n := by omega
    by_cases hmn : f + m ≤ n
    · have p2 : (m : Int) ≤ (n : Int) - f := by omega
      have HA := Lib.hid (And.intro hfn hmn)
      clear hn hf hm hfn hmn
      go_enter Try.func6, Try.ntmps6
      go_wp2_with (first
        | (go_at_call 14; (with_reducible refine c1.mono ?_); rintro x w1 ⟨s, r, rfl, m1, t1, f1⟩; have K1 := Lib.hid (show VSt w w1 s r (M0 n 3) from ⟨m1, t1, f1⟩); clear m1 t1 f1)
        | (go_at_call 15; (with_reducible refine (awake8 _).mono ?_); rintro x w10 ⟨rfl, t10⟩; have K10 := Lib.hid (K9.out.turn.trans t10 (fun _ h => .inl h)); clear t10)
        | (go_at_call 27; (with_reducible refine (rr_room K8.out.mem ((n : Int) - ((f : Int) + m) + f) (by rw [ll_room _ _ _ (by omega) HA.out.2]; omega)).mono ?_); rintro x w9 ⟨rfl, t9⟩; have K9 := Lib.hid (K8.out.past t9); clear t9)
        | (go_at_call 25; (with_reducible refine (rr_info K7.out.mem).mono ?_); rintro x w8 ⟨rfl, t8⟩; have K8 := Lib.hid ((K7.out.past t8).past ((Turn.refl NoBlock _).alloc (.cells #[.int .i64 4096, .int .i64 0, .int .i64 0, .int .i64 0, .bool false, .bool false] 45))); clear t8)
        | (go_at_call 29; (with_reducible refine (rr_d_yes K6.out.mem HG.out (Nat.le_add_right _ _) HA.out.2 HF.out).mono ?_); rintro x w7 ⟨rfl, r7, g7, m7, k7⟩; have K7 := Lib.hid (K6.out.next m7 k7); clear m7 k7)
        | (go_at_call 27; (with_reducible refine (rr_room K5.out.mem ((n : Int) - ((f : Int) + m)) (by rw [ll_room0 _ _ HA.out.2]; omega)).mono ?_); rintro x w6 ⟨rfl, t6⟩; have K6 := Lib.hid (K5.out.past t6); clear t6)
        | (go_at_call 29; (with_reducible refine (rr_c2_yes K4.out.mem HA.out.2 HM.out).mono ?_); rintro x w5 ⟨rfl, r5, g5', m5, k5⟩; have K5 := Lib.hid (K4.out.next m5 k5); clear m5 k5)
        | (go_at_call 29; (with_reducible refine (rr_c1_yes K3.out.mem HA.out.1 HF.out).mono ?_); rintro x w4 ⟨rfl, r4, g4', hg4, m4, k4⟩; have HG := Lib.hid hg4; have K4 := Lib.hid (K3.out.next m4 k4); clear m4 k4 hg4)
        | (go_at_call 16; (with_reducible refine (rr_create2 K2.out.mem).mono ?_); rintro x w3 ⟨rfl, r3, m3, k3⟩; have K3 := Lib.hid (K2.out.next m3 k3); clear m3 k3)
        | (go_at_call 16; (with_reducible refine (rr_create1 K1.out.mem).mono ?_); rintro x w2 ⟨rfl, r2, m2, k2⟩; have K2 := Lib.hid (K1.out.next m2 k2); clear m2 k2))
      go_ret
      exact ⟨rfl, K10.out⟩
    · have p2 : ¬ (m : Int) ≤ (n : Int) - f := by omega
      have HA := Lib.hid (And.intro hfn (show n < f + m by omega))
      clear hn hf hm hfn hmn
      go_enter Try.func6, Try.ntmps6
      go_wp2_with (first
        | (go_at_call 14; (with_reducible refine c1.mono ?_); rintro x w1 ⟨s, r, rfl, m1, t1, f1⟩; have K1 := Lib.hid (show VSt w w1 s r (M0 n 3) from ⟨m1, t1, f1⟩); clear m1 t1 f1)
        | (go_at_call 15; (with_reducible refine (awake8 _).mono ?_); rintro x w10 ⟨rfl, t10⟩; have K10 := Lib.hid (K9.out.turn.trans t10 (fun _ h => .inl h)); clear t10)
        | (go_at_call 27; (with_reducible refine (rr_room K8.out.mem ((n : Int) - (f : Int) + f) (by rw [ll_room _ _ _ (Nat.le_refl _) HA.out.1]; omega)).mono ?_); rintro x w9 ⟨rfl, t9⟩; have K9 := Lib.hid (K8.out.past t9); clear t9)
        | (go_at_call 25; (with_reducible refine (rr_info K7.out.mem).mono ?_); rintro x w8 ⟨rfl, t8⟩; have K8 := Lib.hid ((K7.out.past t8).past ((Turn.refl NoBlock _).alloc (.cells #[.int .i64 4096, .int .i64 0, .int .i64 0, .int .i64 0, .bool false, .bool false] 45))); clear t8)
        | (go_at_call 29; (with_reducible refine (rr_d_yes K6.out.mem HG.out (Nat.le_refl _) HA.out.1 HF.out).mono ?_); rintro x w7 ⟨rfl, r7, g7, m7, k7⟩; have K7 := Lib.hid (K6.out.next m7 k7); clear m7 k7)
        | (go_at_call 27; (with_reducible refine (rr_room K5.out.mem ((n : Int) - (f : Int)) (by rw [ll_room0 _ _ HA.out.1])).mono ?_); rintro x w6 ⟨rfl, t6⟩; have K6 := Lib.hid (K5.out.past t6); clear t6)
        | (go_at_call 29; (with_reducible refine (rr_c2_no K4.out.mem HA.out.1 (by have := HA.out.2; omega) HM.out).mono ?_); rintro x w5 ⟨rfl, t5⟩; have K5 := Lib.hid (K4.out.past t5); clear t5)
        | (go_at_call 29; (with_reducible refine (rr_c1_yes K3.out.mem HA.out.1 HF.out).mono ?_); rintro x w4 ⟨rfl, r4, g4', hg4, m4, k4⟩; have HG := Lib.hid hg4; have K4 := Lib.hid (K3.out.next m4 k4); clear m4 k4 hg4)
        | (go_at_call 16; (with_reducible refine (rr_create2 K2.out.mem).mono ?_); rintro x w3 ⟨rfl, r3, m3, k3⟩; have K3 := Lib.hid (K2.out.next m3 k3); clear m3 k3)
        | (go_at_call 16; (with_reducible refine (rr_create1 K1.out.mem).mono ?_); rintro x w2 ⟨rfl, r2, m2, k2⟩; have K2 := Lib.hid (K1.out.next m2 k2); clear m2 k2))
      go_ret
      exact ⟨rfl, K10.out⟩
  · have p1 : ¬ (f : Int) ≤ n := by omega
    by_cases hmn : m ≤ n
    · have p2 : (m : Int) ≤ (n : Int) := by omega
      have HA := Lib.hid (And.intro (show n < f by omega) hmn)
      clear hn hf hm hfn hmn
      go_enter Try.func6, Try.ntmps6
      go_wp2_with (first
        | (go_at_call 14; (with_reducible refine c1.mono ?_); rintro x w1 ⟨s, r, rfl, m1, t1, f1⟩; have K1 := Lib.hid (show VSt w w1 s r (M0 n 3) from ⟨m1, t1, f1⟩); clear m1 t1 f1)
        | (go_at_call 15; (with_reducible refine (awake8 _).mono ?_); rintro x w10 ⟨rfl, t10⟩; have K10 := Lib.hid (K8.out.turn.trans t10 (fun _ h => .inl h)); clear t10)
        | (go_at_call 25; (with_reducible refine (rr_info K7.out.mem).mono ?_); rintro x w8 ⟨rfl, t8⟩; have K8 := Lib.hid ((K7.out.past t8).past ((Turn.refl NoBlock _).alloc (.cells #[.int .i64 4096, .int .i64 0, .int .i64 0, .int .i64 0, .bool false, .bool false] 45))); clear t8)
        | (go_at_call 29; (with_reducible refine (rr_d_no K6.out.mem HF.out).mono ?_); rintro x w7 ⟨rfl, r7, m7, k7⟩; have K7 := Lib.hid (K6.out.next m7 k7); clear m7 k7)
        | (go_at_call 27; (with_reducible refine (rr_room K5.out.mem ((n : Int) - (m : Int)) (by rw [ll_room0 _ _ (by have := HA.out.2; omega)]; omega)).mono ?_); rintro x w6 ⟨rfl, t6⟩; have K6 := Lib.hid (K5.out.past t6); clear t6)
        | (go_at_call 29; (with_reducible refine (rr_c2_yes K4.out.mem (by have := HA.out.2; omega) HM.out).mono ?_); rintro x w5 ⟨rfl, r5, g5', m5, k5⟩; have K5 := Lib.hid (K4.out.next m5 k5); clear m5 k5)
        | (go_at_call 29; (with_reducible refine (rr_c1_no K3.out.mem HA.out.1 HF.out).mono ?_); rintro x w4 ⟨rfl, t4⟩; have K4 := Lib.hid (K3.out.past t4); clear t4)
        | (go_at_call 16; (with_reducible refine (rr_create2 K2.out.mem).mono ?_); rintro x w3 ⟨rfl, r3, m3, k3⟩; have K3 := Lib.hid (K2.out.next m3 k3); clear m3 k3)
        | (go_at_call 16; (with_reducible refine (rr_create1 K1.out.mem).mono ?_); rintro x w2 ⟨rfl, r2, m2, k2⟩; have K2 := Lib.hid (K1.out.next m2 k2); clear m2 k2))
      go_ret
      exact ⟨rfl, K10.out⟩
    · have p2 : ¬ (m : Int) ≤ (n : Int) := by omega
      have HA := Lib.hid (And.intro (show n < f by omega) (show n < m by omega))
      clear hn hf hm hfn hmn
      go_enter Try.func6, Try.ntmps6
      go_wp2_with (first
        | (go_at_call 14; (with_reducible refine c1.mono ?_); rintro x w1 ⟨s, r, rfl, m1, t1, f1⟩; have K1 := Lib.hid (show VSt w w1 s r (M0 n 3) from ⟨m1, t1, f1⟩); clear m1 t1 f1)
        | (go_at_call 15; (with_reducible refine (awake8 _).mono ?_); rintro x w10 ⟨rfl, t10⟩; have K10 := Lib.hid (K8.out.turn.trans t10 (fun _ h => .inl h)); clear t10)
        | (go_at_call 25; (with_reducible refine (rr_info K7.out.mem).mono ?_); rintro x w8 ⟨rfl, t8⟩; have K8 := Lib.hid ((K7.out.past t8).past ((Turn.refl NoBlock _).alloc (.cells #[.int .i64 4096, .int .i64 0, .int .i64 0, .int .i64 0, .bool false, .bool false] 45))); clear t8)
        | (go_at_call 29; (with_reducible refine (rr_d_no K6.out.mem HF.out).mono ?_); rintro x w7 ⟨rfl, r7, m7, k7⟩; have K7 := Lib.hid (K6.out.next m7 k7); clear m7 k7)
        | (go_at_call 27; (with_reducible refine (rr_room K5.out.mem (n : Int) (by rw [ll_room0 _ _ (Nat.zero_le _)]; omega)).mono ?_); rintro x w6 ⟨rfl, t6⟩; have K6 := Lib.hid (K5.out.past t6); clear t6)
        | (go_at_call 29; (with_reducible refine (rr_c2_no K4.out.mem (Nat.zero_le _) (by have := HA.out.2; omega) HM.out).mono ?_); rintro x w5 ⟨rfl, t5⟩; have K5 := Lib.hid (K4.out.past t5); clear t5)
        | (go_at_call 29; (with_reducible refine (rr_c1_no K3.out.mem HA.out.1 HF.out).mono ?_); rintro x w4 ⟨rfl, t4⟩; have K4 := Lib.hid (K3.out.past t4); clear t4)
        | (go_at_call 16; (with_reducible refine (rr_create2 K2.out.mem).mono ?_); rintro x w3 ⟨rfl, r3, m3, k3⟩; have K3 := Lib.hid (K2.out.next m3 k3); clear m3 k3)
        | (go_at_call 16; (with_reducible refine (rr_create1 K1.out.mem).mono ?_); rintro x w2 ⟨rfl, r2, m2, k2⟩; have K2 := Lib.hid (K1.out.next m2 k2); clear m2 k2))
      go_ret
      exact ⟨rfl, K10.out⟩
end Go.Proofs.Ytdhbhigoboamfaa
