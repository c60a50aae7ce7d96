/-
  SpaceGuards' walk.
-/
import Derived.Test.YtdddmjdlikjedaaLawGuR
namespace Go.Proofs.Ytdddmjdlikjedaa
open Go.ChangeShapes Go.WideShapes Go.ChangeAt Go.RowKit

set_option maxRecDepth 100000 in
set_option maxHeartbeats 0 in
theorem gu_walk (one two x n : Int) (w : World) (fn : fit n) : Calls Try.prog 12 #[.agg #[.int .i64 one, .int .i64 two, .int .i64 x, .int .i64 n]] w fun e w' => e = .returned (.bool true) ∧ Turn NoBlock w w' := by
  have cA := awake10
  go_enter Try.func12, Try.ntmps12
  go_wp2_with (fail)
  refine gu_reg1 one two x n w _ _ (Lib.hid ?_)
  intro b3 b4 b5 b6 y20 y21 y22 y23 y24 y25 y26 y27 wc hT hB
  have HB := Lib.hid (And.intro hT hB)
  clear hT hB
  have c1 : Calls Try.prog 14 #[.int .i64 20, .int .i64 3] wc _ := vnew_yes 20 3 wc (by omega) (by omega)
  have HC := Lib.hid (fun (w' : World) (t : Turn NoBlock wc w') => HB.out.2.past t)
  by_cases hp : one < 0 ∨ 3 < one ∨ two < 0 ∨ 3 < two ∨ x < 0 ∨ n < 0 ∨ 128 < x ∨ 128 - x < n
  · --Q[
    have hq : (one < 0) ∨ (¬ one < 0 ∧ 3 < one) ∨ (¬ one < 0 ∧ ¬ 3 < one ∧ two < 0) ∨ (¬ one < 0 ∧ ¬ 3 < one ∧ ¬ two < 0 ∧ 3 < two) ∨ (¬ one < 0 ∧ ¬ 3 < one ∧ ¬ two < 0 ∧ ¬ 3 < two ∧ x < 0) ∨ (¬ one < 0 ∧ ¬ 3 < one ∧ ¬ two < 0 ∧ ¬ 3 < two ∧ ¬ x < 0 ∧ n < 0) ∨ (¬ one < 0 ∧ ¬ 3 < one ∧ ¬ two < 0 ∧ ¬ 3 < two ∧ ¬ x < 0 ∧ ¬ n < 0 ∧ 128 < x) ∨ (¬ one < 0 ∧ ¬ 3 < one ∧ ¬ two < 0 ∧ ¬ 3 < two ∧ ¬ x < 0 ∧ ¬ n < 0 ∧ ¬ 128 < x ∧ 128 - x < n) := by omega
    clear hp
    rcases hq with h1 | ⟨h1, h2⟩ | ⟨h1, h2, h3⟩ | ⟨h1, h2, h3, h4⟩ | ⟨h1, h2, h3, h4, h5⟩ | ⟨h1, h2, h3, h4, h5, h6⟩ | ⟨h1, h2, h3, h4, h5, h6, h7⟩ | ⟨h1, h2, h3, h4, h5, h6, h7, h8⟩
    all_goals
      try (have hw : IntKind.i64.wrap (128 - x) = 128 - x := wrap_fit (by unfold fit; omega))
      go_wp2_with (first
        | (go_at_call 14; (with_reducible refine c1.mono ?_); rintro e w1 ⟨s, r, rfl, m1, t1, f1⟩; obtain ⟨y3, y4, y5, y6⟩ := HC.out _ t1; have T1 := Lib.hid t1; clear m1 t1 f1)
        | (go_at_call 39; (with_reducible refine (cA _).mono ?_); rintro e w2 ⟨rfl, t2⟩))
      go_ret
      exact ⟨rfl, (HB.out.1.trans T1.out (fun _ h => .inl h)).trans t2 (fun _ h => .inl h)⟩
    --Q]
  · have g1 : 0 ≤ one ∧ one ≤ 3 := by omega
    have g2 : 0 ≤ two ∧ two ≤ 3 := by omega
    have gx : 0 ≤ x ∧ x ≤ 128 := by omega
    obtain ⟨N, hN⟩ : ∃ N : Nat, n = (N : Int) := ⟨n.toNat, by omega⟩
    subst hN
    have gn : x + (N : Int) ≤ 128 := by omega
    have hw : IntKind.i64.wrap (128 - x) = 128 - x := wrap_fit (by unfold fit; omega)
    have hbe : ((N : Int) != (N : Int)) = false := by simp
    have HG := Lib.hid (And.intro g1 (And.intro g2 (And.intro gx gn)))
    have e1 : ¬ one < 0 := by omega
    have e2 : ¬ 3 < one := by omega
    have e3 : ¬ two < 0 := by omega
    have e4 : ¬ 3 < two := by omega
    have e5 : ¬ x < 0 := by omega
    have e6 : ¬ 128 < x := by omega
    have e7 : ¬ 128 - x < (N : Int) := by omega
    have HM1 := Lib.hid (fun (w' : World) (b : Box4 w' b3 b4 b5 b6 one two x (N : Int)) => may_any (bit := 1) b g1 g2 gx (by omega) (.inl rfl))
    have HM2 := Lib.hid (fun (w' : World) (b : Box4 w' b3 b4 b5 b6 one two x (N : Int)) => may_any (bit := 2) b g1 g2 gx (by omega) (.inr rfl))
    clear hp g1 g2 gx gn fn
    go_wp2_with (first
      | (go_at_call 41; (with_reducible refine (gu_map2 K4.out HG.out.2.1).mono ?_); rintro e w5 ⟨rfl, k5⟩; have K5 := Lib.hid k5; obtain ⟨y3, y4, y5, y6⟩ := HC.out _ k5.turn; clear k5)
      | (go_at_call 41; (with_reducible refine (gu_map1 K3.out HG.out.1).mono ?_); rintro e w4 ⟨rfl, k4⟩; have K4 := Lib.hid k4; obtain ⟨y3, y4, y5, y6⟩ := HC.out _ k4.turn; clear k4)
      | (go_at_call 40; (with_reducible refine (znew_any s 128 4 _ (by unfold isMul; omega) (by omega) (by omega)).mono ?_); rintro e w3 ⟨rfl, rfl⟩; have K3 := Lib.hid (sps_new K2.out 128 4 (by omega)))
      | (go_at_call 16; (with_reducible refine (so_create K1.out.mem (by omega) 128 (by omega) (by omega)).mono ?_); rintro e w2 ⟨rfl, r2, m2, k2⟩; have K2 := Lib.hid (show VSt wc w2 s r2 (ZN 20 3 128) from K1.out.next m2 k2); obtain ⟨y3, y4, y5, y6⟩ := HC.out _ K2.out.turn; have l3 := World.block_lt_of_cell? _ _ y3; have l4 := World.block_lt_of_cell? _ _ y4; have l5 := World.block_lt_of_cell? _ _ y5; have l6 := World.block_lt_of_cell? _ _ y6; simp only at l3 l4 l5 l6; clear m2 k2)
      | (go_at_call 14; (with_reducible refine c1.mono ?_); rintro e w1 ⟨s, r, rfl, m1, t1, f1⟩; have K1 := Lib.hid (show VSt wc w1 s r (M0 20 3) from ⟨m1, t1, f1⟩); obtain ⟨y3, y4, y5, y6⟩ := HC.out _ t1; clear m1 t1 f1))
    cases hb1 : mayB one two x (N : Int) 1 <;> cases hb2 : mayB one two x (N : Int) 2
    all_goals
      have HB1 := Lib.hid hb1
      have HB2 := Lib.hid hb2
      first
        | ((with_reducible refine (K5.out.rdYes N HG.out.2.2.1.1 HG.out.2.2.2 hb1).mono ?_); rintro e w6 ⟨q, cq, rfl, t6⟩)
        | ((with_reducible refine (K5.out.rdNo N HG.out.2.2.1.1 HG.out.2.2.2 hb1).mono ?_); rintro e w6 ⟨rfl, t6⟩)
      have K6 := Lib.hid (K5.out.past t6)
      have x5 := (HC.out _ K6.out.turn).c5
      have x6 := (HC.out _ K6.out.turn).c6
      obtain ⟨W7, hmk, tmk, cW⟩ := mk_wrBy (K6.out.past ((Turn.refl NoBlock w6).drew)) (by omega) N HG.out.2.2.1.1 HG.out.2.2.2 _ hb2
      simp only [cond_true, cond_false, World.size_drew] at cW hmk
      have z5 := (HC.out _ ((K6.out.turn.drew).trans tmk (fun _ h => .inl h))).c5
      have z6 := (HC.out _ ((K6.out.turn.drew).trans tmk (fun _ h => .inl h))).c6
      clear t6 tmk hb1 hb2
      go_wp2_with (fail)
      go_region_held3 (fun w' => w'.cell? ⟨b5, 0, none⟩ = some (.int .i64 x) ∧ w'.cell? ⟨b6, 0, none⟩ = some (.int .i64 (N : Int))) ((refine ⟨?_, ?_⟩ <;> (first | assumption)))
        (first
          | (go_at_call 42; (with_reducible refine cW.mono ?_); rintro e w8 ⟨rfl, k8⟩; have K8 := Lib.hid k8; have y5 := (HC.out _ k8.turn).c5; have y6 := (HC.out _ k8.turn).c6; clear k8))
      have cm1 := HM1.out w8 (HC.out _ K8.out.turn)
      have cm2 := HM2.out w8 (HC.out _ K8.out.turn)
      rw [HB1.out] at cm1
      rw [HB2.out] at cm2
      clear hmk cW z5 z6 x5 x6
      go_wp2_with (first
        | (go_at_call 43; (with_reducible refine (K9.out.rdYes N HG.out.2.2.1.1 HG.out.2.2.2 (may33 _ _ _)).mono ?_); rintro e w10 ⟨q2, cq2, rfl, t10⟩; have K10 := Lib.hid (K9.out.past t10); have v5 := (HC.out _ K10.out.turn).c5; have v6 := (HC.out _ K10.out.turn).c6; clear t10)
        | (go_at_call 46; (with_reducible refine (K8.out.protect).mono ?_); rintro e w9 ⟨rfl, k9⟩; have K9 := Lib.hid k9; have y5 := (HC.out _ k9.turn).c5; have y6 := (HC.out _ k9.turn).c6; clear k9)
        | (go_at_call 45; (with_reducible refine cm1.mono ?_); rintro e w9 ⟨rfl, rfl⟩)
        | (go_at_call 45; (with_reducible refine cm2.mono ?_); rintro e w9 ⟨rfl, rfl⟩))
      obtain ⟨W11, hmk2, tmk2, cW2⟩ := mk_wrBy (K10.out.past ((Turn.refl NoBlock w10).drew)) (by omega) N HG.out.2.2.1.1 HG.out.2.2.2 true (may33 _ _ _)
      simp only [cond_true, World.size_drew] at cW2 hmk2
      have p5 := (HC.out _ ((K10.out.turn.drew).trans tmk2 (fun _ h => .inl h))).c5
      have p6 := (HC.out _ ((K10.out.turn.drew).trans tmk2 (fun _ h => .inl h))).c6
      clear tmk2 cm1 cm2 y5 y6
      go_region_held3 (fun w' => w'.cell? ⟨b5, 0, none⟩ = some (.int .i64 x) ∧ w'.cell? ⟨b6, 0, none⟩ = some (.int .i64 (N : Int))) ((refine ⟨?_, ?_⟩ <;> (first | assumption)))
        (first
          | (go_at_call 42; (with_reducible refine cW2.mono ?_); rintro e w12 ⟨rfl, k12⟩; have K12 := Lib.hid k12; have p5 := (HC.out _ k12.turn).c5; have p6 := (HC.out _ k12.turn).c6; clear k12))
      clear hmk2 cW2
      go_wp2_with (go_at_call 39; (with_reducible refine (cA _).mono ?_); rintro e w13 ⟨rfl, t13⟩)
      go_ret
      exact ⟨rfl, (HB.out.1.trans K12.out.turn (fun _ h => .inl h)).trans t13 (fun _ h => .inl h)⟩
end Go.Proofs.Ytdddmjdlikjedaa
