/-
  SpaceDrops' walk.
-/
import Derived.Test.YtdddmjdlikjedaaGreatLawDr2
namespace Go.Proofs.YtdddmjdlikjedaaGreat
open Go.ChangeShapes Go.WideShapes Go.ChangeAt Go.RowKit

set_option maxRecDepth 20000 in
theorem dr_past (n d : Int) (w : World) (h : n < 1 ∨ 8 < n) : Calls Tryz.prog 3 #[.int .i64 n, .int .i64 d] w fun e w' => e = .returned (.bool true) ∧ Turn NoBlock w w' := by
  have c1 : Calls Tryz.prog 4 #[.int .i64 20, .int .i64 10] w _ := vnew_yes 20 10 w (by omega) (by omega)
  have cA := awake10
  have hc : n < 1 ∨ (¬ n < 1 ∧ 8 < n) := by omega
  clear h
  rcases hc with h1 | ⟨h1, h2⟩
  all_goals
    go_enter Tryz.func3, Tryz.ntmps3
    go_wp2_with (first
      | (go_at_call 4; (with_reducible refine c1.mono ?_); rintro x w1 ⟨s, r, rfl, m1, t1, f1⟩; have T1 := Lib.hid t1; clear m1 t1 f1)
      | (go_at_call 5; (with_reducible refine (cA _).mono ?_); rintro e w2 ⟨rfl, t2⟩))
    go_ret
    exact ⟨rfl, T1.out.trans t2 (fun _ h => .inl h)⟩

set_option maxRecDepth 20000 in
set_option maxHeartbeats 4000000 in
theorem dr_walk (N : Nat) (d : Int) (w : World) (h0 : 1 ≤ N) (h8 : N ≤ 8) : Calls Tryz.prog 3 #[.int .i64 (N : Int), .int .i64 d] w fun e w' => e = .returned (.bool true) ∧ Turn NoBlock w w' := by
  have c1 : Calls Tryz.prog 4 #[.int .i64 20, .int .i64 10] w _ := vnew_yes 20 10 w (by omega) (by omega)
  have cA := awake10
  have hN1 : ¬ (N : Int) < 1 := by omega
  have hN8 : ¬ 8 < (N : Int) := by omega
  go_enter Tryz.func3, Tryz.ntmps3
  go_wp2_with (first
    | (go_at_call 6; (with_reducible refine (znew_any s 1024 20 _ (by unfold isMul; omega) (by omega) (by omega)).mono ?_); rintro x w3 ⟨rfl, rfl⟩; have K3 := Lib.hid (sps_new K1.out 1024 20 (by omega)))
    | (go_at_call 4; (with_reducible refine c1.mono ?_); rintro x w1 ⟨s, r, rfl, m1, t1, f1⟩; have K1 := Lib.hid (show VSt w w1 s r (Mk 0) from ⟨mk_zero ▸ m1, t1, f1⟩); clear m1 t1 f1))
  obtain ⟨c, hc⟩ : ∃ c, c = w1.heap.size + 1 := ⟨_, rfl⟩
  obtain ⟨a, ha⟩ : ∃ a, a = w1.heap.size := ⟨_, rfl⟩
  rw [← hc, ← ha] at K3
  rw [← hc]
  try rw [← ha]
  have D0 := Lib.hid (show D1 w _ c s a 0 d from ⟨⟨r, [], K3.out, RunQ.nil _, by rw [if_neg (by omega)]; rfl, rfl⟩⟩)
  clear hc ha
  go_loopg [40] N (fun g s40 wr => ∃ k : Nat, k ≤ N ∧ g = N - k ∧ s40 = .int .i64 k ∧ Hid (D1 w wr c s a k d))
  case atStart => exact ⟨0, by omega, by omega, rfl, D0⟩
  case round =>
    obtain ⟨k, hk, hg, rfl, HT⟩ := hrel
    by_cases hlt : k < N
    · have cC := HT.out.create (by omega)
      have hw1 : IntKind.i64.wrap (64 * (k : Int)) = 64 * (k : Int) := wrap_fit (by unfold fit; omega)
      have hbe : ((64 * (k : Int)) != (64 * (k : Int))) = false := by simp
      go_wp2_with (first
        | (go_at_call 7; (with_reducible refine cC.mono ?_); rintro e w4 ⟨rfl, hm⟩; have cM := hm.out _ (Turn.refl _ _))
        | (go_at_call 8; (with_reducible refine cM.mono ?_); rintro e w5 ⟨rfl, g5⟩; have G5 := Lib.hid g5; clear g5))
      go_roundg (N - (k + 1))
      case measure => omega
      case rel => exact ⟨k + 1, by omega, by omega, by go_num, G5⟩
    · obtain rfl : k = N := by omega
      by_cases hd : d < 1 ∨ (¬ d < 1 ∧ (k : Int) < d)
      · rcases hd with hd | ⟨hd, hd2⟩
        all_goals
          go_wp2_with (go_at_call 5; (with_reducible refine (cA _).mono ?_); rintro e w2 ⟨rfl, t2⟩)
          go_ret
          exact ⟨rfl, HT.out.turn.trans t2 (fun _ h => .inl h)⟩
      · have hd1 : ¬ d < 1 := by omega
        have hd2 : ¬ (k : Int) < d := by omega
        have cD := HT.out.drop h8 (by omega)
        go_wp2_with (go_at_call 9; (with_reducible refine cD.mono ?_); rintro e w4 ⟨q, m, cq, rfl, g4⟩; have G4 := Lib.hid g4; clear g4)
        go_loopg [80] k (fun g s80 wr => ∃ (i m : Nat), i ≤ k ∧ m ≤ i ∧ g = k - i ∧ s80 = .int .i64 i ∧ Hid (D2 w wr c s a k d m))
        case atStart => exact ⟨0, 0, by omega, by omega, by omega, rfl, G4⟩
        case round =>
          obtain ⟨i, m', hi, hm, hg2, rfl, H2⟩ := hrel
          by_cases hlt2 : i < k
          · have hw1 : IntKind.i64.wrap (64 * (i : Int)) = 64 * (i : Int) := wrap_fit (by unfold fit; omega)
            have hw2 : IntKind.i64.wrap ((i : Int) + 1) = (i : Int) + 1 := wrap_fit (by unfold fit; omega)
            by_cases he : (i : Int) + 1 = d
            · have cR := H2.out.rdNo i hlt2 h8 (by omega) he
              have HM := Lib.hid (fun w' (g : D2 w w' c s a k d m') => g.mapNo i hlt2 h8 he)
              have hbd : (((i : Int) + 1) != d) = false := by simp [he]
              clear he
              go_wp2_with (first
                | (go_at_call 10; (with_reducible refine cR.mono ?_); rintro e w5 ⟨rfl, g5⟩; have G5 := Lib.hid g5; have cM := HM.out _ g5; clear g5)
                | (go_at_call 8; (with_reducible refine cM.mono ?_); rintro e w6 ⟨rfl, g6⟩; have G6 := Lib.hid g6; clear g6))
              go_roundg (k - (i + 1))
              case measure => omega
              case rel => exact ⟨i + 1, m', by omega, by omega, by omega, by go_num, G6⟩
            · have cR := H2.out.rdYes i hlt2 h8 (by omega) he
              have HM := Lib.hid (fun w' (g : D2 w w' c s a k d m') => g.mapYes i hlt2 h8 (by omega) he)
              have hbd : (((i : Int) + 1) != d) = true := bne_iff_ne.2 he
              clear he
              go_wp2_with (first
                | (go_at_call 10; (with_reducible refine cR.mono ?_); rintro e w5 ⟨⟨u, rfl⟩, g5⟩; have G5 := Lib.hid g5; have cM := HM.out _ g5; clear g5)
                | (go_at_call 8; (with_reducible refine cM.mono ?_); rintro e w6 ⟨rfl, g6⟩; have G6 := Lib.hid g6; clear g6))
              go_roundg (k - (i + 1))
              case measure => omega
              case rel => exact ⟨i + 1, m' + 1, by omega, by omega, by omega, by go_num, G6⟩
          · obtain rfl : i = k := by omega
            have cU := H2.out.uses
            go_wp2_with (first
              | (go_at_call 11; (with_reducible refine cU.mono ?_); rintro e w5 ⟨rfl, t5⟩; have T5 := Lib.hid (H2.out.turn.trans t5 (fun _ h => .inl h)); clear t5)
              | (go_at_call 5; (with_reducible refine (cA _).mono ?_); rintro e w2 ⟨rfl, t2⟩))
            go_ret
            exact ⟨rfl, T5.out.trans t2 (fun _ h => .inl h)⟩
end Go.Proofs.YtdddmjdlikjedaaGreat
