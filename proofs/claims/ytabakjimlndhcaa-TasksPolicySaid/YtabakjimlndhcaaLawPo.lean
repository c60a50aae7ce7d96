/-
  TasksPolicy's walk. No conditions.
-/
import Derived.Test.YtabakjimlndhcaaLawPoM
import Derived.Deep.LoopGhost
namespace Go.Proofs.Ytabakjimlndhcaa
open Go.ChangeShapes Go.WideShapes Go.ChangeAt Go.RowKit

theorem pol_info {w0 w : World} {c n : Nat} {b : Int} {T : Nat → Tk} {X : Nat → Prop} (h : KSt w0 w c 100 (n + 1) T X) (q : PI b (n + 1) (n + 1) T) : Calls Try.prog 36 #[.pointer (some ⟨c, 0, none⟩), .int .i64 ((n : Int) + 1)] w fun x w' => x = .returned (.tuple #[.agg #[.int .i64 1, .int .i64 (n : Int), .int .i64 1, .int .i64 0, .int .i64 b, .int .i64 0], .bool true]) ∧ Turn NoBlock w w' := by
  have q2 := q.two
  have hin : inN (n + 1) ((n : Int) + 1) = true := inN_iff.2 ⟨by omega, by omega⟩
  have hi : infoT (n + 1) T ((n : Int) + 1) = ⟨1, n, 1, 0, b, 0⟩ := by
    unfold infoT
    rw [if_pos hin, show plc ((n : Int) + 1) = n by unfold plc; omega, q.job n (by omega) (by omega)]
  have := h.info (by omega) ((n : Int) + 1)
  rw [hi, hin] at this
  exact this
set_option maxRecDepth 100000 in
set_option maxHeartbeats 8000000 in
theorem policy_walk (b k : Int) (w : World) : Calls Try.prog 7 #[.int .i64 b, .int .i64 k] w fun x w' => x = .returned (.bool true) ∧ Turn NoBlock w w' := by
  have CW := Lib.hid awake17
  have CN := Lib.hid (new_yes 100 w (by decide))
  unfold tp at CN
  by_cases hk : 0 ≤ b ∧ b ≤ 15 ∧ 0 ≤ k ∧ k ≤ 10
  · obtain ⟨N, hN⟩ : ∃ N : Nat, k = N := ⟨k.toNat, by omega⟩
    subst hN
    have hN6 : N ≤ 10 := by omega
    have e1 : ¬ b < 0 := by omega
    have e2 : ¬ 15 < b := by omega
    have e3 : ¬ ((N : Int) < 0) := by omega
    have e4 : ¬ (10 < (N : Int)) := by omega
    have HB := Lib.hid (show 0 ≤ b ∧ b ≤ 15 by omega)
    clear hk
    go_enter Try.func7, Try.ntmps7
    go_wp2_with (first
      | (go_at_call 29; (with_reducible refine CN.out.mono ?_); rintro e w1 ⟨c, rfl, h1⟩; have H1 := Lib.hid h1; clear h1)
      | (go_at_call 45; (with_reducible refine (pol_one H1.out).mono ?_); rintro e w2 ⟨rfl, h2⟩; have H2 := Lib.hid h2; clear h2)
      | (go_at_call 50; (with_reducible refine (pol_two H2.out b HB.out).mono ?_); rintro e w3 ⟨rfl, T', h3⟩; have H3 := Lib.hid h3; clear h3))
    go_loopg [6, 56] N (fun z s6 s56 wr => ∃ (j n : Nat) (T : Nat → Tk), j ≤ N ∧ z = N - j ∧ s56 = .int .i64 (j : Int) ∧ s6 = .int .i64 (n : Int) ∧ n ≤ j + 2 ∧ Hid (KSt w wr c 100 n T NoBlock ∧ PI b n n T))
    case atStart => exact ⟨0, 2, T', by omega, by omega, rfl, rfl, by omega, H3⟩
    case round =>
      clear H1 H2 H3 CN
      obtain ⟨j, n, T, hj, hz, rfl, rfl, hnj, HS⟩ := hrel
      by_cases hlt : j < N
      · have hjN : (j : Int) < (N : Int) := by omega
        by_cases b2 : bits .and .i64 b 2 = 0
        · have x2 : (bits .and .i64 b 2 != 0) = false := by simpa using b2
          obtain ⟨k1, r1⟩ := HS.out
          have CM := Lib.hid (pol_job k1 r1 (by omega) b2)
          clear k1 r1 HS
          go_wp2_with (first
            | (go_at_call 45; (with_reducible refine CM.out.mono ?_); rintro e w5 ⟨rfl, T5, h5, q5⟩; have H5 := Lib.hid (And.intro h5 q5); have CI := Lib.hid (pol_info h5 q5); clear h5 q5)
            | (go_at_call 36; (with_reducible refine CI.out.mono ?_); rintro e w6 ⟨rfl, t6⟩; have T6 := Lib.hid t6; clear t6))
          go_roundg (N - (j + 1))
          case measure => omega
          case rel => exact ⟨j + 1, n + 1, T5, by omega, rfl, by go_num, by go_num, by omega, Lib.hid ⟨H5.out.1.past (T6.out.alloc _), H5.out.2⟩⟩
        · have x2 : (bits .and .i64 b 2 != 0) = true := by simpa using b2
          obtain ⟨k0, r0⟩ := HS.out
          have CM := Lib.hid (pol_no k0 r0 1 (.inl rfl) b2)
          have R0 := Lib.hid r0
          clear k0 r0 HS
          go_upto_region 18 with (go_at_call 45; (with_reducible refine CM.out.mono ?_); rintro e w4 ⟨rfl, h4⟩; have HS := Lib.hid (And.intro h4 R0.out); clear h4)
          by_cases b1 : bits .and .i64 b 1 = 0
          · have x1 : (bits .and .i64 b 1 == 0) = true := by simpa using b1
            have y1 : (bits .and .i64 b 1 != 0) = false := by simpa using b1
            by_cases b4 : bits .and .i64 b 4 = 0
            · have x4 : (bits .and .i64 b 4 == 0) = true := by simpa using b4
              have y4 : (bits .and .i64 b 4 != 0) = false := by simpa using b4
              by_cases b8 : bits .and .i64 b 8 = 0
              · have x8 : (bits .and .i64 b 8 == 0) = true := by simpa using b8
                have y8 : (bits .and .i64 b 8 != 0) = false := by simpa using b8
                obtain ⟨k1, r1⟩ := HS.out
                have CP := Lib.hid (pol_pro k1 r1 b1)
                clear k1 r1
                go_wp2_with (first
                  | (go_at_call 45; (with_reducible refine CP.out.mono ?_); rintro e w5 ⟨rfl, T5, h5, q5⟩; have H5 := Lib.hid (And.intro h5 q5); clear h5 q5)
                  | (go_at_call 45; (with_reducible refine (pol_thr H5.out.1 H5.out.2 b4).mono ?_); rintro e w6 ⟨rfl, m6, T6, h6, q6⟩; have H6 := Lib.hid (And.intro h6 q6); have CC := Lib.hid (pol_crit h6 q6); rw [if_neg (by rw [b8]; simp)] at CC; clear h6 q6)
                  | (go_at_call 49; (with_reducible refine CC.out.mono ?_); rintro e w7 ⟨rfl, h7⟩; have H7 := Lib.hid h7.turn; clear h7)
                  | (go_at_call 30; (with_reducible refine (CW.out _).mono ?_); rintro e w8 ⟨rfl, t8⟩; have T8 := Lib.hid t8; clear t8))
                go_ret
                exact ⟨rfl, TT H7.out T8.out⟩
              · have x8 : (bits .and .i64 b 8 == 0) = false := by simpa using b8
                have y8 : (bits .and .i64 b 8 != 0) = true := by simpa using b8
                obtain ⟨k1, r1⟩ := HS.out
                have CP := Lib.hid (pol_pro k1 r1 b1)
                clear k1 r1
                go_wp2_with (first
                  | (go_at_call 45; (with_reducible refine CP.out.mono ?_); rintro e w5 ⟨rfl, T5, h5, q5⟩; have H5 := Lib.hid (And.intro h5 q5); clear h5 q5)
                  | (go_at_call 45; (with_reducible refine (pol_thr H5.out.1 H5.out.2 b4).mono ?_); rintro e w6 ⟨rfl, m6, T6, h6, q6⟩; have H6 := Lib.hid (And.intro h6 q6); have CC := Lib.hid (pol_crit h6 q6); rw [if_pos b8] at CC; clear h6 q6)
                  | (go_at_call 49; (with_reducible refine CC.out.mono ?_); rintro e w7 ⟨rfl, h7⟩; have H7 := Lib.hid h7.turn; clear h7)
                  | (go_at_call 30; (with_reducible refine (CW.out _).mono ?_); rintro e w8 ⟨rfl, t8⟩; have T8 := Lib.hid t8; clear t8))
                go_ret
                exact ⟨rfl, TT H7.out T8.out⟩
            · have x4 : (bits .and .i64 b 4 == 0) = false := by simpa using b4
              have y4 : (bits .and .i64 b 4 != 0) = true := by simpa using b4
              by_cases b8 : bits .and .i64 b 8 = 0
              · have x8 : (bits .and .i64 b 8 == 0) = true := by simpa using b8
                have y8 : (bits .and .i64 b 8 != 0) = false := by simpa using b8
                obtain ⟨k1, r1⟩ := HS.out
                have CP := Lib.hid (pol_pro k1 r1 b1)
                clear k1 r1
                go_wp2_with (first
                  | (go_at_call 45; (with_reducible refine CP.out.mono ?_); rintro e w5 ⟨rfl, T5, h5, q5⟩; have H5 := Lib.hid (And.intro h5 q5); clear h5 q5)
                  | (go_at_call 45; (with_reducible refine (pol_thr_no H5.out.1 H5.out.2 b4).mono ?_); rintro e w6 ⟨rfl, m6, T6, h6, q6⟩; have H6 := Lib.hid (And.intro h6 q6); have CC := Lib.hid (pol_crit h6 q6); rw [if_neg (by rw [b8]; simp)] at CC; clear h6 q6)
                  | (go_at_call 49; (with_reducible refine CC.out.mono ?_); rintro e w7 ⟨rfl, h7⟩; have H7 := Lib.hid h7.turn; clear h7)
                  | (go_at_call 30; (with_reducible refine (CW.out _).mono ?_); rintro e w8 ⟨rfl, t8⟩; have T8 := Lib.hid t8; clear t8))
                go_ret
                exact ⟨rfl, TT H7.out T8.out⟩
              · have x8 : (bits .and .i64 b 8 == 0) = false := by simpa using b8
                have y8 : (bits .and .i64 b 8 != 0) = true := by simpa using b8
                obtain ⟨k1, r1⟩ := HS.out
                have CP := Lib.hid (pol_pro k1 r1 b1)
                clear k1 r1
                go_wp2_with (first
                  | (go_at_call 45; (with_reducible refine CP.out.mono ?_); rintro e w5 ⟨rfl, T5, h5, q5⟩; have H5 := Lib.hid (And.intro h5 q5); clear h5 q5)
                  | (go_at_call 45; (with_reducible refine (pol_thr_no H5.out.1 H5.out.2 b4).mono ?_); rintro e w6 ⟨rfl, m6, T6, h6, q6⟩; have H6 := Lib.hid (And.intro h6 q6); have CC := Lib.hid (pol_crit h6 q6); rw [if_pos b8] at CC; clear h6 q6)
                  | (go_at_call 49; (with_reducible refine CC.out.mono ?_); rintro e w7 ⟨rfl, h7⟩; have H7 := Lib.hid h7.turn; clear h7)
                  | (go_at_call 30; (with_reducible refine (CW.out _).mono ?_); rintro e w8 ⟨rfl, t8⟩; have T8 := Lib.hid t8; clear t8))
                go_ret
                exact ⟨rfl, TT H7.out T8.out⟩
          · have x1 : (bits .and .i64 b 1 == 0) = false := by simpa using b1
            have y1 : (bits .and .i64 b 1 != 0) = true := by simpa using b1
            obtain ⟨k1, r1⟩ := HS.out
            have CP := Lib.hid (pol_no k1 r1 2 (.inr rfl) b1)
            clear k1 r1
            go_wp2_with (first
              | (go_at_call 45; (with_reducible refine CP.out.mono ?_); rintro e w5 ⟨rfl, h5⟩; have H5 := Lib.hid h5.turn; clear h5)
              | (go_at_call 30; (with_reducible refine (CW.out _).mono ?_); rintro e w8 ⟨rfl, t8⟩; have T8 := Lib.hid t8; clear t8))
            go_ret
            exact ⟨rfl, TT H5.out T8.out⟩
      · have hjN : ¬ (j : Int) < (N : Int) := by omega
        by_cases b1 : bits .and .i64 b 1 = 0
        · have x1 : (bits .and .i64 b 1 == 0) = true := by simpa using b1
          have y1 : (bits .and .i64 b 1 != 0) = false := by simpa using b1
          by_cases b4 : bits .and .i64 b 4 = 0
          · have x4 : (bits .and .i64 b 4 == 0) = true := by simpa using b4
            have y4 : (bits .and .i64 b 4 != 0) = false := by simpa using b4
            by_cases b8 : bits .and .i64 b 8 = 0
            · have x8 : (bits .and .i64 b 8 == 0) = true := by simpa using b8
              have y8 : (bits .and .i64 b 8 != 0) = false := by simpa using b8
              obtain ⟨k1, r1⟩ := HS.out
              have CP := Lib.hid (pol_pro k1 r1 b1)
              clear k1 r1
              go_wp2_with (first
                | (go_at_call 45; (with_reducible refine CP.out.mono ?_); rintro e w5 ⟨rfl, T5, h5, q5⟩; have H5 := Lib.hid (And.intro h5 q5); clear h5 q5)
                | (go_at_call 45; (with_reducible refine (pol_thr H5.out.1 H5.out.2 b4).mono ?_); rintro e w6 ⟨rfl, m6, T6, h6, q6⟩; have H6 := Lib.hid (And.intro h6 q6); have CC := Lib.hid (pol_crit h6 q6); rw [if_neg (by rw [b8]; simp)] at CC; clear h6 q6)
                | (go_at_call 49; (with_reducible refine CC.out.mono ?_); rintro e w7 ⟨rfl, h7⟩; have H7 := Lib.hid h7.turn; clear h7)
                | (go_at_call 30; (with_reducible refine (CW.out _).mono ?_); rintro e w8 ⟨rfl, t8⟩; have T8 := Lib.hid t8; clear t8))
              go_ret
              exact ⟨rfl, TT H7.out T8.out⟩
            · have x8 : (bits .and .i64 b 8 == 0) = false := by simpa using b8
              have y8 : (bits .and .i64 b 8 != 0) = true := by simpa using b8
              obtain ⟨k1, r1⟩ := HS.out
              have CP := Lib.hid (pol_pro k1 r1 b1)
              clear k1 r1
              go_wp2_with (first
                | (go_at_call 45; (with_reducible refine CP.out.mono ?_); rintro e w5 ⟨rfl, T5, h5, q5⟩; have H5 := Lib.hid (And.intro h5 q5); clear h5 q5)
                | (go_at_call 45; (with_reducible refine (pol_thr H5.out.1 H5.out.2 b4).mono ?_); rintro e w6 ⟨rfl, m6, T6, h6, q6⟩; have H6 := Lib.hid (And.intro h6 q6); have CC := Lib.hid (pol_crit h6 q6); rw [if_pos b8] at CC; clear h6 q6)
                | (go_at_call 49; (with_reducible refine CC.out.mono ?_); rintro e w7 ⟨rfl, h7⟩; have H7 := Lib.hid h7.turn; clear h7)
                | (go_at_call 30; (with_reducible refine (CW.out _).mono ?_); rintro e w8 ⟨rfl, t8⟩; have T8 := Lib.hid t8; clear t8))
              go_ret
              exact ⟨rfl, TT H7.out T8.out⟩
          · have x4 : (bits .and .i64 b 4 == 0) = false := by simpa using b4
            have y4 : (bits .and .i64 b 4 != 0) = true := by simpa using b4
            by_cases b8 : bits .and .i64 b 8 = 0
            · have x8 : (bits .and .i64 b 8 == 0) = true := by simpa using b8
              have y8 : (bits .and .i64 b 8 != 0) = false := by simpa using b8
              obtain ⟨k1, r1⟩ := HS.out
              have CP := Lib.hid (pol_pro k1 r1 b1)
              clear k1 r1
              go_wp2_with (first
                | (go_at_call 45; (with_reducible refine CP.out.mono ?_); rintro e w5 ⟨rfl, T5, h5, q5⟩; have H5 := Lib.hid (And.intro h5 q5); clear h5 q5)
                | (go_at_call 45; (with_reducible refine (pol_thr_no H5.out.1 H5.out.2 b4).mono ?_); rintro e w6 ⟨rfl, m6, T6, h6, q6⟩; have H6 := Lib.hid (And.intro h6 q6); have CC := Lib.hid (pol_crit h6 q6); rw [if_neg (by rw [b8]; simp)] at CC; clear h6 q6)
                | (go_at_call 49; (with_reducible refine CC.out.mono ?_); rintro e w7 ⟨rfl, h7⟩; have H7 := Lib.hid h7.turn; clear h7)
                | (go_at_call 30; (with_reducible refine (CW.out _).mono ?_); rintro e w8 ⟨rfl, t8⟩; have T8 := Lib.hid t8; clear t8))
              go_ret
              exact ⟨rfl, TT H7.out T8.out⟩
            · have x8 : (bits .and .i64 b 8 == 0) = false := by simpa using b8
              have y8 : (bits .and .i64 b 8 != 0) = true := by simpa using b8
              obtain ⟨k1, r1⟩ := HS.out
              have CP := Lib.hid (pol_pro k1 r1 b1)
              clear k1 r1
              go_wp2_with (first
                | (go_at_call 45; (with_reducible refine CP.out.mono ?_); rintro e w5 ⟨rfl, T5, h5, q5⟩; have H5 := Lib.hid (And.intro h5 q5); clear h5 q5)
                | (go_at_call 45; (with_reducible refine (pol_thr_no H5.out.1 H5.out.2 b4).mono ?_); rintro e w6 ⟨rfl, m6, T6, h6, q6⟩; have H6 := Lib.hid (And.intro h6 q6); have CC := Lib.hid (pol_crit h6 q6); rw [if_pos b8] at CC; clear h6 q6)
                | (go_at_call 49; (with_reducible refine CC.out.mono ?_); rintro e w7 ⟨rfl, h7⟩; have H7 := Lib.hid h7.turn; clear h7)
                | (go_at_call 30; (with_reducible refine (CW.out _).mono ?_); rintro e w8 ⟨rfl, t8⟩; have T8 := Lib.hid t8; clear t8))
              go_ret
              exact ⟨rfl, TT H7.out T8.out⟩
        · have x1 : (bits .and .i64 b 1 == 0) = false := by simpa using b1
          have y1 : (bits .and .i64 b 1 != 0) = true := by simpa using b1
          obtain ⟨k1, r1⟩ := HS.out
          have CP := Lib.hid (pol_no k1 r1 2 (.inr rfl) b1)
          clear k1 r1
          go_wp2_with (first
            | (go_at_call 45; (with_reducible refine CP.out.mono ?_); rintro e w5 ⟨rfl, h5⟩; have H5 := Lib.hid h5.turn; clear h5)
            | (go_at_call 30; (with_reducible refine (CW.out _).mono ?_); rintro e w8 ⟨rfl, t8⟩; have T8 := Lib.hid t8; clear t8))
          go_ret
          exact ⟨rfl, TT H5.out T8.out⟩
  · have hq : b < 0 ∨ (¬ b < 0 ∧ 15 < b) ∨ (¬ b < 0 ∧ ¬ 15 < b ∧ k < 0) ∨ (¬ b < 0 ∧ ¬ 15 < b ∧ ¬ k < 0 ∧ 10 < k) := by omega
    rcases hq with q1 | ⟨q1, q2⟩ | ⟨q1, q2, q3⟩ | ⟨q1, q2, q3, q4⟩
    · clear hk
      go_enter Try.func7, Try.ntmps7
      go_wp2_with (first
        | (go_at_call 29; (with_reducible refine CN.out.mono ?_); rintro e w1 ⟨c, rfl, h1⟩; have H1 := Lib.hid h1.turn; clear h1)
        | (go_at_call 30; (with_reducible refine (CW.out _).mono ?_); rintro e w5 ⟨rfl, t5⟩; have T5 := Lib.hid t5; clear t5))
      go_ret
      exact ⟨rfl, TT H1.out T5.out⟩
    · clear hk
      go_enter Try.func7, Try.ntmps7
      go_wp2_with (first
        | (go_at_call 29; (with_reducible refine CN.out.mono ?_); rintro e w1 ⟨c, rfl, h1⟩; have H1 := Lib.hid h1.turn; clear h1)
        | (go_at_call 30; (with_reducible refine (CW.out _).mono ?_); rintro e w5 ⟨rfl, t5⟩; have T5 := Lib.hid t5; clear t5))
      go_ret
      exact ⟨rfl, TT H1.out T5.out⟩
    · clear hk
      go_enter Try.func7, Try.ntmps7
      go_wp2_with (first
        | (go_at_call 29; (with_reducible refine CN.out.mono ?_); rintro e w1 ⟨c, rfl, h1⟩; have H1 := Lib.hid h1.turn; clear h1)
        | (go_at_call 30; (with_reducible refine (CW.out _).mono ?_); rintro e w5 ⟨rfl, t5⟩; have T5 := Lib.hid t5; clear t5))
      go_ret
      exact ⟨rfl, TT H1.out T5.out⟩
    · clear hk
      go_enter Try.func7, Try.ntmps7
      go_wp2_with (first
        | (go_at_call 29; (with_reducible refine CN.out.mono ?_); rintro e w1 ⟨c, rfl, h1⟩; have H1 := Lib.hid h1.turn; clear h1)
        | (go_at_call 30; (with_reducible refine (CW.out _).mono ?_); rintro e w5 ⟨rfl, t5⟩; have T5 := Lib.hid t5; clear t5))
      go_ret
      exact ⟨rfl, TT H1.out T5.out⟩
end Go.Proofs.Ytabakjimlndhcaa
