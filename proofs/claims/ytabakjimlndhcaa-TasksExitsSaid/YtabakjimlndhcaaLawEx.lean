/-
  TasksExits' walk. Conditions: the argument can be read.
-/
import Derived.Test.YtabakjimlndhcaaLawExM
import Derived.Test.YtabakjimlndhcaaTkView
import Derived.Deep.LoopGhost
namespace Go.Proofs.Ytabakjimlndhcaa
open Go.ChangeShapes Go.WideShapes Go.ChangeAt Go.RowKit

def sC (k : Nat) (i : Nat) : Int := if i < 2 + k then 1 else 0
def sD (k R : Nat) (i : Nat) : Int := if i < 2 + k then 2 else if i < 2 + R then 1 else 0
theorem ex_info {w0 w : World} {c n : Nat} {T : Nat → Tk} {X : Nat → Prop} (h : KSt w0 w c 100 n T X) (hn : n ≤ 32) (h2 : 2 ≤ n) : Calls Try.prog 36 #[.pointer (some ⟨c, 0, none⟩), .int .i64 2] w fun x w' => x = .returned (.tuple #[.agg #[.int .i64 (T 1).kind, .int .i64 (T 1).par, .int .i64 (T 1).st, .int .i64 (T 1).code, .int .i64 (T 1).pol, .int .i64 (T 1).crit], .bool true]) ∧ Turn NoBlock w w' := by
  have hin : inN n 2 = true := inN_iff.2 ⟨by omega, by omega⟩
  have hi : infoT n T 2 = T 1 := by unfold infoT; rw [if_pos hin]; rfl
  have := h.info (by omega) 2
  rw [hi, hin] at this
  exact this
set_option maxRecDepth 100000 in
set_option maxHeartbeats 8000000 in
theorem exits_walk (a r : Int) (sp : Option Addr) (len cap : Nat) (zs : List Int) (w : World) (hz0 : ZsAt w sp len zs) : Calls Try.prog 8 #[.int .i64 a, .int .i64 r, .slice sp len cap] w fun x w' => x = .returned (.bool true) ∧ Turn NoBlock w w' := by
  have CW := Lib.hid awake17
  have CN := Lib.hid (new_yes 100 w (by decide))
  unfold tp at CN
  by_cases hk : 1 ≤ a ∧ a ≤ 30 ∧ 0 ≤ r ∧ r ≤ a ∧ a ≤ (len : Int)
  · obtain ⟨N, hN⟩ : ∃ N : Nat, a = N := ⟨a.toNat, by omega⟩
    obtain ⟨R, hR⟩ : ∃ R : Nat, r = R := ⟨r.toNat, by omega⟩
    subst hN hR
    obtain ⟨zl, zf, zc⟩ := hz0
    obtain ⟨g, o, rfl, zc2⟩ := zc (by omega)
    have hN1 : 1 ≤ N := by omega
    have hN6 : N ≤ 30 := by omega
    have hRN : R ≤ N := by omega
    have hNl : N ≤ len := by omega
    have e1 : ¬ (N : Int) < 1 := by omega
    have e2 : ¬ 30 < (N : Int) := by omega
    have e3 : ¬ (R : Int) < 0 := by omega
    have e4 : ¬ (N : Int) < (R : Int) := by omega
    have e5 : ¬ (len : Int) < (N : Int) := by omega
    have HZ := Lib.hid (And.intro zl zc2)
    clear hk zl zc zc2 zf
    go_enter Try.func8, Try.ntmps8
    go_wp2_with (first
      | (go_at_call 29; (with_reducible refine CN.out.mono ?_); rintro e w1 ⟨c, rfl, h1⟩; have H1 := Lib.hid h1; clear h1)
      | (go_at_call 45; (with_reducible refine (ex_one H1.out).mono ?_); rintro e w2 ⟨rfl, h2⟩; have H2 := Lib.hid h2; clear h2)
      | (go_at_call 46; (with_reducible refine (ex_two H2.out (fun _ => 0)).mono ?_); rintro e w3 ⟨rfl, T', h3⟩; have H3 := Lib.hid h3; clear h3))
    go_loopg [64] N (fun z s64 wr => ∃ (j : Nat) (T : Nat → Tk), j ≤ N ∧ z = N - j ∧ s64 = .int .i64 (j : Int) ∧ Hid (KSt w wr c 100 (2 + j) T NoBlock ∧ EX (2 + j) (fun _ => 0) T))
    case atStart => exact ⟨0, T', by omega, by omega, rfl, H3⟩
    case round =>
      clear H1 H2 H3 CN
      obtain ⟨j, T, hj, hz, rfl, HS⟩ := hrel
      by_cases hlt : j < N
      · have hjN : (j : Int) < (N : Int) := by omega
        obtain ⟨k1, r1⟩ := HS.out
        have CM := Lib.hid (ex_make k1 r1 (by omega) rfl)
        clear k1 r1 HS
        go_wp2_with (go_at_call 45; (with_reducible refine CM.out.mono ?_); rintro e w5 ⟨rfl, T5, h5⟩; have H5 := Lib.hid h5; clear h5)
        go_roundg (N - (j + 1))
        case measure => omega
        case rel => exact ⟨j + 1, T5, by omega, rfl, by go_num, H5⟩
      · obtain rfl : j = N := by omega
        have hjN : ¬ (j : Int) < (j : Int) := by omega
        go_wp2
        go_loopg [76] R (fun z s76 wr => ∃ (i : Nat) (T : Nat → Tk), i ≤ R ∧ z = R - i ∧ s76 = .int .i64 (i : Int) ∧ Hid (KSt w wr c 100 (2 + j) T NoBlock ∧ EX (2 + j) (sC i) T))
        case atStart => exact ⟨0, T, by omega, by omega, rfl, Lib.hid ⟨HS.out.1, HS.out.2.same (fun i h1 _ => by unfold sC; rw [if_neg (by omega)])⟩⟩
        case round =>
          clear HS hz
          obtain ⟨i, T2, hi, hz, rfl, HS⟩ := hrel
          by_cases hlt2 : i < R
          · have hiR : (i : Int) < (R : Int) := by omega
            obtain ⟨k1, r1⟩ := HS.out
            have CM := Lib.hid (ex_start (i := 2 + i) k1 r1 (by omega) (by omega) (by unfold sC; rw [if_neg (by omega)]))
            rw [show (((2 + i : Nat) : Int) + 1) = 3 + (i : Int) by omega] at CM
            clear k1 r1 HS
            go_wp2_with (go_at_call 46; (with_reducible refine CM.out.mono ?_); rintro e w5 ⟨rfl, T5, h5⟩; have H5 := Lib.hid h5; clear h5)
            go_roundg (R - (i + 1))
            case measure => omega
            case rel => exact ⟨i + 1, T5, by omega, rfl, by go_num, Lib.hid ⟨H5.out.1, H5.out.2.same (fun q h1 _ => by
              unfold updN sC
              by_cases e : q = 2 + i
              · rw [if_pos e, if_pos (by omega)]
              · rw [if_neg e]
                by_cases e2 : q < 2 + i
                · rw [if_pos e2, if_pos (by omega)]
                · rw [if_neg e2, if_neg (by omega)])⟩⟩
          · obtain rfl : i = R := by omega
            have hiR : ¬ (i : Int) < (i : Int) := by omega
            go_wp2
            go_loopg [88] j (fun z s88 wr => ∃ (k : Nat) (T : Nat → Tk), k ≤ j ∧ k ≤ i ∧ z = j - k ∧ s88 = .int .i64 (k : Int) ∧ Hid (KSt w wr c 100 (2 + j) T NoBlock ∧ ((k < j ∧ EX (2 + j) (sD k i) T) ∨ (k = j ∧ liveN T (2 + j) = 1))))
            case atStart => exact ⟨0, T2, by omega, by omega, by omega, rfl, Lib.hid ⟨HS.out.1, .inl ⟨by omega, HS.out.2.same (fun q h1 _ => by unfold sC sD; rw [if_neg (show ¬ q < 2 + 0 by omega)])⟩⟩⟩
            case round =>
              clear HS hz
              obtain ⟨k, T3, hk, hki, hz, rfl, HS⟩ := hrel
              by_cases hlt3 : k < j
              · have hkj : (k : Int) < (j : Int) := by omega
                obtain ⟨k1, r1⟩ := HS.out
                have r1 := (r1.resolve_right (fun e => by omega)).2
                obtain ⟨x, hx⟩ : ∃ x, zs[k]? = some x := ⟨_, List.getElem?_eq_getElem (by rw [HZ.out.1]; omega)⟩
                have hcx := k1.turn.cell (HZ.out.2 k x hx) (fun h => h)
                have hkl : (k : Int) < (len : Int) := by omega
                by_cases hki2 : k < i
                · have hgi : ¬ ((k : Int) ≥ (i : Int)) := by omega
                  have hgi2 : ¬ ((i : Int) ≤ (k : Int)) := by omega
                  by_cases hl : k = j - 1
                  · have hlb : ((k : Int) == (j : Int) - 1) = true := by simp; omega
                    have CE := Lib.hid (ex_exit_last (i := 2 + k) k1 r1 (by omega) (by omega) (by unfold sD; rw [if_neg (by omega), if_pos (by omega)]) x (fun q h1 h2 h3 => by unfold sD; rw [if_pos (by omega)]))
                    rw [show (((2 + k : Nat) : Int) + 1) = 3 + (k : Int) by omega] at CE
                    have HX := Lib.hid hx
                    have HL := Lib.hid hl
                    clear k1 r1 HS hx hl
                    go_upto_region 29 with (first
                      | (go_at_call 48; (with_reducible refine CE.out.mono ?_); rintro e w5 ⟨v, rfl, r5, ⟨T5, h5, d5, l5⟩, -⟩; obtain ⟨ga, oa, ca, rfl, y0⟩ := r5.first; have CA := Lib.hid (ex_alive h5 (by omega) (by omega) false (by rw [d5]; rfl)); have CI := Lib.hid (ex_info h5 (by omega) (by omega)); rw [d5] at CI; unfold Tk.dead at CI; dsimp only at CI; have H5 := Lib.hid (And.intro h5 l5); clear h5 d5 l5 r5)
                      | (go_at_call 38; (with_reducible refine CA.out.mono ?_); rintro e w6 ⟨rfl, rfl⟩)
                      | (go_at_call 36; (with_reducible refine CI.out.mono ?_); rintro e w7 ⟨rfl, t7⟩; have T7 := Lib.hid t7; clear t7))
                    have hb := heap_alloc_new w7 (.cells #[.int .i64 (T3 1).kind, .int .i64 (T3 1).par, .int .i64 2, .int .i64 x, .int .i64 (T3 1).pol, .int .i64 (T3 1).crit] 76)
                    have T8 := Lib.hid (T7.out.alloc (.cells #[.int .i64 (T3 1).kind, .int .i64 (T3 1).par, .int .i64 2, .int .i64 x, .int .i64 (T3 1).pol, .int .i64 (T3 1).crit] 76))
                    have hc8 := (TT H5.out.1.turn T8.out).cell (HZ.out.2 k x HX.out) (fun h => h)
                    generalize w7.alloc (.cells #[.int .i64 (T3 1).kind, .int .i64 (T3 1).par, .int .i64 2, .int .i64 x, .int .i64 (T3 1).pol, .int .i64 (T3 1).crit] 76) = W8 at *
                    have b3 := cell_at hb 3
                    clear hb
                    generalize w7.heap.size = bz at *
                    go_quiet (fail)
                    go_wp2
                    go_roundg (j - (k + 1))
                    case measure => omega
                    case rel => exact ⟨k + 1, T5, by omega, by omega, rfl, by go_num, Lib.hid ⟨H5.out.1.past (T8.out.drewN _), .inr ⟨by have := HL.out; omega, H5.out.2⟩⟩⟩
                  · have hlb : ((k : Int) == (j : Int) - 1) = false := by simp; omega
                    have CE := Lib.hid (ex_exit (i := 2 + k) k1 r1 (by omega) (by omega) (by unfold sD; rw [if_neg (by omega), if_pos (by omega)]) x (j := 2 + (j - 1)) (by omega) (by omega) (by omega) (by unfold sD; rw [if_neg (by omega)]; split <;> omega))
                    rw [show (((2 + k : Nat) : Int) + 1) = 3 + (k : Int) by omega] at CE
                    clear k1 r1 HS hx
                    go_upto_region 29 with (first
                      | (go_at_call 48; (with_reducible refine CE.out.mono ?_); rintro e w5 ⟨v, rfl, r5, ⟨T5, h5, q5⟩, -⟩; obtain ⟨ga, oa, ca, rfl, y0⟩ := r5.first; have CA := Lib.hid (ex_alive h5 (by omega) (by omega) true (by unfold aliveB; rw [q5.pro.2.2.1]; rfl)); have CI := Lib.hid (ex_info h5 (by omega) (by omega)); have H5 := Lib.hid (And.intro h5 q5); clear h5 q5 r5)
                      | (go_at_call 38; (with_reducible refine CA.out.mono ?_); rintro e w6 ⟨rfl, rfl⟩)
                      | (go_at_call 36; (with_reducible refine CI.out.mono ?_); rintro e w7 ⟨rfl, t7⟩; have T7 := Lib.hid t7; clear t7))
                    go_quiet (fail)
                    go_wp2
                    go_roundg (j - (k + 1))
                    case measure => omega
                    case rel => exact ⟨k + 1, T5, by omega, by omega, rfl, by go_num, Lib.hid ⟨H5.out.1.past ((T7.out.alloc _).drewN _), .inl ⟨by omega, H5.out.2.same (fun q h1 _ => by
                      unfold updN sD
                      by_cases e : q = 2 + k
                      · rw [if_pos e, if_pos (by omega)]
                      · rw [if_neg e]
                        by_cases e2 : q < 2 + k
                        · rw [if_pos e2, if_pos (by omega)]
                        · rw [if_neg e2, if_neg (show ¬ q < 2 + (k + 1) by omega)])⟩⟩⟩
                · have hgi : (k : Int) ≥ (i : Int) := by omega
                  have hgi2 : (i : Int) ≤ (k : Int) := by omega
                  have CE := Lib.hid (ex_exit_no (i := 2 + k) k1 r1 (by omega) (by omega) (by unfold sD; rw [if_neg (by omega), if_neg (by omega)]; decide) x)
                  rw [show (((2 + k : Nat) : Int) + 1) = 3 + (k : Int) by omega] at CE
                  have HA := Lib.hid (show aliveB (T3 1) = true by unfold aliveB; rw [r1.pro.2.2.1]; rfl)
                  clear k1 r1 HS hx
                  go_wp2_with (first
                    | (go_at_call 48; (with_reducible refine CE.out.mono ?_); rintro e w5 ⟨v, rfl, r5, h5, -⟩; obtain ⟨va, vc, rfl⟩ := WRow.sl r5; have CA := Lib.hid (ex_alive h5 (by omega) (by omega) true HA.out); have H5 := Lib.hid h5.turn; clear h5 r5)
                    | (go_at_call 38; (with_reducible refine CA.out.mono ?_); rintro e w6 ⟨rfl, rfl⟩)
                    | (go_at_call 30; (with_reducible refine (CW.out _).mono ?_); rintro e w8 ⟨rfl, t8⟩; have T8 := Lib.hid t8; clear t8))
                  go_ret
                  exact ⟨rfl, TT H5.out T8.out⟩
              · obtain rfl : k = j := by omega
                have hkj : ¬ (k : Int) < (k : Int) := by omega
                obtain ⟨k1, r1⟩ := HS.out
                have r1 := (r1.resolve_left (fun e => by omega)).2
                have CL := Lib.hid k1.live
                rw [r1] at CL
                unfold tp at CL
                have HT := Lib.hid k1.turn
                clear k1 r1 HS
                go_wp2_with (first
                  | (go_at_call 34; (with_reducible refine CL.out.mono ?_); rintro e w4 ⟨rfl, rfl⟩)
                  | (go_at_call 30; (with_reducible refine (CW.out _).mono ?_); rintro e w8 ⟨rfl, t8⟩; have T8 := Lib.hid t8; clear t8))
                go_ret
                exact ⟨rfl, TT HT.out T8.out⟩
  · have hq : a < 1 ∨ (¬ a < 1 ∧ 30 < a) ∨ (¬ a < 1 ∧ ¬ 30 < a ∧ r < 0) ∨ (¬ a < 1 ∧ ¬ 30 < a ∧ ¬ r < 0 ∧ a < r) ∨ (¬ a < 1 ∧ ¬ 30 < a ∧ ¬ r < 0 ∧ ¬ a < r ∧ (len : Int) < a) := by omega
    clear hk hz0
    rcases hq with q1 | ⟨q1, q2⟩ | ⟨q1, q2, q3⟩ | ⟨q1, q2, q3, q4⟩ | ⟨q1, q2, q3, q4, q5⟩
    · go_enter Try.func8, Try.ntmps8
      go_wp2_with (first
        | (go_at_call 29; (with_reducible refine CN.out.mono ?_); rintro e w1 ⟨c, rfl, h1⟩; have H1 := Lib.hid h1.turn; clear h1)
        | (go_at_call 30; (with_reducible refine (CW.out _).mono ?_); rintro e w5 ⟨rfl, t5⟩; have T5 := Lib.hid t5; clear t5))
      go_ret
      exact ⟨rfl, TT H1.out T5.out⟩
    · go_enter Try.func8, Try.ntmps8
      go_wp2_with (first
        | (go_at_call 29; (with_reducible refine CN.out.mono ?_); rintro e w1 ⟨c, rfl, h1⟩; have H1 := Lib.hid h1.turn; clear h1)
        | (go_at_call 30; (with_reducible refine (CW.out _).mono ?_); rintro e w5 ⟨rfl, t5⟩; have T5 := Lib.hid t5; clear t5))
      go_ret
      exact ⟨rfl, TT H1.out T5.out⟩
    · go_enter Try.func8, Try.ntmps8
      go_wp2_with (first
        | (go_at_call 29; (with_reducible refine CN.out.mono ?_); rintro e w1 ⟨c, rfl, h1⟩; have H1 := Lib.hid h1.turn; clear h1)
        | (go_at_call 30; (with_reducible refine (CW.out _).mono ?_); rintro e w5 ⟨rfl, t5⟩; have T5 := Lib.hid t5; clear t5))
      go_ret
      exact ⟨rfl, TT H1.out T5.out⟩
    · go_enter Try.func8, Try.ntmps8
      go_wp2_with (first
        | (go_at_call 29; (with_reducible refine CN.out.mono ?_); rintro e w1 ⟨c, rfl, h1⟩; have H1 := Lib.hid h1.turn; clear h1)
        | (go_at_call 30; (with_reducible refine (CW.out _).mono ?_); rintro e w5 ⟨rfl, t5⟩; have T5 := Lib.hid t5; clear t5))
      go_ret
      exact ⟨rfl, TT H1.out T5.out⟩
    · go_enter Try.func8, Try.ntmps8
      go_wp2_with (first
        | (go_at_call 29; (with_reducible refine CN.out.mono ?_); rintro e w1 ⟨c, rfl, h1⟩; have H1 := Lib.hid h1.turn; clear h1)
        | (go_at_call 30; (with_reducible refine (CW.out _).mono ?_); rintro e w5 ⟨rfl, t5⟩; have T5 := Lib.hid t5; clear t5))
      go_ret
      exact ⟨rfl, TT H1.out T5.out⟩
end Go.Proofs.Ytabakjimlndhcaa
