/-
  PortCancels' walk. No conditions but that the keys can be read.
-/
import Derived.Test.YtcnellkoejhofaaLawCaM
import Derived.Deep.LoopGhost
import Derived.OwnWalk
namespace Go.Proofs.Ytcnellkoejhofaa
open Go.ChangeShapes Go.WideShapes Go.ChangeAt Go.RowKit

set_option maxRecDepth 20000 in
set_option maxHeartbeats 4000000 in
theorem ca_walk (key : Int) (p : Option Addr) (len cap : Nat) (zs : List Int) (w : World) (hz : ZsAt w p len zs) :
    Calls Try.prog 7 #[.slice p len cap, .int .i64 key] w fun e w' => e = .returned (.bool true) ∧ Turn NoBlock w w' := by
  have cA := Lib.hid awake15
  have cN := Lib.hid (new_yes 1 200 w (by omega) (by omega))
  have HZ := Lib.hid hz
  clear hz
  by_cases hlen : 60 < len
  · have hd : decide ((len : Int) > 60) = true := by simp; omega
    go_enter Try.func7, Try.ntmps7
    go_wp2_with (first
      | (go_at_call 8; (with_reducible refine cN.out.mono ?_); rintro x w1 ⟨c, rfl, k1, -, -⟩; have K1 := Lib.hid k1; clear k1)
      | (go_at_call 9; (with_reducible refine (cA.out _).mono ?_); rintro x w9 ⟨rfl, t9⟩))
    go_ret
    exact ⟨rfl, TT K1.out.turn t9⟩
  · have hl : len ≤ 60 := by omega
    have hd : decide ((len : Int) > 60) = false := by simp; omega
    clear hlen
    go_enter Try.func7, Try.ntmps7
    go_wp2_with (first
      | (go_at_call 8; (with_reducible refine cN.out.mono ?_); rintro x w1 ⟨c, rfl, k1, -, -⟩; have K1 := Lib.hid k1; clear k1))
    go_loopg [6, 29] len (fun z s6 s29 wr => ∃ (i n : Nat) (Ws : List Wc), z = len - i ∧ i ≤ len ∧ n ≤ i ∧ s6 = .int .i64 (n : Int) ∧ s29 = .int .i64 (i : Int) ∧ Hid (CN key i Ws n ∧ PSt w wr c 1 200 [] Ws NoBlock))
    case atStart => exact ⟨0, 0, [], rfl, Nat.zero_le _, Nat.le_refl _, rfl, rfl, Lib.hid ⟨cn_nil key, K1.out⟩⟩
    case round =>
      obtain ⟨i, n, Ws, hz, hi, hn, rfl, rfl, HR⟩ := hrel
      by_cases hlt : i < len
      · obtain ⟨k, hk⟩ : ∃ k, zs[i]? = some k := ⟨_, List.getElem?_eq_getElem (by rw [HZ.out.1]; exact hlt)⟩
        obtain ⟨g, oo, rfl, hcell⟩ := HZ.out.2.2 (by omega)
        have q := HR.out.2.turn.cell (hcell i k hk) (fun h => h)
        have hil : (i : Int) < (len : Int) := by omega
        have CW := Lib.hid (fun (m : Int) (hm : m ≠ 0) => ca_watch HR.out.2 k m hm (by have := HR.out.1.len; omega))
        clear hcell hk
        by_cases hkk : k = key
        · have hkb : (k == key) = true := by simpa using hkk
          have HK := Lib.hid hkk
          clear hkk
          go_wp2_with (first
            | (go_at_call 15; (with_reducible refine (CW.out _ (by omega)).mono ?_); rintro x w2 ⟨rfl, k2⟩; have K2 := Lib.hid k2; clear k2))
          go_roundg (len - (i + 1))
          case measure => omega
          case rel => exact ⟨i + 1, n + 1, _, rfl, by omega, by omega, by go_num, by go_num, Lib.hid ⟨by have h0 := HR.out.1.push (k := k) (m := 1 + (i : Int) % 2); rw [if_pos HK.out] at h0; exact h0, K2.out⟩⟩
        · have hkb : (k == key) = false := by simpa using hkk
          have HK := Lib.hid hkk
          clear hkk
          go_wp2_with (first
            | (go_at_call 15; (with_reducible refine (CW.out _ (by omega)).mono ?_); rintro x w2 ⟨rfl, k2⟩; have K2 := Lib.hid k2; clear k2))
          go_roundg (len - (i + 1))
          case measure => omega
          case rel => exact ⟨i + 1, n, _, rfl, by omega, by omega, rfl, by go_num, Lib.hid ⟨by have h0 := HR.out.1.push (k := k) (m := 1 + (i : Int) % 2); rw [if_neg HK.out, Nat.add_zero] at h0; exact h0, K2.out⟩⟩
      · obtain rfl : i = len := by omega
        have CT := Lib.hid (ca_tell HR.out.2 HR.out.1)
        clear hi
        have hcan : ∃ e : Int, (if n = 0 then (-25 : Int) else 0) = e ∧ (e == 0) = decide (0 < n) := by
          by_cases h0 : n = 0
          · exact ⟨-25, by rw [if_pos h0], by subst h0; rfl⟩
          · refine ⟨0, by rw [if_neg h0], ?_⟩
            rw [decide_eq_true (show 0 < n from by omega)]
            rfl
        obtain ⟨e, he, hen⟩ := hcan
        have HE := Lib.hid he
        clear he
        go_wp2_with (first
          | (go_at_call 17; (with_reducible refine CT.out.mono ?_); rintro x w2 ⟨f, rfl, hf, k2⟩; have K2 := Lib.hid k2; clear k2)
          | (go_at_call 25; (with_reducible refine (K2.out.watches).mono ?_); rintro x w3 ⟨rfl, rfl⟩)
          | (go_at_call 19; (with_reducible refine (K2.out.cancel).mono ?_); rintro x w4 ⟨rfl, qn, hq, k4⟩; rw [HE.out]; have K4 := Lib.hid k4; clear k4)
          | (go_at_call 25; (with_reducible refine (K4.out.watches).mono ?_); rintro x w5 ⟨rfl, rfl⟩)
          | (go_at_call 24; (with_reducible refine (K4.out.size).mono ?_); rintro x w5 ⟨rfl, rfl⟩)
          | (go_at_call 21; (with_reducible refine (K4.out.forget).mono ?_); rintro x w6 ⟨rfl, Q, hQ, k6⟩; have K6 := Lib.hid k6; have HQ := Lib.hid hQ; clear k6 hQ)
          | (go_at_call 23; (with_reducible refine (K6.out.st.packets).mono ?_); rintro x w7 ⟨v7, rfl, r7, b7, t7⟩; obtain ⟨p7, c7, he7⟩ := WRow.sl r7; rw [HQ.out] at he7; subst he7; have R7 := Lib.hid (And.intro r7 t7); clear r7 b7 t7))
        go_loopg [84] qn (fun z s84 wr => ∃ j : Nat, z = qn - j ∧ j ≤ qn ∧ s84 = .int .i64 (j : Int) ∧ Hid (Turn NoBlock w7 wr))
        case atStart => exact ⟨0, rfl, Nat.zero_le _, rfl, Lib.hid (Turn.refl _ _)⟩
        case round =>
          obtain ⟨j, hz2, hj, rfl, HJ⟩ := hrel
          by_cases hjq : j < qn
          · obtain ⟨t, ht⟩ : ∃ t, Q[j]? = some t := ⟨_, List.getElem?_eq_getElem (by rw [HQ.out]; exact hjq)⟩
            have r7 := R7.out.1.past HJ.out
            obtain ⟨g7, o7, c7', he7, -⟩ := WRow.shape r7 (by rw [HQ.out]; omega)
            simp only [Value.slice.injEq] at he7
            obtain ⟨rfl, -, rfl⟩ := he7
            obtain ⟨d0, d1, d2⟩ := r7.three ht
            obtain ⟨u0, u1⟩ := K6.out.all t (List.mem_of_getElem? ht)
            have bx := heap_alloc_new wr (.cells #[.int .i64 t.k, .int .i64 t.s, .int .i64 t.v] 37)
            obtain ⟨x0, x1, x2⟩ := pk3 bx
            have hji : (j : Int) < (qn : Int) := by omega
            clear ht r7 bx
            go_wp2
            go_roundg (qn - (j + 1))
            case measure => omega
            case rel => exact ⟨j + 1, rfl, by omega, by go_num, Lib.hid (HJ.out.alloc _)⟩
          · obtain rfl : j = qn := by omega
            have TS := Lib.hid (K6.out.st.past (TT R7.out.2 HJ.out))
            have CL := TS.out.len
            rw [HQ.out] at CL
            have CL2 := Lib.hid CL
            clear CL
            go_wp2_with (first
              | (go_at_call 24; (with_reducible refine CL2.out.mono ?_); rintro x w8 ⟨rfl, rfl⟩)
              | (go_at_call 25; (with_reducible refine (TS.out.watches).mono ?_); rintro x w8 ⟨rfl, rfl⟩)
              | (go_at_call 9; (with_reducible refine (cA.out _).mono ?_); rintro x w9 ⟨rfl, t9⟩))
            go_ret
            exact ⟨rfl, TT TS.out.turn t9⟩
end Go.Proofs.Ytcnellkoejhofaa
