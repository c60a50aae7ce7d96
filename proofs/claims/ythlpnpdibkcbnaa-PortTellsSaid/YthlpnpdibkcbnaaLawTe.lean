/-
  PortTells' walk. No conditions but that the masks can be read.
-/
import Derived.Test.YthlpnpdibkcbnaaLawTeM
import Derived.Deep.LoopGhost
import Derived.OwnWalk
import Derived.BigQuiet
namespace Go.Proofs.Ythlpnpdibkcbnaa
open Go.ChangeShapes Go.WideShapes Go.ChangeAt Go.RowKit

set_option maxRecDepth 20000 in
set_option maxHeartbeats 4000000 in
theorem te_walk (o s : Int) (ho : fit o) (p : Option Addr) (len cap : Nat) (zs : List Int) (w : World) (hz : ZsAt w p len zs) :
    Calls Try.prog 6 #[.slice p len cap, .int .i64 o, .int .i64 s] w fun e w' => e = .returned (.bool true) ∧ Turn NoBlock w w' := by
  have cA := Lib.hid awake15
  have cN := Lib.hid (new_yes 1 100 w (by omega) (by omega))
  have HZ := Lib.hid hz
  clear hz
  by_cases hbad : 40 < len ∨ o < 1 ∨ o = 9223372036854775807
  · by_cases h1 : 40 < len
    · have hd : decide ((len : Int) > 40) = true := by simp; omega
      clear hbad
      go_enter Try.func6, Try.ntmps6
      go_wp2_with (first
        | (go_at_call 8; (with_reducible refine cN.out.mono ?_); rintro x w1 ⟨c, rfl, k1, -, -⟩; have K1 := Lib.hid k1; clear k1)
        | (go_at_call 9; (with_reducible refine (cA.out _).mono ?_); rintro x w9 ⟨rfl, t9⟩))
      go_ret
      exact ⟨rfl, TT K1.out.turn t9⟩
    · have hd : decide ((len : Int) > 40) = false := by simp; omega
      by_cases h2 : o < 1
      · clear hbad h1
        go_enter Try.func6, Try.ntmps6
        go_wp2_with (first
          | (go_at_call 8; (with_reducible refine cN.out.mono ?_); rintro x w1 ⟨c, rfl, k1, -, -⟩; have K1 := Lib.hid k1; clear k1)
          | (go_at_call 9; (with_reducible refine (cA.out _).mono ?_); rintro x w9 ⟨rfl, t9⟩))
        go_ret
        exact ⟨rfl, TT K1.out.turn t9⟩
      · obtain rfl : o = 9223372036854775807 := (hbad.resolve_left h1).resolve_left h2
        clear hbad h1 h2
        go_enter Try.func6, Try.ntmps6
        go_wp2_with (first
          | (go_at_call 8; (with_reducible refine cN.out.mono ?_); rintro x w1 ⟨c, rfl, k1, -, -⟩; have K1 := Lib.hid k1; clear k1)
          | (go_at_call 9; (with_reducible refine (cA.out _).mono ?_); rintro x w9 ⟨rfl, t9⟩))
        go_ret
        exact ⟨rfl, TT K1.out.turn t9⟩
  · have hd : decide ((len : Int) > 40) = false := by simp; omega
    have hl : len ≤ 40 := by omega
    have ho1 : ¬ o < 1 := by omega
    have ho2 : (o == 9223372036854775807) = false := by simp; omega
    have ho3 : IntKind.i64.wrap (o + 1) = o + 1 := by
      unfold fit at ho
      have := wrap_nat (o + 1).toNat (by omega)
      rw [show (((o + 1).toNat : Nat) : Int) = o + 1 by omega] at this
      exact this
    have ho4 : o ≤ 9223372036854775806 := by unfold fit at ho; omega
    have HO := Lib.hid (And.intro ho (And.intro (show fit (o + 1) from by unfold fit at *; omega) (show 1 ≤ o from by omega)))
    clear hbad ho
    go_enter Try.func6, Try.ntmps6
    go_wp2_with (first
      | (go_at_call 8; (with_reducible refine cN.out.mono ?_); rintro x w1 ⟨c, rfl, k1, -, -⟩; have K1 := Lib.hid k1; clear k1))
    have HU := Lib.hid (show RR w w1 c 1 100 [] [] (.slice none 0 0) [] NoBlock from ⟨K1.out.fewer (fun k hk => hk.elim (fun h => (blk_nil k h).elim) id), wrow_nil _ _ _, fun k hk => (blk_nil k hk).elim⟩)
    go_loopg [8, 38] len (fun z s8 s38 wr => ∃ (i n : Nat) (Ws : List Wc) (xs : List Int) (p : Option Addr) (cap : Nat), z = len - i ∧ i ≤ len ∧ n ≤ i ∧ s8 = .slice p n cap ∧ s38 = .int .i64 (i : Int) ∧ Hid (xs.length = n ∧ TW o s i Ws xs ∧ RR w wr c 1 100 [] Ws (.slice p n cap) xs NoBlock))
    case atStart => exact ⟨0, 0, [], [], none, 0, rfl, Nat.zero_le _, Nat.le_refl _, rfl, rfl, Lib.hid ⟨rfl, tw_nil o s, HU.out⟩⟩
    case round =>
      obtain ⟨i, n, Ws, xs, pv, cv, hz, hi, hn, rfl, rfl, HR⟩ := hrel
      by_cases hlt : i < len
      · obtain ⟨m, hm⟩ : ∃ m, zs[i]? = some m := ⟨_, List.getElem?_eq_getElem (by rw [HZ.out.1]; exact hlt)⟩
        obtain ⟨g, oo, rfl, hcell⟩ := HZ.out.2.2 (by omega)
        have q := HR.out.2.2.st.turn.cell (hcell i m hm) (fun h => h)
        have hil : (i : Int) < (len : Int) := by omega
        have HL := Lib.hid (show Ws.length ≤ 80 from by have := HR.out.2.1.len; omega)
        clear hcell
        by_cases h0 : m = 0
        · subst h0
          have hbz := bits_zero s
          have C1 := Lib.hid (te_refuse HR.out.2.2 (i : Int) HO.out.1)
          clear hm
          go_wp2_with (first
            | (go_at_call 15; (with_reducible refine C1.out.mono ?_); rintro x w2 ⟨rfl, k2⟩; have K2 := Lib.hid k2; clear k2)
            | (go_at_call 15; (with_reducible refine (te_watch (m := 1) K2.out (i : Int) HO.out.2.1 (by have := HO.out.2.2; omega) (by omega) (by have := HL.out; omega)).mono ?_); rintro x w3 ⟨rfl, k3⟩; have K3 := Lib.hid k3; clear k3))
          go_roundg (len - (i + 1))
          case measure => omega
          case rel => exact ⟨i + 1, n, _, xs, pv, cv, rfl, by omega, by omega, rfl, by go_num, Lib.hid ⟨HR.out.1, HR.out.2.1.skip, K3.out⟩⟩
        · have C1 := Lib.hid (te_watch HR.out.2.2 (i : Int) HO.out.1 HO.out.2.2 h0 (by have := HL.out; omega))
          have h00 : (m == 0) = false := by simp [h0]
          have hb0 : (m != 0) = true := by simp [h0]
          have HT := Lib.hid (HR.out.2.1.step (m := m))
          cases hmt : meetB m s with
          | false =>
            have hmt' : (bits .and .i64 m s != 0) = false := hmt
            rw [hmt] at HT
            simp only [Bool.false_eq_true, if_false, List.append_nil] at HT
            clear hm h0 hmt
            go_wp2_with (first
              | (go_at_call 15; (with_reducible refine C1.out.mono ?_); rintro x w2 ⟨rfl, k2⟩; have K2 := Lib.hid k2; clear k2)
              | (go_at_call 15; (with_reducible refine (te_watch (m := 1) K2.out (i : Int) HO.out.2.1 (by have := HO.out.2.2; omega) (by omega) (by rw [List.length_append, List.length_singleton]; have := HL.out; omega)).mono ?_); rintro x w3 ⟨rfl, k3⟩; have K3 := Lib.hid k3; clear k3))
            go_roundg (len - (i + 1))
            case measure => omega
            case rel => exact ⟨i + 1, n, _, xs, pv, cv, rfl, by omega, by omega, rfl, by go_num, Lib.hid ⟨HR.out.1, HT.out, K3.out⟩⟩
          | true =>
            have hmt' : (bits .and .i64 m s != 0) = true := hmt
            rw [hmt] at HT
            simp only [if_true] at HT
            clear hm h0 hmt
            go_wp2_with (first
              | (go_at_call 15; (with_reducible refine C1.out.mono ?_); rintro x w2 ⟨rfl, k2⟩; have K2 := Lib.hid k2; clear k2)
              | (go_at_call 15; (with_reducible refine (te_watch (m := 1) K2.out (i : Int) HO.out.2.1 (by have := HO.out.2.2; omega) (by omega) (by rw [List.length_append, List.length_singleton]; have := HL.out; omega)).mono ?_); rintro x w3 ⟨rfl, k3⟩; obtain ⟨p2, n2, cap2, p3, cap3, W3, he2, hn2, hap, k4⟩ := k3.push (i : Int) (by rw [HR.out.1]; omega); simp only [Value.slice.injEq] at he2; obtain ⟨rfl, rfl, rfl⟩ := he2; have K4 := Lib.hid k4; clear k3 k4 hn2)
              | (at_builtin; refine wpList_append_run (by rfl) (.tmp 65) (.tmp 67) 55 55 (by rfl) _ _ (by rfl) (by rfl) _ _ (hap _) ?_))
            go_roundg (len - (i + 1))
            case measure => omega
            case rel => exact ⟨i + 1, n + 1, _, _, p3, cap3, rfl, by omega, by omega, rfl, by go_num, Lib.hid ⟨by rw [List.length_append, List.length_singleton, HR.out.1], HT.out, K4.out⟩⟩
      · obtain rfl : i = len := by omega
        obtain ⟨hxl, hT, hR⟩ := HR.out
        have C1 := Lib.hid (hR.st.watched (o + 1) HO.out.2.1)
        have C2 := Lib.hid (fun W (h : RR w W c 1 100 [] Ws (.slice pv n cv) xs NoBlock) => te_tell h hT HO.out.1)
        simp only [hxl] at C2
        have hon : ((ofO Ws (o + 1)).length : Int) ≤ 80 := by have := ofO_len Ws (o + 1); have := hT.len; omega
        generalize hqq : ((ofO Ws (o + 1)).length : Int) = qq at *
        have HXL := Lib.hid hxl
        have HRR := Lib.hid hR
        have HQQ := Lib.hid hqq
        clear hxl hT hR hqq
        go_wp2_with (first
          | (go_at_call 26; (with_reducible refine C1.out.mono ?_); rintro x w2 ⟨rfl, rfl⟩)
          | (go_at_call 17; (with_reducible refine (C2.out _ HRR.out).mono ?_); rintro x w3 ⟨rfl, k3⟩; have K3 := Lib.hid k3; have C3 := Lib.hid (te_len k3); simp only [HXL.out] at C3; have C4 := Lib.hid (te_others k3 HO.out.2.1); simp only [HQQ.out] at C4; clear k3)
          | (go_at_call 24; (with_reducible refine C3.out.mono ?_); rintro x w4 ⟨rfl, rfl⟩)
          | (go_at_call 26; (with_reducible refine C4.out.mono ?_); rintro x w5 ⟨rfl, rfl⟩)
          | (go_at_call 23; (with_reducible refine (K3.out.st.packets).mono ?_); rintro x w6 ⟨v6, rfl, r6, b6, t6⟩; have hl6 : (keyed xs o s).length = n := (by unfold keyed; rw [List.length_map]; exact HXL.out); obtain ⟨p6, c6, he6⟩ := WRow.sl r6; rw [hl6] at he6; subst he6; have R6 := Lib.hid (And.intro r6 (And.intro t6 hl6)); clear r6 b6 t6 hl6))
        have hn40 : n ≤ 40 := by omega
        go_loopg [99] n (fun z s99 wr => ∃ j : Nat, z = n - j ∧ j ≤ n ∧ s99 = .int .i64 (j : Int) ∧ Hid (Turn NoBlock w6 wr))
        case atStart => exact ⟨0, rfl, Nat.zero_le _, rfl, Lib.hid (Turn.refl _ _)⟩
        case round =>
          obtain ⟨j, hz2, hj, rfl, HJ⟩ := hrel
          by_cases hjn : j < n
          · obtain ⟨x, hx⟩ : ∃ x, xs[j]? = some x := ⟨_, List.getElem?_eq_getElem (by rw [HXL.out]; exact hjn)⟩
            have hkx : (keyed xs o s)[j]? = some ⟨x, o, s⟩ := by unfold keyed; rw [List.getElem?_map, hx]; rfl
            have r6 := R6.out.1.past HJ.out
            obtain ⟨g6, o6, c6', he6, -⟩ := WRow.shape r6 (by rw [R6.out.2.2]; omega)
            simp only [Value.slice.injEq] at he6
            obtain ⟨rfl, -, rfl⟩ := he6
            obtain ⟨d0, d1, d2⟩ := r6.three hkx
            have rv := K3.out.row.past (TT R6.out.2.1 HJ.out)
            obtain ⟨gv, ov, cv', hev, -⟩ := WRow.shape rv (by rw [HXL.out]; omega)
            simp only [Value.slice.injEq] at hev
            obtain ⟨rfl, -, rfl⟩ := hev
            have tb : Turn NoBlock wr (wr.alloc (.cells #[.int .i64 x, .int .i64 o, .int .i64 s] 37)) := (Turn.refl _ _).alloc _
            have qv := (rv.past tb).at hx
            have bx := heap_alloc_new wr (.cells #[.int .i64 x, .int .i64 o, .int .i64 s] 37)
            obtain ⟨WB, hWB⟩ : ∃ WB, wr.alloc (.cells #[.int .i64 x, .int .i64 o, .int .i64 s] 37) = WB := ⟨_, rfl⟩
            rw [hWB] at qv bx tb
            obtain ⟨x0, x1, x2⟩ := pk3 bx
            have TB := Lib.hid tb
            have hji : (j : Int) < (n : Int) := by omega
            clear hx hkx r6 rv tb bx
            go_wp2
            go_quiet (fail)
            go_wp2
            go_roundg (n - (j + 1))
            case measure => omega
            case rel => exact ⟨j + 1, rfl, by omega, by go_num, Lib.hid (TT HJ.out (TB.out.drewN _))⟩
          · obtain rfl : j = n := by omega
            have C5 := Lib.hid (te_again ((K3.out.st.past (TT R6.out.2.1 HJ.out)).fewer (fun k hk => hk.elim)) HO.out.1)
            go_wp2_with (first
              | (go_at_call 17; (with_reducible refine C5.out.mono ?_); rintro x w7 ⟨rfl, t7⟩; have T7 := Lib.hid t7; clear t7)
              | (go_at_call 9; (with_reducible refine (cA.out _).mono ?_); rintro x w9 ⟨rfl, t9⟩))
            go_ret
            exact ⟨rfl, TT T7.out t9⟩
end Go.Proofs.Ythlpnpdibkcbnaa
