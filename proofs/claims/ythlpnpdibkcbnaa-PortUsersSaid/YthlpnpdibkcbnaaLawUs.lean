/-
  PortUsers' walk. No conditions but that the keys can be read.
-/
import Derived.Test.YthlpnpdibkcbnaaLawUsM
import Derived.Deep.LoopGhost
import Derived.OwnWalk
import Derived.Deep.RegionHeld3
namespace Go.Proofs.Ythlpnpdibkcbnaa
open Go.ChangeShapes Go.WideShapes Go.ChangeAt Go.RowKit

section
variable {w0 w w' : World} {c : Nat} {depth : Int} {zs : List Int} {a m : Nat} {v : Value} {xs : List Int} {Y : Nat → Prop}
theorem us_more (h : UU w0 w c depth (pq zs a m) v xs Y) (k : Int) (i : Nat) (hi : a + m = i) (hk : zs.getD i 0 = k) (hd : (m : Int) < depth) : Calls Try.prog 10 #[.pointer (some ⟨c, 0, none⟩), .int .i64 k, .int .i64 (i : Int)] w fun x w' => x = .returned (.int .i64 0) ∧ UU w0 w' c depth (pq zs a (m + 1)) v xs Y ∧ Kp Y w w' := by
  subst hi
  have := h.queue k ((a + m : Nat) : Int)
  unfold queS queL at this
  rw [pq_users, if_neg (by omega), if_neg (by omega), ← hk, pq_push] at this
  rw [← hk]
  exact this
theorem us_full (h : UU w0 w c depth (pq zs a m) v xs Y) (k n : Int) (hd : (m : Int) = depth) : Calls Try.prog 10 #[.pointer (some ⟨c, 0, none⟩), .int .i64 k, .int .i64 n] w fun x w' => x = .returned (.int .i64 (-22)) ∧ UU w0 w' c depth (pq zs a m) v xs Y ∧ Kp Y w w' := by
  have := h.queue k n
  unfold queS queL at this
  rw [pq_users, if_pos hd, if_pos hd] at this
  exact this
theorem us_take (h : UU w0 w c depth (pq zs a (m + 1)) v xs Y) : Calls Try.prog 12 #[.pointer (some ⟨c, 0, none⟩)] w fun x w' => x = .returned (.tuple #[.agg #[.int .i64 (zs.getD a 0), .int .i64 0, .int .i64 (a : Int)], .int .i64 0]) ∧ UU w0 w' c depth (pq zs (a + 1) m) v xs Y := h.take
theorem us_none (h : UU w0 w c depth (pq zs a 0) v xs Y) : Calls Try.prog 12 #[.pointer (some ⟨c, 0, none⟩)] w fun x w' => x = .returned (.tuple #[.agg #[.int .i64 0, .int .i64 0, .int .i64 0], .int .i64 (-22)]) ∧ UU w0 w' c depth (pq zs a 0) v xs Y := h.take
theorem us_len (h : UU w0 w c depth (pq zs a 0) v xs Y) (o : Obj) : Calls Try.prog 24 #[.pointer (some ⟨c, 0, none⟩)] (w.alloc o) fun x w' => x = .returned (.int .i64 0) ∧ w.alloc o = w' := (h.st.past ((Turn.refl NoBlock w).alloc o)).len
end
set_option maxRecDepth 20000 in
set_option maxHeartbeats 4000000 in
theorem us_walk (depth : Int) (p : Option Addr) (len cap : Nat) (zs : List Int) (w : World) (hz : ZsAt w p len zs) :
    Calls Try.prog 5 #[.int .i64 depth, .slice p len cap] w fun e w' => e = .returned (.bool true) ∧ Turn NoBlock w w' := by
  have cA := Lib.hid awake15
  have HZ := Lib.hid hz
  clear hz
  by_cases hd0 : depth < 1
  · have cN := Lib.hid (new_no depth 0 w (.inl hd0))
    go_enter Try.func5, Try.ntmps5
    go_wp2_with (first
      | (go_at_call 8; (with_reducible refine cN.out.mono ?_); rintro x w1 ⟨rfl, rfl⟩)
      | (go_at_call 9; (with_reducible refine (cA.out _).mono ?_); rintro x w9 ⟨rfl, t9⟩))
    go_ret
    exact ⟨rfl, t9⟩
  · by_cases hd1 : 65536 < depth
    · have cN := Lib.hid (new_no depth 0 w (.inr (.inr (.inl hd1))))
      go_enter Try.func5, Try.ntmps5
      go_wp2_with (first
        | (go_at_call 8; (with_reducible refine cN.out.mono ?_); rintro x w1 ⟨rfl, rfl⟩)
        | (go_at_call 9; (with_reducible refine (cA.out _).mono ?_); rintro x w9 ⟨rfl, t9⟩))
      go_ret
      exact ⟨rfl, t9⟩
    · have cN := Lib.hid (new_yes depth 0 w (by omega) (by omega))
      by_cases hlen : 80 < len
      · have hd : decide ((len : Int) > 80) = true := by simp; omega
        clear hd0 hd1
        go_enter Try.func5, Try.ntmps5
        go_wp2_with (first
          | (go_at_call 8; (with_reducible refine cN.out.mono ?_); rintro x w1 ⟨c, rfl, k1, -, -⟩; have K1 := Lib.hid k1; clear k1)
          | (go_at_call 9; (with_reducible refine (cA.out _).mono ?_); rintro x w9 ⟨rfl, t9⟩))
        go_ret
        exact ⟨rfl, TT K1.out.turn t9⟩
      · have hl : len ≤ 80 := by omega
        have hd : decide ((len : Int) > 80) = false := by simp; omega
        have HD := Lib.hid (And.intro hd0 hd1)
        clear hlen hd0 hd1
        go_enter Try.func5, Try.ntmps5
        go_wp2_with (first
          | (go_at_call 8; (with_reducible refine cN.out.mono ?_); rintro x w1 ⟨c, rfl, k1, -, -⟩; have K1 := Lib.hid k1; clear k1))
        have HU := Lib.hid (show UU w w1 c depth (pq zs 0 0) (.slice none 0 0) (seg 0 0) NoBlock from ⟨K1.out.fewer (fun k hk => hk.elim (fun h => (blk_nil k h).elim) id), wrow_nil _ _ _, fun k hk => (blk_nil k hk).elim⟩)
        go_loopg [6, 42] len (fun z s6 s42 wr => ∃ (a m i : Nat) (p : Option Addr) (cap : Nat), z = len - i ∧ a + m = i ∧ i ≤ len ∧ s6 = .slice p m cap ∧ s42 = .int .i64 (i : Int) ∧ Hid ((m : Int) ≤ depth ∧ UU w wr c depth (pq zs a m) (.slice p m cap) (seg a m) NoBlock))
        case atStart => exact ⟨0, 0, 0, none, 0, rfl, rfl, Nat.zero_le _, rfl, rfl, Lib.hid ⟨by have := HD.out.1; omega, HU.out⟩⟩
        case round =>
          obtain ⟨a, m, i, pv, cv, hz, ham, hi, rfl, rfl, HR⟩ := hrel
          by_cases hlt : i < len
          · obtain ⟨k, hk⟩ : ∃ k, zs[i]? = some k := ⟨_, List.getElem?_eq_getElem (by rw [HZ.out.1]; exact hlt)⟩
            obtain ⟨g, o, rfl, hcell⟩ := HZ.out.2.2 (by omega)
            have q := HR.out.2.st.turn.cell (hcell i k hk) (fun h => h)
            have hkd : zs.getD i 0 = k := by rw [List.getD_eq_getElem?_getD, hk]; rfl
            have hil : (i : Int) < (len : Int) := by omega
            have hm80 : m ≤ 80 := by omega
            have HCELL := Lib.hid hcell
            by_cases hmd : (m : Int) < depth
            · have hdm : decide ((m : Int) < depth) = true := by simpa using hmd
              have CQ := Lib.hid (us_more HR.out.2 k i ham hkd hmd)
              have HM := Lib.hid (And.intro ham (And.intro hmd hm80))
              have HEQ := Lib.hid (show seg a m ++ [(i : Int)] = seg a (m + 1) from by rw [← ham]; exact seg_push a m)
              clear hk hkd hcell hmd ham
              go_wp2_with (first
                | (go_at_call 10; (with_reducible refine CQ.out.mono ?_); rintro x w2 ⟨rfl, k2, -⟩; obtain ⟨p2, n2, cap2, p3, cap3, W3, he2, hn2, hap, k3⟩ := k2.push (i : Int) (by rw [seg_len]; omega); simp only [Value.slice.injEq] at he2; obtain ⟨rfl, rfl, rfl⟩ := he2; rw [HEQ.out] at k3; have K3 := Lib.hid k3; clear k2 k3 hn2)
                | (at_builtin; refine wpList_append_run (by rfl) (.tmp 60) (.tmp 62) 55 55 (by rfl) _ _ (by rfl) (by rfl) _ _ (hap _) ?_))
              go_roundg (len - (i + 1))
              case measure => omega
              case rel => exact ⟨a, m + 1, i + 1, p3, cap3, rfl, by have := HM.out.1; omega, by omega, rfl, by go_num, Lib.hid ⟨by have := HM.out.2.1; omega, K3.out⟩⟩
            · have hmd' : (m : Int) = depth := by have := HR.out.1; omega
              obtain ⟨m', rfl⟩ : ∃ m', m = m' + 1 := ⟨m - 1, by have := HD.out.1; omega⟩
              have hdm : decide (((m' : Int) + 1) < depth) = false := by simp; omega
              have CQ := Lib.hid (us_full HR.out.2 k (i : Int) hmd')
              have hal : (a : Int) < (len : Int) := by omega
              obtain ⟨ka, hka⟩ : ∃ ka, zs[a]? = some ka := ⟨_, List.getElem?_eq_getElem (by rw [HZ.out.1]; omega)⟩
              have hkad : zs.getD a 0 = ka := by rw [List.getD_eq_getElem?_getD, hka]; rfl
              have HKA := Lib.hid (And.intro hka hkad)
              have HM := Lib.hid (And.intro ham (And.intro hmd' (And.intro hm80 (And.intro hk hkd))))
              clear hk hkd hcell hmd hmd' ham hka hkad
              have hm2 : m' ≤ 80 := by omega
              have hw1 : (0 : Int) < (m' : Int) + 1 := by omega
              go_wp2_with (first
                | (go_at_call 10; (with_reducible refine CQ.out.mono ?_); rintro x w2 ⟨rfl, k2, -⟩; have K2 := Lib.hid k2; clear k2)
                | (go_at_call 12; (with_reducible refine (us_take K2.out).mono ?_); rintro x w3 ⟨rfl, k3⟩; rw [HKA.out.2]; have K3 := Lib.hid k3; clear k3))
              have KB := K3.out.beside (.cells #[.int .i64 ka, .int .i64 0, .int .i64 (a : Int)] 37)
              have bx := heap_alloc_new w3 (.cells #[.int .i64 ka, .int .i64 0, .int .i64 (a : Int)] 37)
              obtain ⟨WB, hWB⟩ : ∃ WB, w3.alloc (.cells #[.int .i64 ka, .int .i64 0, .int .i64 (a : Int)] 37) = WB := ⟨_, rfl⟩
              rw [hWB] at KB bx ⊢
              obtain ⟨gv, ov, cv', he, hnc, -⟩ := WRow.shape KB.row (by rw [seg_len]; omega)
              simp only [Value.slice.injEq] at he
              obtain ⟨rfl, -, rfl⟩ := he
              have HS := Lib.hid (fun W (Q : List Pk) (hU : UU w W c depth Q (.slice (some ⟨gv, ov, none⟩) (m' + 1) cv) (seg a (m' + 1)) (fun k => k = w3.heap.size)) => And.intro (show W.cell? ⟨gv, ov, none⟩ = some (.int .i64 (a : Int)) from hU.row.at (j := 0) rfl) (hU.st.turn.cell (HCELL.out a ka HKA.out.1) (fun h => h)))
              have KBd := KB.past (Turn.refl NoBlock WB).drew
              obtain ⟨x3, x4⟩ := HS.out _ _ KBd
              obtain ⟨x0, x1, x2⟩ := pk3 (W := WB.drew) bx
              have S0 := And.intro x0 (And.intro x1 (And.intro x2 (And.intro x3 x4)))
              have CQ2 := Lib.hid (us_more KBd k i (by have := HM.out.1; omega) HM.out.2.2.2.2 (by have := HM.out.2.1; omega))
              have BX := Lib.hid bx
              clear KB KBd bx x0 x1 x2 x3 x4 hnc
              go_region_held3 (fun W => (W.cell? ⟨w3.heap.size, 0, none⟩ = some (.int .i64 ka) ∧ W.cell? ⟨w3.heap.size, 1, none⟩ = some (.int .i64 0) ∧ W.cell? ⟨w3.heap.size, 2, none⟩ = some (.int .i64 (a : Int)) ∧ W.cell? ⟨gv, ov, none⟩ = some (.int .i64 (a : Int)) ∧ W.cell? ⟨g, o + a, none⟩ = some (.int .i64 ka)))
                (first | exact S0 | exact S4)
                ((go_at_call 10; (with_reducible refine CQ2.out.mono ?_); rintro x w4 ⟨rfl, k4, kp⟩; have K4 := Lib.hid k4; have S4 := (fun (y : _ ∧ _) (z : _ ∧ _ ∧ _) => And.intro z.1 (And.intro z.2.1 (And.intro z.2.2 y))) (HS.out _ _ k4) (pk3 (kp.heap (show WB.drew.heap[w3.heap.size]? = _ from BX.out) rfl)); clear k4 kp))
              have KF := (K4.out.fewer (Z := NoBlock) (fun k hk => hk.elim))
              rw [seg_cons] at KF
              obtain ⟨g2, o2, cp2, D, he2, hnc2, hsl, KG⟩ := KF.behind
              simp only [seg_len, Value.slice.injEq, Option.some.injEq, Addr.mk.injEq, and_true] at he2 hsl KG
              obtain ⟨⟨rfl, rfl⟩, -, rfl⟩ := he2
              obtain ⟨p2, n2, cap2, p3, cap3, W3, he3, hn3, hap, k5⟩ := KG.push (i : Int) (by rw [seg_len]; omega)
              simp only [Value.slice.injEq] at he3
              obtain ⟨rfl, rfl, rfl⟩ := he3
              have hsg : seg (a + 1) m' ++ [(i : Int)] = seg (a + 1) (m' + 1) := by have h0 := seg_push (a + 1) m'; rw [show a + 1 + m' = i by have := HM.out.1; omega] at h0; exact h0
              rw [hsg] at k5
              have K5 := Lib.hid k5
              clear KF KG k5 hnc2 hn3 hsg
              go_wp2_with (at_builtin; refine wpList_append_run (by rfl) (.tmp 103) (.tmp 105) 55 55 (by rfl) _ _ (by rfl) (by rfl) _ _ (hap _) ?_)
              go_roundg (len - (i + 1))
              case measure => omega
              case rel => exact ⟨a + 1, m' + 1, i + 1, p3, cap3, rfl, by have := HM.out.1; omega, by omega, rfl, by go_num, Lib.hid ⟨by have := HM.out.2.1; omega, K5.out⟩⟩
          · obtain rfl : i = len := by omega
            obtain ⟨hmd, hU⟩ := HR.out
            have hm80 : m ≤ 80 := by omega
            have HV := Lib.hid hU
            have hpv : m = 0 ∨ ∃ gv ov, pv = some ⟨gv, ov, none⟩ := by
              by_cases h0 : m = 0
              · exact .inl h0
              · obtain ⟨gv, ov, cv', he, -⟩ := WRow.shape hU.row (by rw [seg_len]; omega)
                simp only [Value.slice.injEq] at he
                exact .inr ⟨gv, ov, he.1⟩
            have HAM := Lib.hid (And.intro ham hmd)
            clear hU ham hmd
            go_wp2
            go_loopg [110] m (fun z s110 wr => ∃ j : Nat, z = m - j ∧ j ≤ m ∧ s110 = .int .i64 (j : Int) ∧ Hid (UU w wr c depth (pq zs (a + j) (m - j)) (.slice pv m cv) (seg a m) NoBlock))
            case atStart => exact ⟨0, rfl, Nat.zero_le _, rfl, HV⟩
            case round =>
              obtain ⟨j, hz2, hj, rfl, HJ⟩ := hrel
              by_cases hjm : j < m
              · obtain ⟨gv, ov, rfl⟩ := hpv.resolve_left (by omega)
                have qv := HJ.out.row.at (seg_at a m j hjm)
                have CT := HJ.out
                rw [show m - j = (m - (j + 1)) + 1 by omega] at CT
                have CT2 := Lib.hid (us_take CT)
                have hji : (j : Int) < (m : Int) := by omega
                have hcast : ((a + j : Nat) : Int) = (a : Int) + (j : Int) := by omega
                rw [hcast] at qv CT2
                clear CT hcast
                go_wp2_with (first
                  | (go_at_call 12; (with_reducible refine CT2.out.mono ?_); rintro x w3 ⟨rfl, k3⟩; have K3 := Lib.hid k3; clear k3))
                go_roundg (m - (j + 1))
                case measure => omega
                case rel => exact ⟨j + 1, rfl, by omega, by go_num, Lib.hid (K3.out.past ((Turn.refl NoBlock _).alloc _))⟩
              · obtain rfl : j = m := by omega
                have CT := HJ.out
                rw [Nat.sub_self] at CT
                have CT2 := Lib.hid (us_none CT)
                clear CT
                go_wp2_with (first
                  | (go_at_call 12; (with_reducible refine CT2.out.mono ?_); rintro x w3 ⟨rfl, k3⟩; have K3 := Lib.hid k3; clear k3)
                  | (go_at_call 24; (with_reducible refine (us_len K3.out _).mono ?_); rintro x w5 ⟨rfl, rfl⟩)
                  | (go_at_call 9; (with_reducible refine (cA.out _).mono ?_); rintro x w9 ⟨rfl, t9⟩))
                go_ret
                exact ⟨rfl, TT (TT K3.out.st.turn ((Turn.refl NoBlock _).alloc _)) t9⟩
end Go.Proofs.Ythlpnpdibkcbnaa
