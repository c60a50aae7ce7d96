/-
  What the reference's Call answers, and what it makes of its channel. No conditions but that the reference's channel is one that calls can make.
-/
import Derived.Test.YtcbphfpfdfgehaaRCWrite3
namespace Go.Proofs.Ytcbphfpfdfgehaa
open Go.ChangeShapes Go.WideShapes Go.ChangeAt Go.RowKit

theorem rmk_join {w0 w w1 w2 : World} {x depth : Nat} {U V U1 V1 : Nat → Value} {S' : Nat → MS} (t : Turn (fun k => k = x) w w1) (f : ∀ k, RF x U1 V1 k → RF x U V k ∨ (w.heap.size ≤ k ∧ k < w1.heap.size)) (h : RMk w0 w1 w2 x depth U1 V1 S') : RMk w0 w w2 x depth U V S' := by
  obtain ⟨U2, V2, Q2, a2, t2, f2⟩ := h
  have hs1 := t.size
  have hs2 := t2.size
  refine ⟨U2, V2, Q2, a2, t.trans t2 (fun k hk => .inl hk), fun k hk => ?_⟩
  rcases f2 k hk with h | h
  · rcases f k h with h | h
    · exact .inl h
    · exact .inr ⟨h.1, by omega⟩
  · exact .inr ⟨by omega, h.2⟩
section
variable {w0 w w1 w2 : World} {x depth : Nat} {S : Nat → MS} {U V : Nat → Value} {Q : Nat → List QM}
set_option maxRecDepth 20000 in
theorem rcall_no0 (h : RC w0 w x depth S U V Q) (k : Int) (m : Msg) (vd vh : Value) (hd : RzB w vd m.d) (hh : RzI w vh m.h) (st : Int) (hst : (st = -24 ∧ (S 0).op = false) ∨ (st = -10 ∧ (S 0).op = true ∧ (m.tx = 0 ∨ k < 0))) :
    Calls Try.prog 43 #[.pointer (some ⟨x, 0, none⟩), .int .i64 0, .int .i64 k, .agg #[.int .i64 m.tx, vd, vh]] w fun y w' => y = .returned (.int .i64 st) ∧ Turn NoBlock w w' := by
  obtain ⟨p1, c1, hv1⟩ := hd.sl
  obtain ⟨p2, c2, hv2⟩ := hh.sl
  subst hv1 hv2
  have CK := Lib.hid (fun W (t : Turn NoBlock w W) => rcheck0 (h.past t) (S 0).op rfl)
  generalize m.tx = tx at *
  clear h hd hh
  rcases hst with ⟨rfl, h2⟩ | ⟨rfl, h2, h3⟩
  · rw [h2] at CK
    go_enter Try.func43, Try.ntmps43
    go_wp2_with (go_at_call 53; (with_reducible refine (CK.out _ ((Turn.refl _ _).alloc _)).mono ?_); rintro y w' ⟨rfl, rfl⟩)
    go_ret
    exact ⟨rfl, (Turn.refl _ _).alloc _⟩
  · rw [h2] at CK
    have two : (tx == 0) = true ∨ ((tx == 0) = false ∧ k < 0) := by
      by_cases h0 : tx = 0
      · exact .inl (by simpa using h0)
      · exact .inr ⟨by simpa using h0, by omega⟩
    clear h2 h3
    rcases two with g1 | ⟨g1, g2⟩
    all_goals
      go_enter Try.func43, Try.ntmps43
      go_wp2_with (go_at_call 53; (with_reducible refine (CK.out _ ((Turn.refl _ _).alloc _)).mono ?_); rintro y w' ⟨rfl, rfl⟩)
      go_ret
      exact ⟨rfl, (Turn.refl _ _).alloc _⟩
set_option maxRecDepth 20000 in
set_option maxHeartbeats 4000000 in
theorem rcall_go0 (h : RC w0 w x depth S U V Q) (t0 : Turn NoBlock w0 w) (hwl : ∀ e, e < 2 → (S e).ws.length ≤ 1000000) (hql : (S 1).q.length ≤ 1000000) (ho : (S 0).op = true) (k : Int) (hk0 : ¬ k < 0) (m : Msg) (hm0 : m.tx ≠ 0) (vd vh : Value) (hd : RzB w0 vd m.d) (hh : RzI w0 vh m.h) :
    Calls Try.prog 43 #[.pointer (some ⟨x, 0, none⟩), .int .i64 0, .int .i64 k, .agg #[.int .i64 m.tx, vd, vh]] w fun y w' => y = .returned (.int .i64 (ccS depth S 0 m k)) ∧ RMk w0 w w' x depth U V (ccK depth S 0 m k) := by
  obtain ⟨iW, hiW, hzW, hsW, hbW⟩ := info_parts infoRW
  have HIW := Lib.hid (And.intro hiW (And.intro hzW (And.intro hsW hbW)))
  obtain ⟨p1, c1, hv1⟩ := hd.sl
  obtain ⟨p2, c2, hv2⟩ := hh.sl
  subst hv1 hv2
  have CK := Lib.hid (fun W (t : Turn NoBlock w W) => show Calls Try.prog 53 #[.pointer (some ⟨x, 0, none⟩), .int .i64 0] W fun y w' => y = .returned (.int .i64 0) ∧ W = w' from rcheck0 (h.past t) true ho)
  have CW := Lib.hid (fun W (t : Turn NoBlock w W) => rwriteT0 (h.past t) (TT t0 t) (hwl 1 (by omega)) hql m _ _ hd hh)
  have hbar : barB S 0 m k = true → ccS depth S 0 m k = -26 ∧ ccK depth S 0 m k = S := fun hb => by
    have hs : ccS depth S 0 m k = -26 := by unfold ccS; rw [if_neg (by rw [ho]; decide), if_neg (fun h => h.elim hm0 hk0), if_pos hb]
    exact ⟨hs, by unfold ccK; rw [hs, if_neg (by decide)]⟩
  have HBAR := Lib.hid (show (False ∨ ∃ (a i : Nat) (t : Wt), (S a).ws[i]? = some t ∧ a < 2 ∧ (t.who = k ∨ (a = 0 ∧ t.tx = m.tx))) → ccS depth S 0 m k = -26 ∧ ccK depth S 0 m k = S from fun hx => by
    apply hbar
    obtain ⟨a, i, t, ht, ha, hc⟩ := hx.elim (fun h => h.elim) (fun h => h)
    have hmem := List.mem_of_getElem? ht
    unfold barB
    rw [Bool.or_eq_true, List.any_eq_true, List.any_eq_true]
    have ha2 : a = 0 ∨ a = 1 := by omega
    rcases ha2 with rfl | rfl
    · exact .inl ⟨t, hmem, by rcases hc with hc | hc <;> simp [hc]⟩
    · exact .inr ⟨t, hmem, by rcases hc with hc | hc; (simp [hc]); omega⟩)
  obtain ⟨q0, d0, hv0⟩ := (h.rv 0 (by omega)).sl
  obtain ⟨q1, d1, hv1⟩ := (h.rv 1 (by omega)).sl
  obtain ⟨n0, hn0⟩ : ∃ n, (S 0).ws.length = n := ⟨_, rfl⟩
  obtain ⟨n1', hn1'⟩ : ∃ n, (S 1).ws.length = n := ⟨_, rfl⟩
  have r0 := h.rv 0 (by omega)
  have r1 := h.rv 1 (by omega)
  have v0 : w.cell? ⟨x, 2, none⟩ = some (V 0) := h.cv 0 (by omega)
  have v1 : w.cell? ⟨x, 3, none⟩ = some (V 1) := h.cv 1 (by omega)
  rw [hv0, hn0] at r0 v0
  rw [hv1, hn1'] at r1 v1
  have HR0 := Lib.hid (And.intro r0 hn0)
  have HR1 := Lib.hid (And.intro r1 hn1')
  have hl0 : (n0 : Int) ≤ 1000000 := by have := hwl 0 (by omega); omega
  have hl1 : (n1' : Int) ≤ 1000000 := by have := hwl 1 (by omega); omega
  have HCC := Lib.hid (show (∀ j, j < n0 → ∀ u, (S 0).ws[j]? = some u → u.who ≠ k ∧ u.tx ≠ m.tx) → (∀ j, j < n1' → ∀ u, (S 1).ws[j]? = some u → u.who ≠ k) → ccS depth S 0 m k = cwS depth S 0 m ∧ ccK depth S 0 m k = if cwS depth S 0 m = 0 then updN (cwK depth S 0 m) 0 ⟨(cwK depth S 0 m 0).op, (cwK depth S 0 m 0).q, (cwK depth S 0 m 0).ws ++ [⟨k, m.tx⟩]⟩ else S from fun h0 h1 => by
    have hnb : ¬ barB S 0 m k = true := fun hb => by
      unfold barB at hb
      rw [Bool.or_eq_true, List.any_eq_true, List.any_eq_true] at hb
      rcases hb with ⟨t, h2, h3⟩ | ⟨t, h2, h3⟩
      · obtain ⟨j, hj, he⟩ := List.getElem_of_mem h2
        have := h0 j (by omega) t (by rw [List.getElem?_eq_getElem hj, he])
        simp at h3
        exact h3.elim this.1 this.2
      · obtain ⟨j, hj, he⟩ := List.getElem_of_mem h2
        have hj : j < (S 1).ws.length := hj
        have := h1 j (by omega) t (by rw [List.getElem?_eq_getElem hj]; exact congrArg some he)
        simp at h3
        exact this h3
    have hs : ccS depth S 0 m k = cwS depth S 0 m := by unfold ccS; rw [if_neg (by rw [ho]; decide), if_neg (fun h => h.elim hm0 hk0), if_neg hnb]
    refine ⟨hs, ?_⟩
    unfold ccK
    rw [hs])
  have HH := Lib.hid h
  have HWL := Lib.hid (And.intro hwl (And.intro hql hm0))
  obtain ⟨n1, hm1⟩ : ∃ n, m.d.length = n := ⟨_, rfl⟩
  obtain ⟨n2, hm2⟩ : ∃ n, m.h.length = n := ⟨_, rfl⟩
  rw [hm1, hm2] at CW
  simp only [hm1, hm2]
  obtain ⟨B, hB⟩ : ∃ B, w.heap.size = B := ⟨_, rfl⟩
  have lx := h.typ.lt
  have t1 := (Turn.refl NoBlock w).alloc (.cells #[.int .i64 m.tx, .slice p1 n1 c1, .slice p2 n2 c2] 38)
  have bx := heap_alloc_new w (.cells #[.int .i64 m.tx, .slice p1 n1 c1, .slice p2 n2 c2] 38)
  rw [hB] at bx
  have HW := Lib.hid (show ∀ W, Turn NoBlock (w.alloc (.cells #[.int .i64 m.tx, .slice p1 n1 c1, .slice p2 n2 c2] 38)) W → W.cell? ⟨B, 0, none⟩ = some (.int .i64 m.tx) ∧ W.cell? ⟨B, 1, none⟩ = some (.slice p1 n1 c1) ∧ W.cell? ⟨B, 2, none⟩ = some (.slice p2 n2 c2) ∧ B < W.heap.size ∧ W.cell? ⟨x, 2, none⟩ = some (.slice q0 n0 d0) ∧ W.cell? ⟨x, 3, none⟩ = some (.slice q1 n1' d1) ∧ x < W.heap.size ∧ Turn NoBlock w W ∧ TBlk W x 34 from fun W t => by
    have b := box3 (t.heap bx (fun h => h))
    have tt := TT t1 t
    exact ⟨b.1, b.2.1, b.2.2, lt_of_block (t.heap bx (fun h => h)), tt.cell v0 (fun h => h), tt.cell v1 (fun h => h), Nat.lt_of_lt_of_le lx tt.size, tt, h.typ.kept tt (fun h => h)⟩)
  have HB := Lib.hid hB
  have hz : (m.tx == 0) = false := by simpa using hm0
  clear h t0 hd hh hwl hql ho hm0 hbar hv0 hv1 hn0 hn1' r0 r1 v0 v1 hm1 hm2 lx t1 bx hiW hzW hsW hbW
  go_enter Try.func43, Try.ntmps43
  go_wp2_with (go_at_call 53; (with_reducible refine (CK.out _ ((Turn.refl _ _).alloc _)).mono ?_); rintro y w' ⟨rfl, rfl⟩)
  generalize w.alloc (.cells #[.int .i64 m.tx, .slice p1 n1 c1, .slice p2 n2 c2] 38) = W1 at *
  go_loopg [10] 2 (fun g s10 wr => ((s10 = .int .i64 0 ∧ g = 2) ∨ (s10 = .int .i64 1 ∧ g = 1 ∧ Hid (∀ j, j < n0 → ∀ u, (S 0).ws[j]? = some u → u.who ≠ k ∧ u.tx ≠ m.tx)) ∨ (s10 = .int .i64 2 ∧ g = 0 ∧ Hid ((∀ j, j < n0 → ∀ u, (S 0).ws[j]? = some u → u.who ≠ k ∧ u.tx ≠ m.tx) ∧ (∀ j, j < n1' → ∀ u, (S 1).ws[j]? = some u → u.who ≠ k)))) ∧ Hid (Turn NoBlock W1 wr))
  case atStart => exact ⟨.inl ⟨rfl, rfl⟩, Lib.hid (Turn.refl _ _)⟩
  case round =>
    obtain ⟨three, HT⟩ := hrel
    rcases three with ⟨rfl, hg⟩ | ⟨rfl, hg, H0⟩ | ⟨rfl, hg, H01⟩
    · obtain ⟨b0, b1, b2, bl, e2, e3, lx, -, -⟩ := HW.out _ HT.out
      go_wp2
      go_loopg [11] n0 (fun z s11 wr2 => ∃ i : Nat, i ≤ n0 ∧ z = n0 - i ∧ s11 = .int .i64 (i : Int) ∧ Hid (Turn NoBlock W1 wr2) ∧ Hid (∀ j, j < i → ∀ u, (S 0).ws[j]? = some u → u.who ≠ k ∧ u.tx ≠ m.tx))
      case atStart => exact ⟨0, by omega, by omega, rfl, Lib.hid HT.out, Lib.hid (fun j hj => by omega)⟩
      case round =>
        obtain ⟨i, hi, hz2, rfl, HT2, HI⟩ := hrel
        obtain ⟨b0, b1, b2, bl, e2, e3, lx, tw, ty⟩ := HW.out _ HT2.out
        by_cases hlt : i < n0
        · have hlti : (i : Int) < (n0 : Int) := by omega
          obtain ⟨t, ht⟩ : ∃ t, (S 0).ws[i]? = some t := ⟨_, List.getElem?_eq_getElem (by rw [HR0.out.2]; exact hlt)⟩
          obtain ⟨g, o, rfl, k0, k1⟩ := wt_cells (HR0.out.1.past tw) HR0.out.2 ht
          clear tw ty
          by_cases hk : t.who = k
          · have hb : (t.who == k) = true := by simpa using hk
            have HF := Lib.hid (HBAR.out (.inr ⟨0, i, t, ht, by omega, .inl hk⟩))
            clear ht hk
            go_wp2
            go_quiet (fail)
            go_wp2
            go_ret
            rw [HF.out.1, HF.out.2]
            exact ⟨rfl, RMk.refl HH.out (TT (HW.out _ HT2.out).2.2.2.2.2.2.2.1 ((Turn.refl _ _).drewN _))⟩
          · have hb : (t.who == k) = false := by simpa using hk
            by_cases hx2 : t.tx = m.tx
            · have hb2 : (t.tx == m.tx) = true := by simpa using hx2
              have HF := Lib.hid (HBAR.out (.inr ⟨0, i, t, ht, by omega, .inr ⟨rfl, hx2⟩⟩))
              clear ht hk hx2
              go_wp2
              go_quiet (fail)
              go_wp2
              go_ret
              rw [HF.out.1, HF.out.2]
              exact ⟨rfl, RMk.refl HH.out (TT (HW.out _ HT2.out).2.2.2.2.2.2.2.1 ((Turn.refl _ _).drewN _))⟩
            · have hb2 : (t.tx == m.tx) = false := by simpa using hx2
              have HX := Lib.hid (show ∀ j, j < i + 1 → ∀ u, (S 0).ws[j]? = some u → u.who ≠ k ∧ u.tx ≠ m.tx from fun j hj u hu => by
                by_cases hji : j = i
                · subst hji; rw [ht] at hu; cases hu; exact ⟨hk, hx2⟩
                · exact HI.out j (by omega) u hu)
              clear ht hk hx2
              go_wp2
              go_quiet (fail)
              go_wp2
              go_roundg (n0 - (i + 1))
              case measure => omega
              case rel => exact ⟨i + 1, by omega, rfl, by go_num, Lib.hid (TT HT2.out ((Turn.refl _ _).drewN _)), HX⟩
        · have hlti : ¬ (i : Int) < (n0 : Int) := by omega
          obtain rfl : i = n0 := by omega
          clear tw ty
          go_wp2
          go_roundg 1
          case measure => omega
          case rel => exact ⟨.inr (.inl ⟨by go_num, rfl, Lib.hid HI.out⟩), Lib.hid HT2.out⟩
    · obtain ⟨b0, b1, b2, bl, e2, e3, lx, -, -⟩ := HW.out _ HT.out
      go_wp2
      go_loopg [11] n1' (fun z s11 wr2 => ∃ i : Nat, i ≤ n1' ∧ z = n1' - i ∧ s11 = .int .i64 (i : Int) ∧ Hid (Turn NoBlock W1 wr2) ∧ Hid (∀ j, j < i → ∀ u, (S 1).ws[j]? = some u → u.who ≠ k))
      case atStart => exact ⟨0, by omega, by omega, rfl, Lib.hid HT.out, Lib.hid (fun j hj => by omega)⟩
      case round =>
        obtain ⟨i, hi, hz2, rfl, HT2, HI⟩ := hrel
        obtain ⟨b0, b1, b2, bl, e2, e3, lx, tw, ty⟩ := HW.out _ HT2.out
        by_cases hlt : i < n1'
        · have hlti : (i : Int) < (n1' : Int) := by omega
          obtain ⟨t, ht⟩ : ∃ t, (S 1).ws[i]? = some t := ⟨_, List.getElem?_eq_getElem (by rw [HR1.out.2]; exact hlt)⟩
          obtain ⟨g, o, rfl, k0, k1⟩ := wt_cells (HR1.out.1.past tw) HR1.out.2 ht
          clear tw ty
          by_cases hk : t.who = k
          · have hb : (t.who == k) = true := by simpa using hk
            have HF := Lib.hid (HBAR.out (.inr ⟨1, i, t, ht, by omega, .inl hk⟩))
            clear ht hk
            go_wp2
            go_quiet (fail)
            go_wp2
            go_ret
            rw [HF.out.1, HF.out.2]
            exact ⟨rfl, RMk.refl HH.out (TT (HW.out _ HT2.out).2.2.2.2.2.2.2.1 ((Turn.refl _ _).drewN _))⟩
          · have hb : (t.who == k) = false := by simpa using hk
            have HX := Lib.hid (show ∀ j, j < i + 1 → ∀ u, (S 1).ws[j]? = some u → u.who ≠ k from fun j hj u hu => by
              by_cases hji : j = i
              · subst hji; rw [ht] at hu; cases hu; exact hk
              · exact HI.out j (by omega) u hu)
            clear ht hk
            go_wp2
            go_quiet (fail)
            go_wp2
            go_roundg (n1' - (i + 1))
            case measure => omega
            case rel => exact ⟨i + 1, by omega, rfl, by go_num, Lib.hid (TT HT2.out ((Turn.refl _ _).drewN _)), HX⟩
        · have hlti : ¬ (i : Int) < (n1' : Int) := by omega
          obtain rfl : i = n1' := by omega
          clear tw ty
          go_wp2
          go_roundg 0
          case measure => omega
          case rel => exact ⟨.inr (.inr ⟨by go_num, rfl, Lib.hid ⟨H0.out, HI.out⟩⟩), Lib.hid HT2.out⟩
    · obtain ⟨b0, b1, b2, bl, e2, e3, lx, tw, ty⟩ := HW.out _ HT.out
      have HF := Lib.hid (HCC.out H01.out.1 H01.out.2)
      have TW := Lib.hid tw
      clear tw ty e2 e3 lx
      by_cases hs0 : cwS depth S 0 m = 0
      · have HK := Lib.hid (show ccK depth S 0 m k = updN (cwK depth S 0 m) 0 ⟨(cwK depth S 0 m 0).op, (cwK depth S 0 m 0).q, (cwK depth S 0 m 0).ws ++ [⟨k, m.tx⟩]⟩ ∧ ccS depth S 0 m k = 0 by rw [HF.out.1, HF.out.2, if_pos hs0]; exact ⟨rfl, hs0⟩)
        have HL2 := Lib.hid (show (cwK depth S 0 m 0).ws.length ≤ 1000000 by
          have h5 := HWL.out.1 0 (by omega)
          unfold cwK
          rw [if_pos hs0]
          split
          all_goals (rw [updN_other _ _ (by decide)]; exact h5))
        have CW2 := Lib.hid (CW.out _ TW.out)
        rw [hs0] at CW2
        generalize cwK depth S 0 m = S2 at *
        generalize cwN depth S 0 m = wn at *
        clear hs0
        go_upto_region 18 with (go_at_call 39; (with_reducible refine CW2.out.mono ?_); rintro y w3 ⟨rfl, h3⟩; have H3 := Lib.hid h3; clear h3)
        obtain ⟨U2, V2, Q2, hc2, tx2, ft2⟩ := H3.out
        have hBx : B ≠ x := by have := HH.out.typ.lt; have := HB.out; omega
        have b0 := tx2.cell b0 hBx
        have bl := Nat.lt_of_lt_of_le bl tx2.size
        have rv := hc2.rv 0 (by omega)
        obtain ⟨pv, cv, hvv⟩ := rv.sl
        obtain ⟨nv, hnv⟩ : ∃ n, (S2 0).ws.length = n := ⟨_, rfl⟩
        have v2 : w3.cell? ⟨x, 2, none⟩ = some (V2 0) := hc2.cv 0 (by omega)
        rw [hvv, hnv] at rv v2
        have RV := Lib.hid rv
        have TY := Lib.hid hc2.typ
        have HC2 := Lib.hid (And.intro hc2 (And.intro tx2 (And.intro ft2 hnv)))
        have hnl : nv ≤ 1000000 := by rw [← hnv]; exact HL2.out
        have LB := Lib.hid (show 0 + nv ≤ maxLen ∧ (0 + nv) * 16 ≤ 140737488355328 ∧ nv + 1 ≤ maxLen ∧ (nv + 1) * 16 ≤ 140737488355328 by unfold maxLen; omega)
        have WONE := Lib.hid (wcells_one (S2 0).ws)
        have lx := hc2.typ.lt
        have fx := hc2.typ.free 2
        have nvl : (nv : Int) ≤ 1000000 := by omega
        clear rv hvv hnv hc2 tx2 ft2 hBx
        go_region_law (first
          | (refine step_append_r rfl (.tmp 87) (.tmp 93) 30 30 rfl (wrow_nil _ 131 2) iW _ 16 rws2 HIW.out.1 HIW.out.2.1 HIW.out.2.2.1 HIW.out.2.2.2 (by rfl) (by rfl) (by rfl) (WRow.src (RV.out.past (show Turn NoBlock w3 _ from (by (repeat (first | with_reducible exact Turn.refl _ _ | with_reducible refine Turn.drew ?_ | with_reducible refine Turn.alloc ?_ _))))) 30 rws2 WONE.out) LB.out.1 LB.out.2.1 ?_; intro v8 W8 z8 r8 t8 k8; clear z8; rw [Nat.zero_add, List.nil_append] at r8; obtain ⟨p8, c8, rfl⟩ := r8.sl; have T8 := Lib.hid (nil_turn t8); have R8 := Lib.hid r8; have TT8 := Lib.hid (TT (show Turn NoBlock w3 _ from (by (repeat (first | with_reducible exact Turn.refl _ _ | with_reducible refine Turn.drew ?_ | with_reducible refine Turn.alloc ?_ _)))) T8.out); have b0 := TT8.out.cell b0 (fun h => h); have bl := Nat.lt_of_lt_of_le bl TT8.out.size; have FR8 := Lib.hid (fresh8 (show Turn NoBlock w3 _ from (by (repeat (first | with_reducible exact Turn.refl _ _ | with_reducible refine Turn.drew ?_ | with_reducible refine Turn.alloc ?_ _)))) k8); have NB8 := Lib.hid (show ¬ Blk (.slice p8 nv c8) x from fun hk => by have := FR8.out x hk; have := TY.out.lt; omega); clear r8 t8 k8)
          | (refine step_append_r rfl (.tmp 94) (.tmp 99) 30 30 rfl (R8.out.past (show Turn NoBlock W8 _ from (by (repeat (first | with_reducible exact Turn.refl _ _ | with_reducible refine Turn.drew ?_ | with_reducible refine Turn.alloc ?_ _))))) iW _ 16 rws2 HIW.out.1 HIW.out.2.1 HIW.out.2.2.1 HIW.out.2.2.2 (by rfl) (by rfl) (by rfl) (WRow.src (wrow_heap (cs := #[.int .i64 k, .int .i64 m.tx]) (heap_alloc_new W8 _) rfl) 30 rws2 (fun u hu => by simp at hu; rcases hu with rfl | rfl <;> rfl)) LB.out.2.2.1 LB.out.2.2.2 ?_; intro v9 W9 z9 r9 t9 k9; clear z9; obtain ⟨p9, c9, rfl⟩ := r9.sl; have T9 := Lib.hid (turn9 TT8.out (show Turn NoBlock W8 _ from (by (repeat (first | with_reducible exact Turn.refl _ _ | with_reducible refine Turn.drew ?_ | with_reducible refine Turn.alloc ?_ _)))) t9 FR8.out); have F9 := Lib.hid (fresh9 TT8.out (show Turn NoBlock W8 _ from (by (repeat (first | with_reducible exact Turn.refl _ _ | with_reducible refine Turn.drew ?_ | with_reducible refine Turn.alloc ?_ _)))) k9 FR8.out); have R9 := Lib.hid r9; have c9x := t9.cell (p := ⟨x, 2, none⟩) ((show Turn NoBlock W8 _ from (by (repeat (first | with_reducible exact Turn.refl _ _ | with_reducible refine Turn.drew ?_ | with_reducible refine Turn.alloc ?_ _)))).cell (TT8.out.cell v2 (fun h => h)) (fun h => h)) NB8.out; have f9x := (TY.out.kept T9.out (fun h => h)).free 2; have l9x := (TY.out.kept T9.out (fun h => h)).lt; clear r9 t9 k9)
          | (refine step_append_r rfl (.tmp 94) (.tmp 99) 30 30 rfl (R8.out.past (show Turn NoBlock W8 _ from (by (repeat (first | with_reducible exact Turn.refl _ _ | with_reducible refine Turn.drew ?_ | with_reducible refine Turn.alloc ?_ _))))) iW _ 16 rws2 HIW.out.1 HIW.out.2.1 HIW.out.2.2.1 HIW.out.2.2.2 (by rfl) (by rfl) (by rfl) (WRow.src (wrow_heap (cs := #[.int .i64 k, .int .i64 m.tx]) (T8.out.heap (heap_alloc_new _ _) (fun h => h)) rfl) 30 rws2 (fun u hu => by simp at hu; rcases hu with rfl | rfl <;> rfl)) LB.out.2.2.1 LB.out.2.2.2 ?_; intro v9 W9 z9 r9 t9 k9; clear z9; obtain ⟨p9, c9, rfl⟩ := r9.sl; have T9 := Lib.hid (turn9 TT8.out (show Turn NoBlock W8 _ from (by (repeat (first | with_reducible exact Turn.refl _ _ | with_reducible refine Turn.drew ?_ | with_reducible refine Turn.alloc ?_ _)))) t9 FR8.out); have F9 := Lib.hid (fresh9 TT8.out (show Turn NoBlock W8 _ from (by (repeat (first | with_reducible exact Turn.refl _ _ | with_reducible refine Turn.drew ?_ | with_reducible refine Turn.alloc ?_ _)))) k9 FR8.out); have R9 := Lib.hid r9; have c9x := t9.cell (p := ⟨x, 2, none⟩) ((show Turn NoBlock W8 _ from (by (repeat (first | with_reducible exact Turn.refl _ _ | with_reducible refine Turn.drew ?_ | with_reducible refine Turn.alloc ?_ _)))).cell (TT8.out.cell v2 (fun h => h)) (fun h => h)) NB8.out; have f9x := (TY.out.kept T9.out (fun h => h)).free 2; have l9x := (TY.out.kept T9.out (fun h => h)).lt; clear r9 t9 k9))
        all_goals
          go_wp2
          go_ret
          rw [HK.out.1, HK.out.2]
          have hm := rmk_v HC2.out.1 (e := 0) (by omega) T9.out (v := .slice p9 (nv + 1) c9) (l := (S2 0).ws ++ [⟨k, m.tx⟩])
            (by rw [List.length_append, HC2.out.2.2.2, wcells_app]; exact R9.out)
            (fun t ht => by rcases List.mem_append.1 ht with h5 | h5; exact HC2.out.1.nz 0 (by omega) t h5; simp at h5; subst h5; exact HWL.out.2.2)
            (fun j hj => .inr (F9.out j hj))
          exact ⟨rfl, (rmk_join HC2.out.2.1 HC2.out.2.2.1 hm).before TW.out⟩
      · have HK := Lib.hid (show ccK depth S 0 m k = S ∧ ccS depth S 0 m k = cwS depth S 0 m by rw [HF.out.2, if_neg hs0]; exact ⟨rfl, HF.out.1⟩)
        have HKS := Lib.hid (show cwK depth S 0 m = S by unfold cwK; rw [if_neg hs0])
        have CW2 := Lib.hid (CW.out _ TW.out)
        have hsb : (cwS depth S 0 m != 0) = true := by simpa using hs0
        rw [HKS.out] at CW2
        generalize cwS depth S 0 m = ws at *
        generalize cwN depth S 0 m = wn at *
        clear hs0
        go_wp2_with (go_at_call 39; (with_reducible refine CW2.out.mono ?_); rintro y w3 ⟨rfl, h3⟩; have H3 := Lib.hid h3; clear h3)
        go_ret
        rw [HK.out.1, HK.out.2]
        exact ⟨rfl, H3.out.before TW.out⟩
set_option maxRecDepth 20000 in
theorem rcall_no1 (h : RC w0 w x depth S U V Q) (k : Int) (m : Msg) (vd vh : Value) (hd : RzB w vd m.d) (hh : RzI w vh m.h) (st : Int) (hst : (st = -24 ∧ (S 1).op = false) ∨ (st = -10 ∧ (S 1).op = true ∧ (m.tx = 0 ∨ k < 0))) :
    Calls Try.prog 43 #[.pointer (some ⟨x, 0, none⟩), .int .i64 1, .int .i64 k, .agg #[.int .i64 m.tx, vd, vh]] w fun y w' => y = .returned (.int .i64 st) ∧ Turn NoBlock w w' := by
  obtain ⟨p1, c1, hv1⟩ := hd.sl
  obtain ⟨p2, c2, hv2⟩ := hh.sl
  subst hv1 hv2
  have CK := Lib.hid (fun W (t : Turn NoBlock w W) => rcheck1 (h.past t) (S 1).op rfl)
  generalize m.tx = tx at *
  clear h hd hh
  rcases hst with ⟨rfl, h2⟩ | ⟨rfl, h2, h3⟩
  · rw [h2] at CK
    go_enter Try.func43, Try.ntmps43
    go_wp2_with (go_at_call 53; (with_reducible refine (CK.out _ ((Turn.refl _ _).alloc _)).mono ?_); rintro y w' ⟨rfl, rfl⟩)
    go_ret
    exact ⟨rfl, (Turn.refl _ _).alloc _⟩
  · rw [h2] at CK
    have two : (tx == 0) = true ∨ ((tx == 0) = false ∧ k < 0) := by
      by_cases h0 : tx = 0
      · exact .inl (by simpa using h0)
      · exact .inr ⟨by simpa using h0, by omega⟩
    clear h2 h3
    rcases two with g1 | ⟨g1, g2⟩
    all_goals
      go_enter Try.func43, Try.ntmps43
      go_wp2_with (go_at_call 53; (with_reducible refine (CK.out _ ((Turn.refl _ _).alloc _)).mono ?_); rintro y w' ⟨rfl, rfl⟩)
      go_ret
      exact ⟨rfl, (Turn.refl _ _).alloc _⟩
set_option maxRecDepth 20000 in
set_option maxHeartbeats 4000000 in
theorem rcall_go1 (h : RC w0 w x depth S U V Q) (t0 : Turn NoBlock w0 w) (hwl : ∀ e, e < 2 → (S e).ws.length ≤ 1000000) (hql : (S 0).q.length ≤ 1000000) (ho : (S 1).op = true) (k : Int) (hk0 : ¬ k < 0) (m : Msg) (hm0 : m.tx ≠ 0) (vd vh : Value) (hd : RzB w0 vd m.d) (hh : RzI w0 vh m.h) :
    Calls Try.prog 43 #[.pointer (some ⟨x, 0, none⟩), .int .i64 1, .int .i64 k, .agg #[.int .i64 m.tx, vd, vh]] w fun y w' => y = .returned (.int .i64 (ccS depth S 1 m k)) ∧ RMk w0 w w' x depth U V (ccK depth S 1 m k) := by
  obtain ⟨iW, hiW, hzW, hsW, hbW⟩ := info_parts infoRW
  have HIW := Lib.hid (And.intro hiW (And.intro hzW (And.intro hsW hbW)))
  obtain ⟨p1, c1, hv1⟩ := hd.sl
  obtain ⟨p2, c2, hv2⟩ := hh.sl
  subst hv1 hv2
  have CK := Lib.hid (fun W (t : Turn NoBlock w W) => show Calls Try.prog 53 #[.pointer (some ⟨x, 0, none⟩), .int .i64 1] W fun y w' => y = .returned (.int .i64 0) ∧ W = w' from rcheck1 (h.past t) true ho)
  have CW := Lib.hid (fun W (t : Turn NoBlock w W) => rwriteT1 (h.past t) (TT t0 t) (hwl 0 (by omega)) hql m _ _ hd hh)
  have hbar : barB S 1 m k = true → ccS depth S 1 m k = -26 ∧ ccK depth S 1 m k = S := fun hb => by
    have hs : ccS depth S 1 m k = -26 := by unfold ccS; rw [if_neg (by rw [ho]; decide), if_neg (fun h => h.elim hm0 hk0), if_pos hb]
    exact ⟨hs, by unfold ccK; rw [hs, if_neg (by decide)]⟩
  have HBAR := Lib.hid (show (False ∨ ∃ (a i : Nat) (t : Wt), (S a).ws[i]? = some t ∧ a < 2 ∧ (t.who = k ∨ (a = 1 ∧ t.tx = m.tx))) → ccS depth S 1 m k = -26 ∧ ccK depth S 1 m k = S from fun hx => by
    apply hbar
    obtain ⟨a, i, t, ht, ha, hc⟩ := hx.elim (fun h => h.elim) (fun h => h)
    have hmem := List.mem_of_getElem? ht
    unfold barB
    rw [Bool.or_eq_true, List.any_eq_true, List.any_eq_true]
    have ha2 : a = 1 ∨ a = 0 := by omega
    rcases ha2 with rfl | rfl
    · exact .inl ⟨t, hmem, by rcases hc with hc | hc <;> simp [hc]⟩
    · exact .inr ⟨t, hmem, by rcases hc with hc | hc; (simp [hc]); omega⟩)
  obtain ⟨q0, d0, hv0⟩ := (h.rv 0 (by omega)).sl
  obtain ⟨q1, d1, hv1⟩ := (h.rv 1 (by omega)).sl
  obtain ⟨n0, hn0⟩ : ∃ n, (S 0).ws.length = n := ⟨_, rfl⟩
  obtain ⟨n1', hn1'⟩ : ∃ n, (S 1).ws.length = n := ⟨_, rfl⟩
  have r0 := h.rv 0 (by omega)
  have r1 := h.rv 1 (by omega)
  have v0 : w.cell? ⟨x, 2, none⟩ = some (V 0) := h.cv 0 (by omega)
  have v1 : w.cell? ⟨x, 3, none⟩ = some (V 1) := h.cv 1 (by omega)
  rw [hv0, hn0] at r0 v0
  rw [hv1, hn1'] at r1 v1
  have HR0 := Lib.hid (And.intro r0 hn0)
  have HR1 := Lib.hid (And.intro r1 hn1')
  have hl0 : (n0 : Int) ≤ 1000000 := by have := hwl 0 (by omega); omega
  have hl1 : (n1' : Int) ≤ 1000000 := by have := hwl 1 (by omega); omega
  have HCC := Lib.hid (show (∀ j, j < n0 → ∀ u, (S 0).ws[j]? = some u → u.who ≠ k) → (∀ j, j < n1' → ∀ u, (S 1).ws[j]? = some u → u.who ≠ k ∧ u.tx ≠ m.tx) → ccS depth S 1 m k = cwS depth S 1 m ∧ ccK depth S 1 m k = if cwS depth S 1 m = 0 then updN (cwK depth S 1 m) 1 ⟨(cwK depth S 1 m 1).op, (cwK depth S 1 m 1).q, (cwK depth S 1 m 1).ws ++ [⟨k, m.tx⟩]⟩ else S from fun h0 h1 => by
    have hnb : ¬ barB S 1 m k = true := fun hb => by
      unfold barB at hb
      rw [Bool.or_eq_true, List.any_eq_true, List.any_eq_true] at hb
      rcases hb with ⟨t, h2, h3⟩ | ⟨t, h2, h3⟩
      · obtain ⟨j, hj, he⟩ := List.getElem_of_mem h2
        have := h1 j (by omega) t (by rw [List.getElem?_eq_getElem hj, he])
        simp at h3
        exact h3.elim this.1 this.2
      · obtain ⟨j, hj, he⟩ := List.getElem_of_mem h2
        have hj : j < (S 0).ws.length := hj
        have := h0 j (by omega) t (by rw [List.getElem?_eq_getElem hj]; exact congrArg some he)
        simp at h3
        exact this h3
    have hs : ccS depth S 1 m k = cwS depth S 1 m := by unfold ccS; rw [if_neg (by rw [ho]; decide), if_neg (fun h => h.elim hm0 hk0), if_neg hnb]
    refine ⟨hs, ?_⟩
    unfold ccK
    rw [hs])
  have HH := Lib.hid h
  have HWL := Lib.hid (And.intro hwl (And.intro hql hm0))
  obtain ⟨n1, hm1⟩ : ∃ n, m.d.length = n := ⟨_, rfl⟩
  obtain ⟨n2, hm2⟩ : ∃ n, m.h.length = n := ⟨_, rfl⟩
  rw [hm1, hm2] at CW
  simp only [hm1, hm2]
  obtain ⟨B, hB⟩ : ∃ B, w.heap.size = B := ⟨_, rfl⟩
  have lx := h.typ.lt
  have t1 := (Turn.refl NoBlock w).alloc (.cells #[.int .i64 m.tx, .slice p1 n1 c1, .slice p2 n2 c2] 38)
  have bx := heap_alloc_new w (.cells #[.int .i64 m.tx, .slice p1 n1 c1, .slice p2 n2 c2] 38)
  rw [hB] at bx
  have HW := Lib.hid (show ∀ W, Turn NoBlock (w.alloc (.cells #[.int .i64 m.tx, .slice p1 n1 c1, .slice p2 n2 c2] 38)) W → W.cell? ⟨B, 0, none⟩ = some (.int .i64 m.tx) ∧ W.cell? ⟨B, 1, none⟩ = some (.slice p1 n1 c1) ∧ W.cell? ⟨B, 2, none⟩ = some (.slice p2 n2 c2) ∧ B < W.heap.size ∧ W.cell? ⟨x, 2, none⟩ = some (.slice q0 n0 d0) ∧ W.cell? ⟨x, 3, none⟩ = some (.slice q1 n1' d1) ∧ x < W.heap.size ∧ Turn NoBlock w W ∧ TBlk W x 34 from fun W t => by
    have b := box3 (t.heap bx (fun h => h))
    have tt := TT t1 t
    exact ⟨b.1, b.2.1, b.2.2, lt_of_block (t.heap bx (fun h => h)), tt.cell v0 (fun h => h), tt.cell v1 (fun h => h), Nat.lt_of_lt_of_le lx tt.size, tt, h.typ.kept tt (fun h => h)⟩)
  have HB := Lib.hid hB
  have hz : (m.tx == 0) = false := by simpa using hm0
  clear h t0 hd hh hwl hql ho hm0 hbar hv0 hv1 hn0 hn1' r0 r1 v0 v1 hm1 hm2 lx t1 bx hiW hzW hsW hbW
  go_enter Try.func43, Try.ntmps43
  go_wp2_with (go_at_call 53; (with_reducible refine (CK.out _ ((Turn.refl _ _).alloc _)).mono ?_); rintro y w' ⟨rfl, rfl⟩)
  generalize w.alloc (.cells #[.int .i64 m.tx, .slice p1 n1 c1, .slice p2 n2 c2] 38) = W1 at *
  go_loopg [10] 2 (fun g s10 wr => ((s10 = .int .i64 0 ∧ g = 2) ∨ (s10 = .int .i64 1 ∧ g = 1 ∧ Hid (∀ j, j < n0 → ∀ u, (S 0).ws[j]? = some u → u.who ≠ k)) ∨ (s10 = .int .i64 2 ∧ g = 0 ∧ Hid ((∀ j, j < n0 → ∀ u, (S 0).ws[j]? = some u → u.who ≠ k) ∧ (∀ j, j < n1' → ∀ u, (S 1).ws[j]? = some u → u.who ≠ k ∧ u.tx ≠ m.tx)))) ∧ Hid (Turn NoBlock W1 wr))
  case atStart => exact ⟨.inl ⟨rfl, rfl⟩, Lib.hid (Turn.refl _ _)⟩
  case round =>
    obtain ⟨three, HT⟩ := hrel
    rcases three with ⟨rfl, hg⟩ | ⟨rfl, hg, H0⟩ | ⟨rfl, hg, H01⟩
    · obtain ⟨b0, b1, b2, bl, e2, e3, lx, -, -⟩ := HW.out _ HT.out
      go_wp2
      go_loopg [11] n0 (fun z s11 wr2 => ∃ i : Nat, i ≤ n0 ∧ z = n0 - i ∧ s11 = .int .i64 (i : Int) ∧ Hid (Turn NoBlock W1 wr2) ∧ Hid (∀ j, j < i → ∀ u, (S 0).ws[j]? = some u → u.who ≠ k))
      case atStart => exact ⟨0, by omega, by omega, rfl, Lib.hid HT.out, Lib.hid (fun j hj => by omega)⟩
      case round =>
        obtain ⟨i, hi, hz2, rfl, HT2, HI⟩ := hrel
        obtain ⟨b0, b1, b2, bl, e2, e3, lx, tw, ty⟩ := HW.out _ HT2.out
        by_cases hlt : i < n0
        · have hlti : (i : Int) < (n0 : Int) := by omega
          obtain ⟨t, ht⟩ : ∃ t, (S 0).ws[i]? = some t := ⟨_, List.getElem?_eq_getElem (by rw [HR0.out.2]; exact hlt)⟩
          obtain ⟨g, o, rfl, k0, k1⟩ := wt_cells (HR0.out.1.past tw) HR0.out.2 ht
          clear tw ty
          by_cases hk : t.who = k
          · have hb : (t.who == k) = true := by simpa using hk
            have HF := Lib.hid (HBAR.out (.inr ⟨0, i, t, ht, by omega, .inl hk⟩))
            clear ht hk
            go_wp2
            go_quiet (fail)
            go_wp2
            go_ret
            rw [HF.out.1, HF.out.2]
            exact ⟨rfl, RMk.refl HH.out (TT (HW.out _ HT2.out).2.2.2.2.2.2.2.1 ((Turn.refl _ _).drewN _))⟩
          · have hb : (t.who == k) = false := by simpa using hk
            have HX := Lib.hid (show ∀ j, j < i + 1 → ∀ u, (S 0).ws[j]? = some u → u.who ≠ k from fun j hj u hu => by
              by_cases hji : j = i
              · subst hji; rw [ht] at hu; cases hu; exact hk
              · exact HI.out j (by omega) u hu)
            clear ht hk
            go_wp2
            go_quiet (fail)
            go_wp2
            go_roundg (n0 - (i + 1))
            case measure => omega
            case rel => exact ⟨i + 1, by omega, rfl, by go_num, Lib.hid (TT HT2.out ((Turn.refl _ _).drewN _)), HX⟩
        · have hlti : ¬ (i : Int) < (n0 : Int) := by omega
          obtain rfl : i = n0 := by omega
          clear tw ty
          go_wp2
          go_roundg 1
          case measure => omega
          case rel => exact ⟨.inr (.inl ⟨by go_num, rfl, Lib.hid HI.out⟩), Lib.hid HT2.out⟩
    · obtain ⟨b0, b1, b2, bl, e2, e3, lx, -, -⟩ := HW.out _ HT.out
      go_wp2
      go_loopg [11] n1' (fun z s11 wr2 => ∃ i : Nat, i ≤ n1' ∧ z = n1' - i ∧ s11 = .int .i64 (i : Int) ∧ Hid (Turn NoBlock W1 wr2) ∧ Hid (∀ j, j < i → ∀ u, (S 1).ws[j]? = some u → u.who ≠ k ∧ u.tx ≠ m.tx))
      case atStart => exact ⟨0, by omega, by omega, rfl, Lib.hid HT.out, Lib.hid (fun j hj => by omega)⟩
      case round =>
        obtain ⟨i, hi, hz2, rfl, HT2, HI⟩ := hrel
        obtain ⟨b0, b1, b2, bl, e2, e3, lx, tw, ty⟩ := HW.out _ HT2.out
        by_cases hlt : i < n1'
        · have hlti : (i : Int) < (n1' : Int) := by omega
          obtain ⟨t, ht⟩ : ∃ t, (S 1).ws[i]? = some t := ⟨_, List.getElem?_eq_getElem (by rw [HR1.out.2]; exact hlt)⟩
          obtain ⟨g, o, rfl, k0, k1⟩ := wt_cells (HR1.out.1.past tw) HR1.out.2 ht
          clear tw ty
          by_cases hk : t.who = k
          · have hb : (t.who == k) = true := by simpa using hk
            have HF := Lib.hid (HBAR.out (.inr ⟨1, i, t, ht, by omega, .inl hk⟩))
            clear ht hk
            go_wp2
            go_quiet (fail)
            go_wp2
            go_ret
            rw [HF.out.1, HF.out.2]
            exact ⟨rfl, RMk.refl HH.out (TT (HW.out _ HT2.out).2.2.2.2.2.2.2.1 ((Turn.refl _ _).drewN _))⟩
          · have hb : (t.who == k) = false := by simpa using hk
            by_cases hx2 : t.tx = m.tx
            · have hb2 : (t.tx == m.tx) = true := by simpa using hx2
              have HF := Lib.hid (HBAR.out (.inr ⟨1, i, t, ht, by omega, .inr ⟨rfl, hx2⟩⟩))
              clear ht hk hx2
              go_wp2
              go_quiet (fail)
              go_wp2
              go_ret
              rw [HF.out.1, HF.out.2]
              exact ⟨rfl, RMk.refl HH.out (TT (HW.out _ HT2.out).2.2.2.2.2.2.2.1 ((Turn.refl _ _).drewN _))⟩
            · have hb2 : (t.tx == m.tx) = false := by simpa using hx2
              have HX := Lib.hid (show ∀ j, j < i + 1 → ∀ u, (S 1).ws[j]? = some u → u.who ≠ k ∧ u.tx ≠ m.tx from fun j hj u hu => by
                by_cases hji : j = i
                · subst hji; rw [ht] at hu; cases hu; exact ⟨hk, hx2⟩
                · exact HI.out j (by omega) u hu)
              clear ht hk hx2
              go_wp2
              go_quiet (fail)
              go_wp2
              go_roundg (n1' - (i + 1))
              case measure => omega
              case rel => exact ⟨i + 1, by omega, rfl, by go_num, Lib.hid (TT HT2.out ((Turn.refl _ _).drewN _)), HX⟩
        · have hlti : ¬ (i : Int) < (n1' : Int) := by omega
          obtain rfl : i = n1' := by omega
          clear tw ty
          go_wp2
          go_roundg 0
          case measure => omega
          case rel => exact ⟨.inr (.inr ⟨by go_num, rfl, Lib.hid ⟨H0.out, HI.out⟩⟩), Lib.hid HT2.out⟩
    · obtain ⟨b0, b1, b2, bl, e2, e3, lx, tw, ty⟩ := HW.out _ HT.out
      have HF := Lib.hid (HCC.out H01.out.1 H01.out.2)
      have TW := Lib.hid tw
      clear tw ty e2 e3 lx
      by_cases hs0 : cwS depth S 1 m = 0
      · have HK := Lib.hid (show ccK depth S 1 m k = updN (cwK depth S 1 m) 1 ⟨(cwK depth S 1 m 1).op, (cwK depth S 1 m 1).q, (cwK depth S 1 m 1).ws ++ [⟨k, m.tx⟩]⟩ ∧ ccS depth S 1 m k = 0 by rw [HF.out.1, HF.out.2, if_pos hs0]; exact ⟨rfl, hs0⟩)
        have HL2 := Lib.hid (show (cwK depth S 1 m 1).ws.length ≤ 1000000 by
          have h5 := HWL.out.1 1 (by omega)
          unfold cwK
          rw [if_pos hs0]
          split
          all_goals (rw [updN_other _ _ (by decide)]; exact h5))
        have CW2 := Lib.hid (CW.out _ TW.out)
        rw [hs0] at CW2
        generalize cwK depth S 1 m = S2 at *
        generalize cwN depth S 1 m = wn at *
        clear hs0
        go_upto_region 18 with (go_at_call 39; (with_reducible refine CW2.out.mono ?_); rintro y w3 ⟨rfl, h3⟩; have H3 := Lib.hid h3; clear h3)
        obtain ⟨U2, V2, Q2, hc2, tx2, ft2⟩ := H3.out
        have hBx : B ≠ x := by have := HH.out.typ.lt; have := HB.out; omega
        have b0 := tx2.cell b0 hBx
        have bl := Nat.lt_of_lt_of_le bl tx2.size
        have rv := hc2.rv 1 (by omega)
        obtain ⟨pv, cv, hvv⟩ := rv.sl
        obtain ⟨nv, hnv⟩ : ∃ n, (S2 1).ws.length = n := ⟨_, rfl⟩
        have v2 : w3.cell? ⟨x, 3, none⟩ = some (V2 1) := hc2.cv 1 (by omega)
        rw [hvv, hnv] at rv v2
        have RV := Lib.hid rv
        have TY := Lib.hid hc2.typ
        have HC2 := Lib.hid (And.intro hc2 (And.intro tx2 (And.intro ft2 hnv)))
        have hnl : nv ≤ 1000000 := by rw [← hnv]; exact HL2.out
        have LB := Lib.hid (show 0 + nv ≤ maxLen ∧ (0 + nv) * 16 ≤ 140737488355328 ∧ nv + 1 ≤ maxLen ∧ (nv + 1) * 16 ≤ 140737488355328 by unfold maxLen; omega)
        have WONE := Lib.hid (wcells_one (S2 1).ws)
        have lx := hc2.typ.lt
        have fx := hc2.typ.free 3
        have nvl : (nv : Int) ≤ 1000000 := by omega
        clear rv hvv hnv hc2 tx2 ft2 hBx
        go_region_law (first
          | (refine step_append_r rfl (.tmp 87) (.tmp 93) 30 30 rfl (wrow_nil _ 131 2) iW _ 16 rws2 HIW.out.1 HIW.out.2.1 HIW.out.2.2.1 HIW.out.2.2.2 (by rfl) (by rfl) (by rfl) (WRow.src (RV.out.past (show Turn NoBlock w3 _ from (by (repeat (first | with_reducible exact Turn.refl _ _ | with_reducible refine Turn.drew ?_ | with_reducible refine Turn.alloc ?_ _))))) 30 rws2 WONE.out) LB.out.1 LB.out.2.1 ?_; intro v8 W8 z8 r8 t8 k8; clear z8; rw [Nat.zero_add, List.nil_append] at r8; obtain ⟨p8, c8, rfl⟩ := r8.sl; have T8 := Lib.hid (nil_turn t8); have R8 := Lib.hid r8; have TT8 := Lib.hid (TT (show Turn NoBlock w3 _ from (by (repeat (first | with_reducible exact Turn.refl _ _ | with_reducible refine Turn.drew ?_ | with_reducible refine Turn.alloc ?_ _)))) T8.out); have b0 := TT8.out.cell b0 (fun h => h); have bl := Nat.lt_of_lt_of_le bl TT8.out.size; have FR8 := Lib.hid (fresh8 (show Turn NoBlock w3 _ from (by (repeat (first | with_reducible exact Turn.refl _ _ | with_reducible refine Turn.drew ?_ | with_reducible refine Turn.alloc ?_ _)))) k8); have NB8 := Lib.hid (show ¬ Blk (.slice p8 nv c8) x from fun hk => by have := FR8.out x hk; have := TY.out.lt; omega); clear r8 t8 k8)
          | (refine step_append_r rfl (.tmp 94) (.tmp 99) 30 30 rfl (R8.out.past (show Turn NoBlock W8 _ from (by (repeat (first | with_reducible exact Turn.refl _ _ | with_reducible refine Turn.drew ?_ | with_reducible refine Turn.alloc ?_ _))))) iW _ 16 rws2 HIW.out.1 HIW.out.2.1 HIW.out.2.2.1 HIW.out.2.2.2 (by rfl) (by rfl) (by rfl) (WRow.src (wrow_heap (cs := #[.int .i64 k, .int .i64 m.tx]) (heap_alloc_new W8 _) rfl) 30 rws2 (fun u hu => by simp at hu; rcases hu with rfl | rfl <;> rfl)) LB.out.2.2.1 LB.out.2.2.2 ?_; intro v9 W9 z9 r9 t9 k9; clear z9; obtain ⟨p9, c9, rfl⟩ := r9.sl; have T9 := Lib.hid (turn9 TT8.out (show Turn NoBlock W8 _ from (by (repeat (first | with_reducible exact Turn.refl _ _ | with_reducible refine Turn.drew ?_ | with_reducible refine Turn.alloc ?_ _)))) t9 FR8.out); have F9 := Lib.hid (fresh9 TT8.out (show Turn NoBlock W8 _ from (by (repeat (first | with_reducible exact Turn.refl _ _ | with_reducible refine Turn.drew ?_ | with_reducible refine Turn.alloc ?_ _)))) k9 FR8.out); have R9 := Lib.hid r9; have c9x := t9.cell (p := ⟨x, 3, none⟩) ((show Turn NoBlock W8 _ from (by (repeat (first | with_reducible exact Turn.refl _ _ | with_reducible refine Turn.drew ?_ | with_reducible refine Turn.alloc ?_ _)))).cell (TT8.out.cell v2 (fun h => h)) (fun h => h)) NB8.out; have f9x := (TY.out.kept T9.out (fun h => h)).free 3; have l9x := (TY.out.kept T9.out (fun h => h)).lt; clear r9 t9 k9)
          | (refine step_append_r rfl (.tmp 94) (.tmp 99) 30 30 rfl (R8.out.past (show Turn NoBlock W8 _ from (by (repeat (first | with_reducible exact Turn.refl _ _ | with_reducible refine Turn.drew ?_ | with_reducible refine Turn.alloc ?_ _))))) iW _ 16 rws2 HIW.out.1 HIW.out.2.1 HIW.out.2.2.1 HIW.out.2.2.2 (by rfl) (by rfl) (by rfl) (WRow.src (wrow_heap (cs := #[.int .i64 k, .int .i64 m.tx]) (T8.out.heap (heap_alloc_new _ _) (fun h => h)) rfl) 30 rws2 (fun u hu => by simp at hu; rcases hu with rfl | rfl <;> rfl)) LB.out.2.2.1 LB.out.2.2.2 ?_; intro v9 W9 z9 r9 t9 k9; clear z9; obtain ⟨p9, c9, rfl⟩ := r9.sl; have T9 := Lib.hid (turn9 TT8.out (show Turn NoBlock W8 _ from (by (repeat (first | with_reducible exact Turn.refl _ _ | with_reducible refine Turn.drew ?_ | with_reducible refine Turn.alloc ?_ _)))) t9 FR8.out); have F9 := Lib.hid (fresh9 TT8.out (show Turn NoBlock W8 _ from (by (repeat (first | with_reducible exact Turn.refl _ _ | with_reducible refine Turn.drew ?_ | with_reducible refine Turn.alloc ?_ _)))) k9 FR8.out); have R9 := Lib.hid r9; have c9x := t9.cell (p := ⟨x, 3, none⟩) ((show Turn NoBlock W8 _ from (by (repeat (first | with_reducible exact Turn.refl _ _ | with_reducible refine Turn.drew ?_ | with_reducible refine Turn.alloc ?_ _)))).cell (TT8.out.cell v2 (fun h => h)) (fun h => h)) NB8.out; have f9x := (TY.out.kept T9.out (fun h => h)).free 3; have l9x := (TY.out.kept T9.out (fun h => h)).lt; clear r9 t9 k9))
        all_goals
          go_wp2
          go_ret
          rw [HK.out.1, HK.out.2]
          have hm := rmk_v HC2.out.1 (e := 1) (by omega) T9.out (v := .slice p9 (nv + 1) c9) (l := (S2 1).ws ++ [⟨k, m.tx⟩])
            (by rw [List.length_append, HC2.out.2.2.2, wcells_app]; exact R9.out)
            (fun t ht => by rcases List.mem_append.1 ht with h5 | h5; exact HC2.out.1.nz 1 (by omega) t h5; simp at h5; subst h5; exact HWL.out.2.2)
            (fun j hj => .inr (F9.out j hj))
          exact ⟨rfl, (rmk_join HC2.out.2.1 HC2.out.2.2.1 hm).before TW.out⟩
      · have HK := Lib.hid (show ccK depth S 1 m k = S ∧ ccS depth S 1 m k = cwS depth S 1 m by rw [HF.out.2, if_neg hs0]; exact ⟨rfl, HF.out.1⟩)
        have HKS := Lib.hid (show cwK depth S 1 m = S by unfold cwK; rw [if_neg hs0])
        have CW2 := Lib.hid (CW.out _ TW.out)
        have hsb : (cwS depth S 1 m != 0) = true := by simpa using hs0
        rw [HKS.out] at CW2
        generalize cwS depth S 1 m = ws at *
        generalize cwN depth S 1 m = wn at *
        clear hs0
        go_wp2_with (go_at_call 39; (with_reducible refine CW2.out.mono ?_); rintro y w3 ⟨rfl, h3⟩; have H3 := Lib.hid h3; clear h3)
        go_ret
        rw [HK.out.1, HK.out.2]
        exact ⟨rfl, H3.out.before TW.out⟩
end
end Go.Proofs.Ytcbphfpfdfgehaa
