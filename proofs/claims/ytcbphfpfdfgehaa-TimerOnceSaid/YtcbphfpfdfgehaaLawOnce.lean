/-
  TimerOnce's walk. No conditions but that the numbers can be read.
-/
import Derived.Test.YtcbphfpfdfgehaaLawOnceM
import Derived.Deep.LoopGhost
namespace Go.Proofs.Ytcbphfpfdfgehaa
open Go.ChangeShapes Go.WideShapes Go.ChangeAt Go.RowKit

section
variable {w0 w : World} {c gw n m : Nat} {now d : Int} {L : List En} {want : List Int}
theorem once_set1 (h : OS w0 w c 0 L gw n want NoBlock) (hf : hasK L (m : Int) = false) (hm : m ≤ 100) (hd : fit d) (h1 : d ≤ 0) :
    Calls Try.prog 23 #[.pointer (some ⟨c, 0, none⟩), .int .i64 (m : Int), .int .i64 d] w fun x w' => x = .returned (.tuple #[.bool true, .int .i64 0]) ∧ OS w0 w' c 0 L gw n want NoBlock := by
  refine (h.set (m : Int) d (by unfold fit; omega) hd).mono ?_
  rintro x w' ⟨rfl, ht⟩
  unfold setB setS setL at *
  rw [if_pos h1] at ht ⊢
  rw [decide_eq_true h1]
  rw [dropK_no hf] at ht
  exact ⟨rfl, ht⟩
theorem once_set2 (h : OS w0 w c 0 L gw n want NoBlock) (hm : m ≤ 100) (hd : fit d) (h1 : 1099511627776 < d) :
    Calls Try.prog 23 #[.pointer (some ⟨c, 0, none⟩), .int .i64 (m : Int), .int .i64 d] w fun x w' => x = .returned (.tuple #[.bool false, .int .i64 (-10)]) ∧ OS w0 w' c 0 L gw n want NoBlock := by
  refine (h.set (m : Int) d (by unfold fit; omega) hd).mono ?_
  rintro x w' ⟨rfl, ht⟩
  unfold setB setS setL at *
  have h0 : ¬ d ≤ 0 := by omega
  rw [if_neg h0, if_pos h1] at ht ⊢
  rw [decide_eq_false h0]
  exact ⟨rfl, ht⟩
theorem once_set3 (h : OS w0 w c 0 L gw n want NoBlock) (hf : hasK L (m : Int) = false) (hl : L.length ≤ 100) (hm : m ≤ 100) (hd : fit d) (h0 : ¬ d ≤ 0) (h1 : ¬ 1099511627776 < d) :
    Calls Try.prog 23 #[.pointer (some ⟨c, 0, none⟩), .int .i64 (m : Int), .int .i64 d] w fun x w' => x = .returned (.tuple #[.bool false, .int .i64 0]) ∧ OS w0 w' c 0 (insE ⟨(m : Int), d⟩ L) gw n want NoBlock := by
  refine (h.set (m : Int) d (by unfold fit; omega) hd).mono ?_
  rintro x w' ⟨rfl, ht⟩
  unfold setB setS setL at *
  have h2 : ¬ (hasK L (m : Int) = false ∧ (200 : Int) ≤ (L.length : Int)) := fun e => by omega
  rw [if_neg h0, if_neg h1, if_neg h2] at ht ⊢
  rw [decide_eq_false h0]
  rw [dropK_no hf] at ht
  exact ⟨rfl, ht⟩
theorem once_adv_no (h : OS w0 w c now L gw n want NoBlock) (b : Int) (hb : b < 0 ∨ 1099511627776 - now < b) :
    Calls Try.prog 28 #[.pointer (some ⟨c, 0, none⟩), .int .i64 b] w fun x w' => x = .returned (.tuple #[.slice none 0 0, .int .i64 (-10)]) ∧ w = w' := h.st.advance_no b hb
end
theorem Right.dropn {L : List En} (h : Right L) (t : Nat) : Right (L.drop t) :=
  ⟨List.Pairwise.sublist (List.drop_sublist _ _) h.rise, List.Nodup.sublist (List.Sublist.map _ (List.drop_sublist _ _)) h.keys, fun e he => h.fits e (List.mem_of_mem_drop he)⟩
theorem quiet_flip {P : Program} {f : FuncId} {args : Array Value} {w : World} {n : Nat} {v : Value}
    (h : Calls P f args (w.drewN n) fun e w' => e = .returned v ∧ w.drewN n = w') : Calls P f args (w.drewN n) fun e w'' => e = .returned v ∧ ∃ m, w'' = w.drewN m :=
  h.mono fun _ _ ⟨he, hm⟩ => ⟨he, n, hm.symm⟩
theorem countP_next {l : List Int} {i : Nat} {x : Int} (h : l[i]? = some x) : (l.take (i + 1)).countP nn = (l.take i).countP nn + if 0 ≤ x then 1 else 0 := by
  rw [List.take_add_one, h, List.countP_append]
  show _ + [x].countP nn = _
  rw [List.countP_singleton]
  unfold nn
  by_cases hx : 0 ≤ x <;> simp [hx]
theorem nums_cell {w : World} {p : Option Addr} {n c : Nat} {xs : List Int} (h : Nums (.slice p n c) xs w) {i : Nat} {x : Int} (hx : xs[i]? = some x) : ∃ g o, p = some ⟨g, o, none⟩ ∧ w.cell? ⟨g, o + i, none⟩ = some (.int .i64 x) := by
  have hi := (List.getElem?_eq_some_iff.1 hx).1
  obtain ⟨g', o', c', he, -, -, -, hc, -⟩ := WRow.shape h (by omega)
  simp only [Value.slice.injEq] at he
  obtain ⟨rfl, -, -⟩ := he
  refine ⟨g', o', rfl, ?_⟩
  rw [hc i (by omega)]
  unfold icells
  rw [List.getElem?_map, hx]
  rfl
set_option maxRecDepth 20000 in
set_option maxHeartbeats 4000000 in
theorem once_walk (p q : Option Addr) (len cap len2 cap2 : Nat) (zs ys : List Int) (w : World) (hz : ZsAt w p len zs) (hy : ZsAt w q len2 ys) :
    Calls Try.prog 5 #[.slice p len cap, .slice q len2 cap2] w fun e w' => e = .returned (.bool true) ∧ Turn NoBlock w w' := by
  have cA := Lib.hid awake14
  have cN := Lib.hid (new_yes 200 w (by omega) (by omega))
  have HZ := Lib.hid hz
  have HY := Lib.hid hy
  clear hz hy
  by_cases hlen : 60 < len
  · have hd : decide ((len : Int) > 60) = true := by simp; omega
    go_enter Try.func5, Try.ntmps5
    go_wp2_with (first
      | (go_at_call 21; (with_reducible refine cN.out.mono ?_); rintro x w1 ⟨c, rfl, k1, -, -⟩; have K1 := Lib.hid k1; clear k1)
      | (go_at_call 22; (with_reducible refine (cA.out _).mono ?_); rintro x w9 ⟨rfl, t9⟩))
    go_ret
    exact ⟨rfl, TT K1.out.turn t9⟩
  by_cases hlen2 : 60 < len2
  · have hd : decide ((len : Int) > 60) = false := by simp; omega
    have hd2 : decide ((len2 : Int) > 60) = true := by simp; omega
    go_enter Try.func5, Try.ntmps5
    go_wp2_with (first
      | (go_at_call 21; (with_reducible refine cN.out.mono ?_); rintro x w1 ⟨c, rfl, k1, -, -⟩; have K1 := Lib.hid k1; clear k1)
      | (go_at_call 22; (with_reducible refine (cA.out _).mono ?_); rintro x w9 ⟨rfl, t9⟩))
    go_ret
    exact ⟨rfl, TT K1.out.turn t9⟩
  have hl : len ≤ 60 := by omega
  have hl2 : len2 ≤ 60 := by omega
  have hd : decide ((len : Int) > 60) = false := by simp; omega
  have hd2 : decide ((len2 : Int) > 60) = false := by simp; omega
  clear hlen hlen2
  have MI := Lib.hid (fun W => make_ints W len (by omega))
  go_enter Try.func5, Try.ntmps5
  go_wp2_with (first
    | (go_at_call 21; (with_reducible refine cN.out.mono ?_); rintro x w1 ⟨c, rfl, k1, -, -⟩; obtain ⟨W1, hm1, hr1, ht1, hs1⟩ := MI.out w1; have K1 := Lib.hid (once_new k1 ht1 hr1 hs1); clear k1 hr1 ht1 hs1))
  obtain ⟨gw, hgw⟩ : ∃ gw, w1.heap.size = gw := ⟨_, rfl⟩
  rw [hgw] at K1
  try rw [hgw]
  clear hgw hm1
  go_loopg [45] len (fun z s45 wr => ∃ (j : Nat) (L : List En) (want : List Int), z = len - j ∧ j ≤ len ∧ s45 = .int .i64 (j : Int) ∧ Hid (OS w wr c 0 L gw len want NoBlock ∧ WR L want j ∧ L.length ≤ j))
  case atStart => exact ⟨0, [], List.replicate len 0, rfl, Nat.zero_le _, rfl, Lib.hid ⟨K1.out, WR.zero _, Nat.le_refl _⟩⟩
  case round =>
    obtain ⟨j, L, want, hz, hj, rfl, HR⟩ := hrel
    by_cases hlt : j < len
    · obtain ⟨d, hd3⟩ : ∃ d, zs[j]? = some d := ⟨_, List.getElem?_eq_getElem (by rw [HZ.out.1]; exact hlt)⟩
      obtain ⟨g, o, rfl, hcell⟩ := HZ.out.2.2 (by omega)
      have q0 := HR.out.1.st.turn.cell (hcell j d hd3) (fun h => h)
      have HD := Lib.hid (HZ.out.2.1 d (List.mem_of_getElem? hd3))
      have hjl : (j : Int) < (len : Int) := by omega
      have hwl := HR.out.1.len
      obtain ⟨x, hx⟩ : ∃ x, want[j]? = some x := ⟨_, List.getElem?_eq_getElem (by omega)⟩
      have HXX := Lib.hid hx
      have HF := Lib.hid HR.out.2.1.fresh
      have HWL := Lib.hid hwl
      clear hd3 hcell hx hwl
      by_cases h1 : d ≤ 0
      · have H1 := Lib.hid h1
        go_wp2_with (first
          | (go_at_call 23; (with_reducible refine (once_set1 HR.out.1 HF.out (by omega) HD.out H1.out).mono ?_); rintro x w2 ⟨rfl, k2⟩; have s2 := k2.cell HXX.out; have f2 := k2.free j; have K2 := Lib.hid k2; clear k2))
        go_roundg (len - (j + 1))
        case measure => omega
        case rel => exact ⟨j + 1, L, want.set j (-1), rfl, by omega, by go_num, Lib.hid ⟨K2.out.store hlt (-1), HR.out.2.1.skip (by rw [HWL.out]; exact hlt), by have := HR.out.2.2; omega⟩⟩
      · by_cases h2 : 1099511627776 < d
        · have H2 := Lib.hid h2
          go_wp2_with (first
            | (go_at_call 23; (with_reducible refine (once_set2 HR.out.1 (by omega) HD.out H2.out).mono ?_); rintro x w2 ⟨rfl, k2⟩; have s2 := k2.cell HXX.out; have f2 := k2.free j; have K2 := Lib.hid k2; clear k2))
          go_roundg (len - (j + 1))
          case measure => omega
          case rel => exact ⟨j + 1, L, want.set j (-1), rfl, by omega, by go_num, Lib.hid ⟨K2.out.store hlt (-1), HR.out.2.1.skip (by rw [HWL.out]; exact hlt), by have := HR.out.2.2; omega⟩⟩
        · have H3 := Lib.hid (And.intro h1 h2)
          go_wp2_with (first
            | (go_at_call 23; (with_reducible refine (once_set3 HR.out.1 HF.out (by have := HR.out.2.2; omega) (by omega) HD.out H3.out.1 H3.out.2).mono ?_); rintro x w2 ⟨rfl, k2⟩; have s2 := k2.cell HXX.out; have f2 := k2.free j; have K2 := Lib.hid k2; clear k2))
          go_roundg (len - (j + 1))
          case measure => omega
          case rel => exact ⟨j + 1, insE ⟨(j : Int), d⟩ L, want.set j d, rfl, by omega, by go_num, Lib.hid ⟨by
            have := (K2.out.store hlt (-1)).store hlt d
            rw [List.set_set] at this
            exact this, HR.out.2.1.add (by rw [HWL.out]; exact hlt) (by omega), by rw [(insE_perm _ _).length_eq, List.length_cons]; have := HR.out.2.2; omega⟩⟩
    · have e : len = j := by omega
      subst e
      have h0 := HR.out
      have HS := Lib.hid (show OS w wr c 0 L gw len want NoBlock ∧ WR L want len ∧ (0 : Int) ≤ 0 ∧ (0 : Int) ≤ 1099511627776 ∧ ∀ e ∈ L, 0 < e.d from ⟨h0.1, h0.2.1, by omega, by omega, fun e he => by
        obtain ⟨i, -, -, -, h4⟩ := h0.2.1.inL e he
        omega⟩)
      clear h0 HR hlt hz hj
      go_wp2
      go_loopg [77] len2 (fun z s77 wr => ∃ (j : Nat) (L : List En) (want : List Int) (now : Int), z = len2 - j ∧ j ≤ len2 ∧ s77 = .int .i64 (j : Int) ∧ Hid (OS w wr c now L gw len want NoBlock ∧ WR L want len ∧ 0 ≤ now ∧ now ≤ 1099511627776 ∧ ∀ e ∈ L, now < e.d))
      case atStart => exact ⟨0, L, want, 0, rfl, Nat.zero_le _, rfl, HS⟩
      case round =>
        obtain ⟨j, L, want, now, hz, hj, rfl, HR⟩ := hrel
        by_cases hlt : j < len2
        · obtain ⟨b, hb3⟩ : ∃ b, ys[j]? = some b := ⟨_, List.getElem?_eq_getElem (by rw [HY.out.1]; exact hlt)⟩
          obtain ⟨g, o, rfl, hcell⟩ := HY.out.2.2 (by omega)
          have q0 := HR.out.1.st.turn.cell (hcell j b hb3) (fun h => h)
          have hjl : (j : Int) < (len2 : Int) := by omega
          clear hb3 hcell
          by_cases hbad : b < 0 ∨ 1099511627776 - now < b
          · have CB := Lib.hid (once_adv_no HR.out.1 b hbad)
            clear hbad
            go_wp2_with (first
              | (go_at_call 35; (with_reducible refine (HR.out.1.st.now').mono ?_); rintro x w2 ⟨rfl, rfl⟩)
              | (go_at_call 28; (with_reducible refine CB.out.mono ?_); rintro x w3 ⟨rfl, rfl⟩))
            go_roundg (len2 - (j + 1))
            case measure => omega
            case rel => exact ⟨j + 1, L, want, now, rfl, by omega, by go_num, HR⟩
          · obtain ⟨now', hn⟩ : ∃ n', now + b = n' := ⟨_, rfl⟩
            have CB := Lib.hid (HR.out.1.adv b now' (by omega) hn (by omega))
            have HN := Lib.hid (show now ≤ now' ∧ now' ≤ 1099511627776 by omega)
            clear hbad hn
            go_wp2_with (first
              | (go_at_call 35; (with_reducible refine (HR.out.1.st.now').mono ?_); rintro x w2 ⟨rfl, rfl⟩)
              | (go_at_call 28; (with_reducible refine CB.out.mono ?_); rintro x w3 ⟨v, rfl, hv, k3, kb⟩; obtain ⟨pv, cv, rfl⟩ := WRow.sl hv; have KB := Lib.hid kb; clear kb; have K3 := Lib.hid k3; have HV := Lib.hid hv; clear k3 hv))
            obtain ⟨G, hG⟩ : ∃ G, gone L now' = G := ⟨_, rfl⟩
            obtain ⟨D, hD⟩ : ∃ D, rest L now' = D := ⟨_, rfl⟩
            obtain ⟨m, hm⟩ : ∃ m, (keysOf G).length = m := ⟨_, rfl⟩
            have hml : G.length = m := by rw [← hm]; unfold keysOf; rw [List.length_map]
            have HL := Lib.hid (show G ++ D = L ∧ (∀ e ∈ G, e.d ≤ now') ∧ (∀ e ∈ D, now' < e.d) ∧ Right L ∧ G.length = m from ⟨by rw [← hG, ← hD]; exact gone_rest L now', by rw [← hG]; exact gone_due, by rw [← hD]; exact rest_above HR.out.1.st.right now', HR.out.1.st.right, hml⟩)
            rw [hG] at HV
            rw [hD] at K3
            rw [hG, hm] at K3
            have HV' := Lib.hid (show Nums (.slice pv m cv) (keysOf G) w3 from by have := HV.out; rw [hm] at this; exact this)
            rw [hG, hm]
            have hmb : m ≤ 1000 := by
              have h1 := HR.out.2.1.cnt
              have h2 : ((want.take len).countP nn) ≤ (want.take len).length := List.countP_le_length
              have h3 : (want.take len).length ≤ len := List.length_take_le _ _
              have h4 := congrArg List.length HL.out.1
              rw [List.length_append] at h4
              omega
            clear HV hG hD hm hml q0
            go_loopg [16, 102] m (fun z s16 s102 wr => ∃ (t : Nat) (want' : List Int) (last : Int), z = m - t ∧ t ≤ m ∧ s16 = .int .i64 last ∧ s102 = .int .i64 (t : Int) ∧ Hid (OS w wr c now' D gw len want' (Blk (.slice pv m cv)) ∧ WR (G.drop t ++ D) want' len ∧ Nums (.slice pv m cv) (keysOf G) wr ∧ ∀ e ∈ G.drop t ++ D, last ≤ e.d))
            case atStart => exact ⟨0, want, -1, rfl, Nat.zero_le _, rfl, rfl, Lib.hid ⟨K3.out, by rw [List.drop_zero, HL.out.1]; exact HR.out.2.1, HV'.out, fun e he => by
              rw [List.drop_zero, HL.out.1] at he
              obtain ⟨i, -, -, -, h4⟩ := HR.out.2.1.inL e he
              omega⟩⟩
            case round =>
              obtain ⟨t, want', last, hzt, htm, rfl, rfl, HI⟩ := hrel
              by_cases hlt2 : t < m
              · obtain ⟨e, he⟩ : ∃ e, G[t]? = some e := ⟨_, List.getElem?_eq_getElem (by rw [HL.out.2.2.2.2]; exact hlt2)⟩
                obtain ⟨gv, ov, rfl, hcv⟩ := nums_cell HI.out.2.2.1 (i := t) (x := e.k) (by unfold keysOf; rw [List.getElem?_map, he]; rfl)
                have hdr : G.drop t = e :: G.drop (t + 1) := by
                  have h1 := List.drop_eq_getElem_cons (l := G) (i := t) (by rw [HL.out.2.2.2.2]; exact hlt2)
                  rw [List.getElem?_eq_getElem (by rw [HL.out.2.2.2.2]; exact hlt2)] at he
                  simp only [Option.some.injEq] at he
                  rw [h1, he]
                have hwr := HI.out.2.1
                have hge := HI.out.2.2.2
                have hRt : Right (G.drop t ++ D) := by
                  have := HL.out.2.2.2.1.dropn t
                  rw [← HL.out.1, List.drop_append_of_le_length (by rw [HL.out.2.2.2.2]; omega)] at this
                  exact this
                rw [hdr, List.cons_append] at hwr hge hRt
                obtain ⟨i, hi1, hi2, hi3, hi4⟩ := hwr.pop hRt HI.out.1.len.symm
                have hemem : e ∈ L := by rw [← HL.out.1]; exact List.mem_append_left _ (List.mem_of_getElem? he)
                have x1 := HR.out.2.2.2.2 e hemem
                have x2 := HL.out.2.1 e (List.mem_of_getElem? he)
                have x3 := hge e List.mem_cons_self
                have c2 := HI.out.1.cell hi3
                have f2 := HI.out.1.free i
                rw [hi1] at hcv
                have htl : (t : Int) < (m : Int) := by omega
                have hil : (i : Int) < (len : Int) := by omega
                have CN := Lib.hid (fun n => quiet_flip ((HI.out.1.st.past ((Turn.refl NoBlock wr).drewN n)).now'))
                have HX := Lib.hid (show WR (G.drop (t + 1) ++ D) (want'.set i (-1)) len ∧ ∀ a ∈ G.drop (t + 1) ++ D, e.d ≤ a.d from ⟨hi4, fun a ha => rise_d (hRt.fits e List.mem_cons_self) (hRt.fits a (List.mem_cons_of_mem _ ha)) ((List.pairwise_cons.1 hRt.rise).1 a ha)⟩)
                generalize e.d = y at *
                have g1 : decide ((i : Int) < 0) = false := by simp
                have g2 : decide (len ≤ i) = false := by simpa using hi2
                have g3 : decide (y ≤ now) = false := by simpa using x1
                have g4 : decide (now' < y) = false := by simpa using x2
                have g5 : decide (y < last) = false := by simpa using x3
                clear hdr hwr hge hRt hi1 hi3 hi4 hemem he
                go_wp2
                go_quiet ((go_at_call 35; with_reducible exact CN.out _))
                go_wp2
                go_roundg (m - (t + 1))
                case measure => omega
                case rel => exact ⟨t + 1, want'.set i (-1), y, rfl, by omega, rfl, by go_num, Lib.hid ⟨(HI.out.1.past ((Turn.refl _ wr).drewN _)).store hi2 (-1), HX.out.1, (HI.out.2.2.1.past ((Turn.refl _ wr).drewN _)).kept ((Turn.refl (fun k => k = gw) _).setCell (p := ⟨gw, i, none⟩) (.inl rfl) _) (fun k hk => KB.out k (blk_slice hk)), HX.out.2⟩⟩
              · have e : m = t := by omega
                subst e
                have hdn : G.drop m = [] := List.drop_of_length_le (by rw [HL.out.2.2.2.2]; exact Nat.le_refl _)
                have hwr := HI.out.2.1
                rw [hdn, List.nil_append] at hwr
                have HE := Lib.hid (show OS w wr c now' D gw len want' NoBlock ∧ WR D want' len ∧ 0 ≤ now' ∧ now' ≤ 1099511627776 ∧ ∀ e ∈ D, now' < e.d from ⟨HI.out.1.fewer (fun _ h => h.elim), hwr, by have := HR.out.2.2.1; have := HN.out; omega, HN.out.2, HL.out.2.2.1⟩)
                clear hdn hwr
                go_wp2
                go_roundg (len2 - (j + 1))
                case measure => omega
                case rel => exact ⟨j + 1, D, want', now', rfl, by omega, by go_num, HE⟩
        · have e : len2 = j := by omega
          subst e
          clear hz hj hlt
          obtain ⟨WL, hWL⟩ : ∃ WL, WL = wr := ⟨_, rfl⟩
          go_wp2
          go_loopg [19, 150] len (fun z s19 s150 wr => ∃ i : Nat, z = len - i ∧ i ≤ len ∧ s19 = .int .i64 (((want.take i).countP nn : Nat) : Int) ∧ s150 = .int .i64 (i : Int) ∧ WL = wr)
          case atStart => exact ⟨0, rfl, Nat.zero_le _, rfl, rfl, hWL⟩
          case round =>
            obtain ⟨i, hz, hi, rfl, rfl, rfl⟩ := hrel
            subst hWL
            have hcl : (want.take i).countP nn ≤ 60 := by
              have h2 : ((want.take i).countP nn) ≤ (want.take i).length := List.countP_le_length
              have h3 : (want.take i).length ≤ i := List.length_take_le _ _
              omega
            by_cases hlt : i < len
            · obtain ⟨x, hx⟩ : ∃ x, want[i]? = some x := ⟨_, List.getElem?_eq_getElem (by rw [HR.out.1.len]; exact hlt)⟩
              have c2 := HR.out.1.cell hx
              have hil : (i : Int) < (len : Int) := by omega
              have HC := Lib.hid (countP_next hx)
              have CNW := Lib.hid HR.out.1.st.now'
              by_cases hx0 : 0 ≤ x
              · have hxn : now < x := by
                  rcases HR.out.2.1.out i x hlt hx with h1 | h1
                  · omega
                  · exact HR.out.2.2.2.2 _ h1
                have HX0 := Lib.hid hx0
                clear hx
                generalize hk : (want.take i).countP nn = k at *
                go_wp2_with (first
                  | (go_at_call 35; (with_reducible refine CNW.out.mono ?_); rintro y w4 ⟨rfl, rfl⟩))
                go_roundg (len - (i + 1))
                case measure => omega
                case rel => exact ⟨i + 1, rfl, by omega, by rw [HC.out, if_pos HX0.out]; go_num, by go_num, rfl⟩
              · have HX0 := Lib.hid hx0
                clear hx
                generalize hk : (want.take i).countP nn = k at *
                go_wp2
                go_roundg (len - (i + 1))
                case measure => omega
                case rel => exact ⟨i + 1, rfl, by omega, by rw [HC.out, if_neg (by have := HX0.out; omega), Nat.add_zero], by go_num, rfl⟩
            · have e : len = i := by omega
              subst e
              have hcn := HR.out.2.1.cnt
              have CC := Lib.hid (HR.out.1.st.count)
              rw [← hcn] at CC
              clear hcn
              generalize hk : (want.take len).countP nn = k at *
              clear hk
              go_wp2_with (first
                | (go_at_call 34; (with_reducible refine CC.out.mono ?_); rintro y w4 ⟨rfl, rfl⟩)
                | (go_at_call 22; (with_reducible refine (cA.out _).mono ?_); rintro x w9 ⟨rfl, t9⟩))
              go_ret
              exact ⟨rfl, TT HR.out.1.st.turn t9⟩
end Go.Proofs.Ytcbphfpfdfgehaa
