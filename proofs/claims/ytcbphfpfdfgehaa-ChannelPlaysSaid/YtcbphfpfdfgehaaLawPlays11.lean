/-
  ChannelPlays' walk.
-/
import Derived.Test.YtcbphfpfdfgehaaCPlB
import Derived.Test.YtcbphfpfdfgehaaCPlC
import Derived.Test.YtcbphfpfdfgehaaCAwake
import Derived.OwnWalk
import Derived.Deep.DeepCutAuto
import Derived.Deep.LoopGhost
import Derived.Deep.RegionHeld3
namespace Go.Proofs.Ytcbphfpfdfgehaa
open Go.ChangeShapes Go.WideShapes Go.ChangeAt Go.RowKit

set_option linter.unusedVariables false
set_option maxRecDepth 20000 in
set_option maxHeartbeats 20000000 in
theorem plays_walk11 (dp : Nat) (p : Option Addr) (len cap : Nat) (os : List O11) (w : World) (hd1 : 1 ≤ dp) (hd2 : dp ≤ 65536) (hl : len ≤ 80) (ho : OpsAt w p len os) (hok : ∀ o ∈ os, o.ok) :
    Calls Try.prog 3 #[.int .i64 (dp : Int), .slice p len cap] w fun e w' => e = .returned (.bool true) ∧ Turn NoBlock w w' := by
  have cA := Lib.hid awake11
  obtain ⟨c, hc⟩ : ∃ c, w.heap.size = c := ⟨_, rfl⟩
  have c1 := cst_new dp w hd1 hd2
  rw [hc] at c1
  have C1 := Lib.hid c1
  have CS := Lib.hid (fun W (t : Turn NoBlock w W) => show Calls Try.prog 11 #[.slice p len cap, .int .i64 80] W _ from small_any p len cap os 80 W true (by unfold maxLen; omega) (by omega) (show OpsAt W p len os from ⟨ho.1, fun h0 => by
    obtain ⟨g, o, h4, h5⟩ := ho.2 h0
    refine ⟨g, o, h4, fun j x hx => ⟨fun i hi => ?_, (h5 j x hx).2.past t⟩⟩
    have h6 := (h5 j x hx).1 i hi
    have h7 : i < x.cells.length := hi
    rw [List.getElem?_eq_getElem h7] at h6 ⊢
    exact t.cell h6 (fun h => h)⟩) (.inl ⟨rfl, hok, hl⟩))
  have HO := Lib.hid (And.intro ho hok)
  have hli : (len : Int) ≤ 80 := by omega
  have g1 : ¬ (dp : Int) < 1 := by omega
  have g2 : ¬ (65536 : Int) < dp := by omega
  clear hc c1 ho hok hd1 hd2 hl
  go_enter Try.func3, Try.ntmps3
  go_wp2_with (first
    | (go_at_call 9; (with_reducible refine C1.out.mono ?_); rintro e w1 ⟨rfl, k1⟩; have K1 := Lib.hid k1; clear k1)
    | (go_at_call 11; (with_reducible refine (CS.out _ K1.out.turn).mono ?_); rintro e w3 ⟨rfl, t3⟩; have K3 := Lib.hid (K1.out.past t3); clear t3))
  have START := Lib.hid (pst_new K3.out rfl)
  generalize w3.heap.size = x at *
  go_loopg [43] len (fun g s43 wr => ∃ (i N : Nat) (K : Nat → MS), i ≤ len ∧ g = len - i ∧ s43 = .int .i64 (i : Int) ∧ N ≤ 4 * i ∧ Hid (PSx w wr c x dp N NoBlock K K))
  case atStart => exact ⟨0, 0, _, by omega, by omega, rfl, by omega, START⟩
  case round =>
    obtain ⟨i, N, K, hi, hg, rfl, hN, HT⟩ := hrel
    by_cases hlt : i < len
    · obtain ⟨g0, o0, rfl, hcell⟩ := HO.out.1.2 (by omega)
      obtain ⟨z, hx⟩ : ∃ z, os[i]? = some z := ⟨_, List.getElem?_eq_getElem (by rw [HO.out.1.1]; exact hlt)⟩
      obtain ⟨hcs, hqr⟩ := hcell i z hx
      have hxo := HO.out.2 z (List.mem_of_getElem? hx)
      obtain ⟨d0, d1, d2, d3, d4, d5, d6⟩ := op_cells (fun j hj => (show wr.cell? ⟨g0, o0 + i * 7 + j, none⟩ = z.cells[j]? by
        have h1 := hcs j hj
        have h2 : j < z.cells.length := hj
        rw [List.getElem?_eq_getElem h2] at h1 ⊢
        exact HT.out.turn.cell h1 (fun h => h)))
      obtain ⟨kind, en, n, k, ⟨⟨tx, d, hh⟩, vd, vh⟩⟩ := z
      obtain ⟨pd, cd, hvd⟩ := hqr.1.sl
      obtain ⟨ph, ch, hvh⟩ := hqr.2.sl
      dsimp only at hvd hvh d0 d1 d2 d3 d4 d5 d6
      subst hvd hvh
      have CST := Lib.hid (fun W (t : Turn NoBlock wr W) => step_any (HT.out.past t) (by omega) kind en n k tx d hh pd ph cd ch (show RzB w (.slice pd d.length cd) d ∧ RzI w (.slice ph hh.length ch) hh from hqr) hxo)
      clear hcell hcs hx hqr hxo
      go_wp2_with (go_at_call 12; (with_reducible refine (CST.out _ ((Turn.refl _ _).alloc _)).mono ?_); rintro e w5 ⟨rfl, K', p5⟩; have P5 := Lib.hid p5; clear p5)
      obtain ⟨N4, hN4⟩ : ∃ N4, N + 4 = N4 := ⟨_, rfl⟩
      rw [hN4] at P5
      have hN5 : N4 ≤ 4 * (i + 1) := by omega
      clear CST hN4 d0 d1 d2 d3 d4 d5 d6
      go_loopg [9, 52] 2 (fun g s9 s52 wr => ∃ (pu : Option Addr) (A : List Int) (cu : Nat), s9 = .slice pu A.length cu ∧ ((s52 = .int .i64 0 ∧ g = 2 ∧ A = []) ∨ (s52 = .int .i64 1 ∧ g = 1 ∧ A = (K' 0).q.flatMap (·.h)) ∨ (s52 = .int .i64 2 ∧ g = 0 ∧ A = HL K')) ∧ Hid (Turn NoBlock w5 wr ∧ Nums (.slice pu A.length cu) A wr ∧ ∀ k, Blk (.slice pu A.length cu) k → w5.heap.size ≤ k))
      case atStart => exact ⟨none, [], 0, rfl, .inl ⟨rfl, rfl, rfl⟩, Lib.hid ⟨Turn.refl _ _, wrow_nil _ _ _, fun q hq => (blk_nil q hq).elim⟩⟩
      case round =>
        obtain ⟨pu, A, cu, rfl, three, HU⟩ := hrel
        obtain ⟨m, hm⟩ : ∃ m, A.length = m := ⟨_, rfl⟩
        rw [hm] at HU ⊢
        have HM := Lib.hid hm
        rcases three with ⟨rfl, hg2, hA⟩ | ⟨rfl, hg2, hA⟩ | ⟨rfl, hg2, hA⟩
        · obtain ⟨wa, hwa⟩ : ∃ wa, wr = wa := ⟨_, rfl⟩
          rw [hwa] at HU ⊢
          clear hwa
          obtain ⟨U, V, Q, hp5⟩ := P5.out
          have HP := Lib.hid hp5
          have CM := Lib.hid (t_messages0 (hp5.past HU.out.1) (by omega))
          have hql0 := (hp5.ln 0 (by omega)).1
          have HF0 := Lib.hid (And.intro (cst_fits hp5.k 0 (by omega)) (show (K' 0).q.length ≤ 1000000 by have := (hp5.ln 0 (by omega)).1; omega))
          clear hp5
          go_upto_region 17 with (go_at_call 13; (with_reducible refine CM.out.mono ?_); rintro e w6 ⟨ul, L, rfl, rl, hm, hk, hf, t6⟩; obtain ⟨pl, cl, rfl⟩ := rl.sl; have M6 := Lib.hid (And.intro rl (And.intro hm (And.intro hk (And.intro hf t6)))); clear rl hm hk hf t6)
          have hp6 := HP.out.past (TT HU.out.1 M6.out.2.2.2.2)
          obtain ⟨p0, ca0, c0, c4⟩ := t_cells0 hp6
          have CL := Lib.hid (fun W (t : Turn NoBlock w6 W) => t_len0 (hp6.past t) (by omega))
          have CS := Lib.hid (fun W (t : Turn NoBlock w6 W) => t_shows0 (hp6.past t) (by omega))
          have CO := Lib.hid (fun W (t : Turn NoBlock w6 W) => t_open0 (hp6.past t))
          have hLq : L.length = (K' 0).q.length := by rw [← M6.out.2.1, List.length_map]
          rw [← hLq] at c0 CL hql0
          obtain ⟨ql, hql⟩ : ∃ ql, L.length = ql := ⟨_, rfl⟩
          rw [hql] at c0 CL M6 hql0 ⊢
          have HQL := Lib.hid hql
          generalize (K' 0).op = oo at *
          generalize shK dp (K' 0) (K' 1) = sh at *
          have hbo : (oo == !oo) = false := by cases oo <;> rfl
          simp only [Nat.reduceAdd] at c4
          have hqi : (ql : Int) ≤ 1000000 := by omega
          clear hp6 hLq hql CM
          go_region_held3 (fun W => W.cell? ⟨x, 4, none⟩ = some (.bool !oo) ∧ W.cell? ⟨x, 0, none⟩ = some (.slice p0 ql ca0)) (first | exact ⟨c4, c0⟩ | exact S7.out | exact S8.out | exact S9.out) (first
            | (go_at_call 14; (with_reducible refine (CL.out _ ((Turn.refl _ _).drew)).mono ?_); rintro y w7 ⟨rfl, t7⟩; have T7 := Lib.hid (TT (show Turn NoBlock w6 w6.drew from (Turn.refl _ _).drew) t7); have S7 := Lib.hid (And.intro (T7.out.cell c4 (fun h => h)) (T7.out.cell c0 (fun h => h))); clear t7)
            | (go_at_call 15; (with_reducible refine (CO.out _ T7.out).mono ?_); rintro y w2 ⟨rfl, rfl⟩)
            | (go_at_call 16; (with_reducible refine (CS.out _ T7.out).1.mono ?_); rintro y w8 ⟨rfl, t8⟩; have T8 := Lib.hid (TT T7.out t8); have S8 := Lib.hid (And.intro (T8.out.cell c4 (fun h => h)) (T8.out.cell c0 (fun h => h))); clear t8)
            | (go_at_call 17; (with_reducible refine (CS.out _ T8.out).2.mono ?_); rintro y w9 ⟨rfl, t9⟩; have T9 := Lib.hid (TT T8.out t9); have S9 := Lib.hid (And.intro (T9.out.cell c4 (fun h => h)) (T9.out.cell c0 (fun h => h))); clear t9))
          clear c4 c0 CL CO CS hbo S7 S8 S9 T7 T8
          obtain ⟨i3, hi3, hz3, hs3, hb3⟩ := info_parts infoI
          have HI3 := Lib.hid (And.intro hi3 (And.intro hz3 (And.intro hs3 hb3)))
          have HA := Lib.hid hA
          have hAb : m ≤ 100000000 := by
            rw [← hm, hA]
            simp
          clear hi3 hz3 hs3 hb3 hA hm
          go_wp2
          go_loopg [9, 99] ql (fun g s9 s99 wz => ∃ (j nv : Nat) (pv : Option Addr) (cv : Nat), j ≤ ql ∧ g = ql - j ∧ s99 = .int .i64 (j : Int) ∧ s9 = .slice pv nv cv ∧ Hid (Turn (Blk (.slice pu m cu)) w9 wz ∧ Turn NoBlock w5 wz ∧ WRow wz 3 1 (.slice pv nv cv) nv (icells (A ++ hsQ (L.take j))) ∧ (A ++ hsQ (L.take j)).length = nv ∧ ∀ k, Blk (.slice pv nv cv) k → Blk (.slice pu m cu) k ∨ w9.heap.size ≤ k))
          case atStart =>
            refine ⟨0, m, pu, cu, by omega, by omega, rfl, rfl, Lib.hid ⟨Turn.refl _ _, TT (TT HU.out.1 M6.out.2.2.2.2) T9.out, ?_, ?_, fun k hk => .inl hk⟩⟩
            · have h1 : Nums (.slice pu m cu) A w9 := WRow.past HU.out.2.1 (TT M6.out.2.2.2.2 T9.out)
              unfold Nums at h1
              rw [HM.out] at h1
              simpa [hsQ] using h1
            · simpa [hsQ] using HM.out
          case round =>
            obtain ⟨j, nv, pv, cv, hj, hg3, rfl, rfl, HV⟩ := hrel
            obtain ⟨wz, hwz⟩ : ∃ wz, wr = wz := ⟨_, rfl⟩
            rw [hwz] at HV ⊢
            clear hwz
            by_cases hlt3 : j < ql
            · have hlti : (j : Int) < (ql : Int) := by omega
              have hji : (0 : Int) ≤ (j : Int) := by omega
              obtain ⟨q, hq⟩ : ∃ q, L[j]? = some q := ⟨_, List.getElem?_eq_getElem (by rw [HQL.out]; exact hlt3)⟩
              have hqm := List.mem_of_getElem? hq
              have TZ : Turn (Blk (.slice pu m cu)) w6 wz := (T9.out.mono (fun _ h => h.elim)).trans HV.out.1 (fun k hk => .inl hk)
              have hul : ∀ k, Blk (.slice pu m cu) k → k < wa.heap.size := fun k hk => by
                have h1 := HU.out.2.1
                exact WRow.lt h1 hk
              have hqk := (M6.out.2.2.1 q hqm).kept TZ (fun k hk hb => by have := hul k hb; have := M6.out.2.2.2.1 k (.inr ⟨q, hqm, hk⟩); omega)
              have hrow := WRow.kept M6.out.1 TZ (fun k hk hb => by have := hul k hb; have := M6.out.2.2.2.1 k (.inl hk); omega)
              obtain ⟨gl, ol, cl', he, -, -, -, hce, -⟩ := hrow.shape (by omega)
              obtain rfl : pl = some ⟨gl, ol, none⟩ := by simp only [Value.slice.injEq] at he; exact he.1
              have l0 := hce (j * 3 + 0) (by omega)
              have l1 := hce (j * 3 + 1) (by omega)
              have l2 := hce (j * 3 + 2) (by omega)
              rw [qcells_at _ j q hq 0 (by omega)] at l0
              rw [qcells_at _ j q hq 1 (by omega), ← Nat.add_assoc] at l1
              rw [qcells_at _ j q hq 2 (by omega), ← Nat.add_assoc] at l2
              have hLk : (K' 0).q.length = ql := by rw [← M6.out.2.1, List.length_map, HQL.out]
              have hmq : (K' 0).q[j]? = some q.m := by rw [← M6.out.2.1, List.getElem?_map, hq]; rfl
              obtain ⟨gr, orr, car, vd2, vh2, y0, y1, y2, y3, rz1, rz2⟩ := t_msg0 (HP.out.past HV.out.2.1) hmq
              rw [hLk] at y0
              have HN := Lib.hid (hsQ_next L j q hq)
              have hqf := hqk.fits.2
              have hAl := HV.out.2.2.2.1
              rw [List.length_append, HM.out] at hAl
              have hsl := hsQ_len (L.take j) (fun q2 hq2 => ((M6.out.2.2.1 q2 (List.mem_of_mem_take hq2)).fits).2)
              rw [List.length_take] at hsl
              obtain ⟨⟨qt, qd, qh⟩, qvd, qvh⟩ := q
              obtain ⟨q1, c1, e1⟩ := hqk.d.sl
              obtain ⟨q2, c2, e2⟩ := hqk.h.sl
              obtain ⟨q3, c3, e3⟩ := rz1.sl
              obtain ⟨q4, c4, e4⟩ := rz2.sl
              dsimp only at e1 e2 e3 e4 l0 l1 l2 y1 hqf HN rz1 rz2
              subst e1 e2 e3 e4
              have LB := Lib.hid (show nv + qh.length ≤ maxLen ∧ (nv + qh.length) * 8 ≤ 140737488355328 by unfold maxLen; omega)
              have SE := Lib.hid (fun W (t : Turn NoBlock wz W) => same_eq W qt qd qh _ _ _ _ (by omega) (Byts.rd (hqk.kept t (fun _ _ h => h)).d) (Nums.rd (hqk.kept t (fun _ _ h => h)).h) (RzB.past rz1 t) (RzI.past rz2 t))
              have QK := Lib.hid hqk
              have CELLS := Lib.hid (show wz.cell? ⟨gl, ol + j * 3, none⟩ = some (.int .i64 qt) ∧ wz.cell? ⟨gl, ol + j * 3 + 1, none⟩ = some (.slice q1 qd.length c1) ∧ wz.cell? ⟨gl, ol + j * 3 + 2, none⟩ = some (.slice q2 qh.length c2) ∧ wz.cell? ⟨x, 0, none⟩ = some (.slice (some ⟨gr, orr, none⟩) ql car) ∧ wz.cell? ⟨gr, orr + j * 3, none⟩ = some (.int .i64 qt) ∧ wz.cell? ⟨gr, orr + j * 3 + 1, none⟩ = some (.slice q3 qd.length c3) ∧ wz.cell? ⟨gr, orr + j * 3 + 2, none⟩ = some (.slice q4 qh.length c4) from ⟨l0, l1, l2, y0, y1, y2, y3⟩)
              have KC := Lib.hid (fun W (t : Turn NoBlock wz W) => show W.cell? ⟨gl, ol + j * 3, none⟩ = some (.int .i64 qt) ∧ W.cell? ⟨gl, ol + j * 3 + 1, none⟩ = some (.slice q1 qd.length c1) ∧ W.cell? ⟨gl, ol + j * 3 + 2, none⟩ = some (.slice q2 qh.length c2) ∧ W.cell? ⟨x, 0, none⟩ = some (.slice (some ⟨gr, orr, none⟩) ql car) ∧ W.cell? ⟨gr, orr + j * 3, none⟩ = some (.int .i64 qt) ∧ W.cell? ⟨gr, orr + j * 3 + 1, none⟩ = some (.slice q3 qd.length c3) ∧ W.cell? ⟨gr, orr + j * 3 + 2, none⟩ = some (.slice q4 qh.length c4) from ⟨t.cell l0 (fun h => h), t.cell l1 (fun h => h), t.cell l2 (fun h => h), t.cell y0 (fun h => h), t.cell y1 (fun h => h), t.cell y2 (fun h => h), t.cell y3 (fun h => h)⟩)
              have K0 := KC.out wz.drew ((Turn.refl _ _).drew)
              clear hq hqm TZ hul hqk hrow he hce l0 l1 l2 y0 y1 y2 y3 hLk hmq rz1 rz2 hsl hAl CELLS
              go_upto_region 22 with (fail)
              go_region_held3 (fun W => W.cell? ⟨gl, ol + j * 3, none⟩ = some (.int .i64 qt) ∧ W.cell? ⟨gl, ol + j * 3 + 1, none⟩ = some (.slice q1 qd.length c1) ∧ W.cell? ⟨gl, ol + j * 3 + 2, none⟩ = some (.slice q2 qh.length c2) ∧ W.cell? ⟨x, 0, none⟩ = some (.slice (some ⟨gr, orr, none⟩) ql car) ∧ W.cell? ⟨gr, orr + j * 3, none⟩ = some (.int .i64 qt) ∧ W.cell? ⟨gr, orr + j * 3 + 1, none⟩ = some (.slice q3 qd.length c3) ∧ W.cell? ⟨gr, orr + j * 3 + 2, none⟩ = some (.slice q4 qh.length c4)) (first | exact K0 | exact S10.out) ((go_at_call 18; (with_reducible refine (SE.out _ ((Turn.refl _ _).drew)).mono ?_); rintro y w10 ⟨rfl, t10⟩; have T10 := Lib.hid (TT (show Turn NoBlock wz wz.drew from (Turn.refl _ _).drew) t10); have S10 := Lib.hid (KC.out _ T10.out); clear t10))
              obtain ⟨f0, f1, f2, -⟩ := S10.out
              have ROW := Lib.hid (WRow.past HV.out.2.2.1 T10.out)
              have SRC := Lib.hid (show Src Try.prog 1 36 (.slice q2 qh.length c2) qh.length (icells qh) w10 from Rz.src (RdI.rz (Nums.rd (QK.out.kept T10.out (fun _ _ h => h)).h)) 36 3 intsT (icells_one _))
              clear K0 S10 f0 f1
              go_wp2_with (at_builtin; refine wpList_append_w rfl (.tmp 117) (.tmp 122) 36 36 rfl ROW.out i3 _ 8 intsT HI3.out.1 HI3.out.2.1 HI3.out.2.2.1 HI3.out.2.2.2 rfl rfl rfl SRC.out LB.out.1 LB.out.2 ?_; intro v9 W9 r9 t9 k9; obtain ⟨p9, c9, rfl⟩ := r9.sl; have R9 := Lib.hid (And.intro r9 (And.intro t9 k9)); clear r9 t9 k9)
              go_roundg (ql - (j + 1))
              case measure => omega
              case rel =>
                refine ⟨j + 1, nv + qh.length, p9, c9, by omega, rfl, by go_num, rfl, Lib.hid ⟨?_, ?_, ?_, ?_, fun k hk => ?_⟩⟩
                · refine (HV.out.1.trans T10.out (fun _ h => h.elim)).trans R9.out.2.1 (fun k hk => ?_)
                  exact HV.out.2.2.2.2 k hk
                · refine (TT HV.out.2.1 T10.out).trans R9.out.2.1 (fun k hk => ?_)
                  rcases HV.out.2.2.2.2 k hk with h1 | h1
                  · exact .inr (HU.out.2.2 k h1)
                  · exact .inr (Nat.le_trans (TT (TT HU.out.1 M6.out.2.2.2.2) T9.out).size h1)
                · rw [HN.out, ← List.append_assoc, show icells ((A ++ hsQ (L.take j)) ++ qh) = icells (A ++ hsQ (L.take j)) ++ icells qh by simp [icells]]
                  exact R9.out.1
                · rw [HN.out, ← List.append_assoc, List.length_append, HV.out.2.2.2.1]
                · rcases R9.out.2.2 k hk with h1 | h1
                  · exact HV.out.2.2.2.2 k h1
                  · exact .inr (by rw [h1.1]; exact Nat.le_trans HV.out.1.size T10.out.size)
            · have e : j = ql := by omega
              subst e
              have hA2 : A ++ hsQ L = (K' 0).q.flatMap (·.h) := by
                rw [HA.out]
                rw [← M6.out.2.1, List.nil_append, List.flatMap_map]; rfl
              have HA2 := Lib.hid hA2
              have HV2 := HV.out
              rw [← HQL.out, List.take_length] at HV2
              have HVV := Lib.hid HV2
              clear hA2 HV2
              go_wp2
              go_roundg 1
              case measure => omega
              case rel =>
                refine ⟨pv, A ++ hsQ L, cv, by rw [HVV.out.2.2.2.1], .inr (.inl ⟨by go_num, rfl, HA2.out⟩), Lib.hid ⟨HVV.out.2.1, ?_, fun k hk => ?_⟩⟩
                · unfold Nums
                  rw [HVV.out.2.2.2.1]
                  exact HVV.out.2.2.1
                · rw [HVV.out.2.2.2.1] at hk
                  rcases HVV.out.2.2.2.2 k hk with h1 | h1
                  · exact HU.out.2.2 k h1
                  · exact Nat.le_trans (TT (TT HU.out.1 M6.out.2.2.2.2) T9.out).size h1
        · obtain ⟨wa, hwa⟩ : ∃ wa, wr = wa := ⟨_, rfl⟩
          rw [hwa] at HU ⊢
          clear hwa
          obtain ⟨U, V, Q, hp5⟩ := P5.out
          have HP := Lib.hid hp5
          have CM := Lib.hid (t_messages1 (hp5.past HU.out.1) (by omega))
          have hql0 := (hp5.ln 1 (by omega)).1
          have HF0 := Lib.hid (And.intro (cst_fits hp5.k 0 (by omega)) (show (K' 0).q.length ≤ 1000000 by have := (hp5.ln 0 (by omega)).1; omega))
          clear hp5
          go_upto_region 17 with (go_at_call 13; (with_reducible refine CM.out.mono ?_); rintro e w6 ⟨ul, L, rfl, rl, hm, hk, hf, t6⟩; obtain ⟨pl, cl, rfl⟩ := rl.sl; have M6 := Lib.hid (And.intro rl (And.intro hm (And.intro hk (And.intro hf t6)))); clear rl hm hk hf t6)
          have hp6 := HP.out.past (TT HU.out.1 M6.out.2.2.2.2)
          obtain ⟨p0, ca0, c0, c4⟩ := t_cells1 hp6
          have CL := Lib.hid (fun W (t : Turn NoBlock w6 W) => t_len1 (hp6.past t) (by omega))
          have CS := Lib.hid (fun W (t : Turn NoBlock w6 W) => t_shows1 (hp6.past t) (by omega))
          have CO := Lib.hid (fun W (t : Turn NoBlock w6 W) => t_open1 (hp6.past t))
          have hLq : L.length = (K' 1).q.length := by rw [← M6.out.2.1, List.length_map]
          rw [← hLq] at c0 CL hql0
          obtain ⟨ql, hql⟩ : ∃ ql, L.length = ql := ⟨_, rfl⟩
          rw [hql] at c0 CL M6 hql0 ⊢
          have HQL := Lib.hid hql
          generalize (K' 1).op = oo at *
          generalize shK dp (K' 1) (K' 0) = sh at *
          have hbo : (oo == !oo) = false := by cases oo <;> rfl
          simp only [Nat.reduceAdd] at c4
          have hqi : (ql : Int) ≤ 1000000 := by omega
          clear hp6 hLq hql CM
          go_region_held3 (fun W => W.cell? ⟨x, 5, none⟩ = some (.bool !oo) ∧ W.cell? ⟨x, 1, none⟩ = some (.slice p0 ql ca0)) (first | exact ⟨c4, c0⟩ | exact S7.out | exact S8.out | exact S9.out) (first
            | (go_at_call 14; (with_reducible refine (CL.out _ ((Turn.refl _ _).drew)).mono ?_); rintro y w7 ⟨rfl, t7⟩; have T7 := Lib.hid (TT (show Turn NoBlock w6 w6.drew from (Turn.refl _ _).drew) t7); have S7 := Lib.hid (And.intro (T7.out.cell c4 (fun h => h)) (T7.out.cell c0 (fun h => h))); clear t7)
            | (go_at_call 15; (with_reducible refine (CO.out _ T7.out).mono ?_); rintro y w2 ⟨rfl, rfl⟩)
            | (go_at_call 16; (with_reducible refine (CS.out _ T7.out).1.mono ?_); rintro y w8 ⟨rfl, t8⟩; have T8 := Lib.hid (TT T7.out t8); have S8 := Lib.hid (And.intro (T8.out.cell c4 (fun h => h)) (T8.out.cell c0 (fun h => h))); clear t8)
            | (go_at_call 17; (with_reducible refine (CS.out _ T8.out).2.mono ?_); rintro y w9 ⟨rfl, t9⟩; have T9 := Lib.hid (TT T8.out t9); have S9 := Lib.hid (And.intro (T9.out.cell c4 (fun h => h)) (T9.out.cell c0 (fun h => h))); clear t9))
          clear c4 c0 CL CO CS hbo S7 S8 S9 T7 T8
          obtain ⟨i3, hi3, hz3, hs3, hb3⟩ := info_parts infoI
          have HI3 := Lib.hid (And.intro hi3 (And.intro hz3 (And.intro hs3 hb3)))
          have HA := Lib.hid hA
          have hAb : m ≤ 100000000 := by
            rw [← hm, hA]
            have f0 := flat_le _ HF0.out.1; have l0 := HF0.out.2; omega
          clear hi3 hz3 hs3 hb3 hA hm
          go_wp2
          go_loopg [9, 99] ql (fun g s9 s99 wz => ∃ (j nv : Nat) (pv : Option Addr) (cv : Nat), j ≤ ql ∧ g = ql - j ∧ s99 = .int .i64 (j : Int) ∧ s9 = .slice pv nv cv ∧ Hid (Turn (Blk (.slice pu m cu)) w9 wz ∧ Turn NoBlock w5 wz ∧ WRow wz 3 1 (.slice pv nv cv) nv (icells (A ++ hsQ (L.take j))) ∧ (A ++ hsQ (L.take j)).length = nv ∧ ∀ k, Blk (.slice pv nv cv) k → Blk (.slice pu m cu) k ∨ w9.heap.size ≤ k))
          case atStart =>
            refine ⟨0, m, pu, cu, by omega, by omega, rfl, rfl, Lib.hid ⟨Turn.refl _ _, TT (TT HU.out.1 M6.out.2.2.2.2) T9.out, ?_, ?_, fun k hk => .inl hk⟩⟩
            · have h1 : Nums (.slice pu m cu) A w9 := WRow.past HU.out.2.1 (TT M6.out.2.2.2.2 T9.out)
              unfold Nums at h1
              rw [HM.out] at h1
              simpa [hsQ] using h1
            · simpa [hsQ] using HM.out
          case round =>
            obtain ⟨j, nv, pv, cv, hj, hg3, rfl, rfl, HV⟩ := hrel
            obtain ⟨wz, hwz⟩ : ∃ wz, wr = wz := ⟨_, rfl⟩
            rw [hwz] at HV ⊢
            clear hwz
            by_cases hlt3 : j < ql
            · have hlti : (j : Int) < (ql : Int) := by omega
              have hji : (0 : Int) ≤ (j : Int) := by omega
              obtain ⟨q, hq⟩ : ∃ q, L[j]? = some q := ⟨_, List.getElem?_eq_getElem (by rw [HQL.out]; exact hlt3)⟩
              have hqm := List.mem_of_getElem? hq
              have TZ : Turn (Blk (.slice pu m cu)) w6 wz := (T9.out.mono (fun _ h => h.elim)).trans HV.out.1 (fun k hk => .inl hk)
              have hul : ∀ k, Blk (.slice pu m cu) k → k < wa.heap.size := fun k hk => by
                have h1 := HU.out.2.1
                exact WRow.lt h1 hk
              have hqk := (M6.out.2.2.1 q hqm).kept TZ (fun k hk hb => by have := hul k hb; have := M6.out.2.2.2.1 k (.inr ⟨q, hqm, hk⟩); omega)
              have hrow := WRow.kept M6.out.1 TZ (fun k hk hb => by have := hul k hb; have := M6.out.2.2.2.1 k (.inl hk); omega)
              obtain ⟨gl, ol, cl', he, -, -, -, hce, -⟩ := hrow.shape (by omega)
              obtain rfl : pl = some ⟨gl, ol, none⟩ := by simp only [Value.slice.injEq] at he; exact he.1
              have l0 := hce (j * 3 + 0) (by omega)
              have l1 := hce (j * 3 + 1) (by omega)
              have l2 := hce (j * 3 + 2) (by omega)
              rw [qcells_at _ j q hq 0 (by omega)] at l0
              rw [qcells_at _ j q hq 1 (by omega), ← Nat.add_assoc] at l1
              rw [qcells_at _ j q hq 2 (by omega), ← Nat.add_assoc] at l2
              have hLk : (K' 1).q.length = ql := by rw [← M6.out.2.1, List.length_map, HQL.out]
              have hmq : (K' 1).q[j]? = some q.m := by rw [← M6.out.2.1, List.getElem?_map, hq]; rfl
              obtain ⟨gr, orr, car, vd2, vh2, y0, y1, y2, y3, rz1, rz2⟩ := t_msg1 (HP.out.past HV.out.2.1) hmq
              rw [hLk] at y0
              have HN := Lib.hid (hsQ_next L j q hq)
              have hqf := hqk.fits.2
              have hAl := HV.out.2.2.2.1
              rw [List.length_append, HM.out] at hAl
              have hsl := hsQ_len (L.take j) (fun q2 hq2 => ((M6.out.2.2.1 q2 (List.mem_of_mem_take hq2)).fits).2)
              rw [List.length_take] at hsl
              obtain ⟨⟨qt, qd, qh⟩, qvd, qvh⟩ := q
              obtain ⟨q1, c1, e1⟩ := hqk.d.sl
              obtain ⟨q2, c2, e2⟩ := hqk.h.sl
              obtain ⟨q3, c3, e3⟩ := rz1.sl
              obtain ⟨q4, c4, e4⟩ := rz2.sl
              dsimp only at e1 e2 e3 e4 l0 l1 l2 y1 hqf HN rz1 rz2
              subst e1 e2 e3 e4
              have LB := Lib.hid (show nv + qh.length ≤ maxLen ∧ (nv + qh.length) * 8 ≤ 140737488355328 by unfold maxLen; omega)
              have SE := Lib.hid (fun W (t : Turn NoBlock wz W) => same_eq W qt qd qh _ _ _ _ (by omega) (Byts.rd (hqk.kept t (fun _ _ h => h)).d) (Nums.rd (hqk.kept t (fun _ _ h => h)).h) (RzB.past rz1 t) (RzI.past rz2 t))
              have QK := Lib.hid hqk
              have CELLS := Lib.hid (show wz.cell? ⟨gl, ol + j * 3, none⟩ = some (.int .i64 qt) ∧ wz.cell? ⟨gl, ol + j * 3 + 1, none⟩ = some (.slice q1 qd.length c1) ∧ wz.cell? ⟨gl, ol + j * 3 + 2, none⟩ = some (.slice q2 qh.length c2) ∧ wz.cell? ⟨x, 1, none⟩ = some (.slice (some ⟨gr, orr, none⟩) ql car) ∧ wz.cell? ⟨gr, orr + j * 3, none⟩ = some (.int .i64 qt) ∧ wz.cell? ⟨gr, orr + j * 3 + 1, none⟩ = some (.slice q3 qd.length c3) ∧ wz.cell? ⟨gr, orr + j * 3 + 2, none⟩ = some (.slice q4 qh.length c4) from ⟨l0, l1, l2, y0, y1, y2, y3⟩)
              have KC := Lib.hid (fun W (t : Turn NoBlock wz W) => show W.cell? ⟨gl, ol + j * 3, none⟩ = some (.int .i64 qt) ∧ W.cell? ⟨gl, ol + j * 3 + 1, none⟩ = some (.slice q1 qd.length c1) ∧ W.cell? ⟨gl, ol + j * 3 + 2, none⟩ = some (.slice q2 qh.length c2) ∧ W.cell? ⟨x, 1, none⟩ = some (.slice (some ⟨gr, orr, none⟩) ql car) ∧ W.cell? ⟨gr, orr + j * 3, none⟩ = some (.int .i64 qt) ∧ W.cell? ⟨gr, orr + j * 3 + 1, none⟩ = some (.slice q3 qd.length c3) ∧ W.cell? ⟨gr, orr + j * 3 + 2, none⟩ = some (.slice q4 qh.length c4) from ⟨t.cell l0 (fun h => h), t.cell l1 (fun h => h), t.cell l2 (fun h => h), t.cell y0 (fun h => h), t.cell y1 (fun h => h), t.cell y2 (fun h => h), t.cell y3 (fun h => h)⟩)
              have K0 := KC.out wz.drew ((Turn.refl _ _).drew)
              clear hq hqm TZ hul hqk hrow he hce l0 l1 l2 y0 y1 y2 y3 hLk hmq rz1 rz2 hsl hAl CELLS
              go_upto_region 22 with (fail)
              go_region_held3 (fun W => W.cell? ⟨gl, ol + j * 3, none⟩ = some (.int .i64 qt) ∧ W.cell? ⟨gl, ol + j * 3 + 1, none⟩ = some (.slice q1 qd.length c1) ∧ W.cell? ⟨gl, ol + j * 3 + 2, none⟩ = some (.slice q2 qh.length c2) ∧ W.cell? ⟨x, 1, none⟩ = some (.slice (some ⟨gr, orr, none⟩) ql car) ∧ W.cell? ⟨gr, orr + j * 3, none⟩ = some (.int .i64 qt) ∧ W.cell? ⟨gr, orr + j * 3 + 1, none⟩ = some (.slice q3 qd.length c3) ∧ W.cell? ⟨gr, orr + j * 3 + 2, none⟩ = some (.slice q4 qh.length c4)) (first | exact K0 | exact S10.out) ((go_at_call 18; (with_reducible refine (SE.out _ ((Turn.refl _ _).drew)).mono ?_); rintro y w10 ⟨rfl, t10⟩; have T10 := Lib.hid (TT (show Turn NoBlock wz wz.drew from (Turn.refl _ _).drew) t10); have S10 := Lib.hid (KC.out _ T10.out); clear t10))
              obtain ⟨f0, f1, f2, -⟩ := S10.out
              have ROW := Lib.hid (WRow.past HV.out.2.2.1 T10.out)
              have SRC := Lib.hid (show Src Try.prog 1 36 (.slice q2 qh.length c2) qh.length (icells qh) w10 from Rz.src (RdI.rz (Nums.rd (QK.out.kept T10.out (fun _ _ h => h)).h)) 36 3 intsT (icells_one _))
              clear K0 S10 f0 f1
              go_wp2_with (at_builtin; refine wpList_append_w rfl (.tmp 117) (.tmp 122) 36 36 rfl ROW.out i3 _ 8 intsT HI3.out.1 HI3.out.2.1 HI3.out.2.2.1 HI3.out.2.2.2 rfl rfl rfl SRC.out LB.out.1 LB.out.2 ?_; intro v9 W9 r9 t9 k9; obtain ⟨p9, c9, rfl⟩ := r9.sl; have R9 := Lib.hid (And.intro r9 (And.intro t9 k9)); clear r9 t9 k9)
              go_roundg (ql - (j + 1))
              case measure => omega
              case rel =>
                refine ⟨j + 1, nv + qh.length, p9, c9, by omega, rfl, by go_num, rfl, Lib.hid ⟨?_, ?_, ?_, ?_, fun k hk => ?_⟩⟩
                · refine (HV.out.1.trans T10.out (fun _ h => h.elim)).trans R9.out.2.1 (fun k hk => ?_)
                  exact HV.out.2.2.2.2 k hk
                · refine (TT HV.out.2.1 T10.out).trans R9.out.2.1 (fun k hk => ?_)
                  rcases HV.out.2.2.2.2 k hk with h1 | h1
                  · exact .inr (HU.out.2.2 k h1)
                  · exact .inr (Nat.le_trans (TT (TT HU.out.1 M6.out.2.2.2.2) T9.out).size h1)
                · rw [HN.out, ← List.append_assoc, show icells ((A ++ hsQ (L.take j)) ++ qh) = icells (A ++ hsQ (L.take j)) ++ icells qh by simp [icells]]
                  exact R9.out.1
                · rw [HN.out, ← List.append_assoc, List.length_append, HV.out.2.2.2.1]
                · rcases R9.out.2.2 k hk with h1 | h1
                  · exact HV.out.2.2.2.2 k h1
                  · exact .inr (by rw [h1.1]; exact Nat.le_trans HV.out.1.size T10.out.size)
            · have e : j = ql := by omega
              subst e
              have hA2 : A ++ hsQ L = HL K' := by
                rw [HA.out]
                unfold HL; rw [← M6.out.2.1, List.flatMap_map]; rfl
              have HA2 := Lib.hid hA2
              have HV2 := HV.out
              rw [← HQL.out, List.take_length] at HV2
              have HVV := Lib.hid HV2
              clear hA2 HV2
              go_wp2
              go_roundg 0
              case measure => omega
              case rel =>
                refine ⟨pv, A ++ hsQ L, cv, by rw [HVV.out.2.2.2.1], .inr (.inr ⟨by go_num, rfl, HA2.out⟩), Lib.hid ⟨HVV.out.2.1, ?_, fun k hk => ?_⟩⟩
                · unfold Nums
                  rw [HVV.out.2.2.2.1]
                  exact HVV.out.2.2.1
                · rw [HVV.out.2.2.2.1] at hk
                  rcases HVV.out.2.2.2.2 k hk with h1 | h1
                  · exact HU.out.2.2 k h1
                  · exact Nat.le_trans (TT (TT HU.out.1 M6.out.2.2.2.2) T9.out).size h1
        · subst hA
          obtain ⟨U, V, Q, hp5⟩ := P5.out
          have CH := Lib.hid (kp_handles (hp5.k.past HU.out.1) (by omega))
          have hHL : (HL K').length ≤ 1000000000 := by
            have f0 := flat_le _ (cst_fits hp5.k 0 (by omega))
            have f1 := flat_le _ (cst_fits hp5.k 1 (by omega))
            have l0 := (hp5.ln 0 (by omega)).1
            have l1 := (hp5.ln 1 (by omega)).1
            unfold HL
            rw [List.length_append]
            omega
          have HHL := Lib.hid hHL
          rw [hm] at CH
          clear hp5 hHL
          go_wp2_with (first
            | (go_at_call 20; (with_reducible refine CH.out.mono ?_); rintro e w6 ⟨p6, c6, rfl, r6, t6⟩; have R6 := Lib.hid (And.intro r6 (And.intro t6 (show Nums (.slice pu m cu) (HL K') w6 from WRow.past HU.out.2.1 t6))); clear r6 t6)
            | (go_at_call 19; (with_reducible refine (ints_eq _ _ _ _ HHL.out (Nums.rd R6.out.1) (RdI.rz (Nums.rd R6.out.2.2))).mono ?_); rintro e w7 ⟨rfl, t7⟩; have T7 := Lib.hid (TT (TT HU.out.1 R6.out.2.1) t7); clear t7))
          go_roundg (len - (i + 1))
          case measure => omega
          case rel => exact ⟨i + 1, N4, K', by omega, rfl, by go_num, by omega, Lib.hid (P5.out.past T7.out)⟩
    · have e : i = len := by omega
      go_wp2_with (first
        | (go_at_call 14; (with_reducible refine (len_bad _ _ _ (by decide) (by decide)).mono ?_); rintro y w2 ⟨rfl, rfl⟩)
        | (go_at_call 15; (with_reducible refine (open_bad _ _ _ (by decide) (by decide)).mono ?_); rintro y w2 ⟨rfl, rfl⟩)
        | (go_at_call 16; (with_reducible refine (shows_bad _ _ _ (by decide) (by decide)).mono ?_); rintro y w2 ⟨rfl, rfl⟩)
        | (go_at_call 13; (with_reducible refine (cmessages_none _ _ (-10) (by decide) _ (right_bad _ _ _ (by decide) (by decide))).mono ?_); rintro y w2 ⟨rfl, rfl⟩)
        | (go_at_call 10; (with_reducible refine (cA.out _).mono ?_); rintro e w9 ⟨rfl, t9⟩))
      go_ret
      exact ⟨rfl, TT HT.out.turn t9⟩
end Go.Proofs.Ytcbphfpfdfgehaa
