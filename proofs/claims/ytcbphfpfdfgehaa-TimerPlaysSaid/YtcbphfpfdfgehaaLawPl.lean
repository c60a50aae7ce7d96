/-
  TimerPlays' walk. No conditions but that the calls can be read.
-/
import Derived.Test.YtcbphfpfdfgehaaTViewO
import Derived.Test.YtcbphfpfdfgehaaLawPlS
import Derived.Test.YtcbphfpfdfgehaaLawPlRA
import Derived.Test.YtcbphfpfdfgehaaLawPlRB
import Derived.Test.YtcbphfpfdfgehaaLawPlRC
import Derived.Deep.LoopGhost
import Derived.Deep.DeepCutAuto
import Derived.Deep.CutBlock
namespace Go.Proofs.Ytcbphfpfdfgehaa
open Go.ChangeShapes Go.WideShapes Go.ChangeAt Go.RowKit

set_option maxRecDepth 100000 in
set_option maxHeartbeats 8000000 in
theorem plays_walk (most : Int) (p : Option Addr) (len cap : Nat) (os : List O14) (w : World) (ho : OpsAt w p len os) (h0 : 0 ≤ most) (h1 : most ≤ 65536) (hl : len ≤ 150) :
    Calls Try.prog 4 #[.int .i64 most, .slice p len cap] w fun e w' => e = .returned (.bool true) ∧ Turn NoBlock w w' := by
  have cA := Lib.hid awake14
  have HO := Lib.hid ho
  have cN := Lib.hid (new_yes most w h0 h1)
  have hb0 : decide (most < 0) = false := by simp; omega
  have hb1 : decide (65536 < most) = false := by simp; omega
  have hd : decide ((len : Int) > 150) = false := by simp; omega
  clear ho
  go_enter Try.func4, Try.ntmps4
  go_wp2_with (first
    | (go_at_call 21; (with_reducible refine cN.out.mono ?_); rintro x w1 ⟨c, rfl, k1, -, -⟩; have K1 := Lib.hid (pl_new k1); clear k1))
  obtain ⟨x, hx⟩ : ∃ x, w1.heap.size = x := ⟨_, rfl⟩
  rw [hx] at K1
  rw [hx]
  generalize w1.alloc (.cells #[.slice none 0 0, .int .i64 most, .int .i64 0] 59) = W1 at *
  clear hx hb0 hb1 hd
  go_loopg [58] len (fun z s58 wr => ∃ (j : Nat) (na : Int) (L : List En), z = len - j ∧ j ≤ len ∧ s58 = .int .i64 (j : Int) ∧ Hid (PL w wr c x most na L na L NoBlock))
  case atStart => exact ⟨0, 0, [], rfl, Nat.zero_le _, rfl, K1⟩
  case round =>
    obtain ⟨j, na, L, hz, hj, rfl, HR⟩ := hrel
    by_cases hlt : j < len
    · obtain ⟨o, ho⟩ : ∃ o, os[j]? = some o := ⟨_, List.getElem?_eq_getElem (by rw [HO.out.1]; exact hlt)⟩
      obtain ⟨b, off, rfl, hc⟩ := HO.out.2 (by omega)
      obtain ⟨hc1, hc2⟩ := hc j o ho
      obtain ⟨k0, k1, k2⟩ := op_cells hc1
      have k0 := HR.out.turn.cell k0 (fun h => h)
      have k1 := HR.out.turn.cell k1 (fun h => h)
      have k2 := HR.out.turn.cell k2 (fun h => h)
      have HF := Lib.hid hc2
      have hjl : (j : Int) < (len : Int) := by omega
      clear hc hc1 hc2 ho
      simp only [Nat.add_zero] at k0
      have S5 := pb_box HR.out o.kind o.key o.n
      go_upto_block 2 with (fail)
      obtain ⟨W, hW⟩ : ∃ W, wr.alloc (.cells #[.int .i64 o.kind, .int .i64 o.key, .int .i64 o.n] 61) = W := ⟨_, rfl⟩
      obtain ⟨ob, hob⟩ : ∃ ob, wr.heap.size = ob := ⟨_, rfl⟩
      rw [hW, hob] at S5
      rw [hW, hob]
      obtain ⟨m1, m2⟩ := S5.bx.cells
      have H5 := Lib.hid S5
      have HRT := Lib.hid S5.pl.right
      clear S5 hW hob k0 k1 k2
      obtain ⟨fk, fy, fn⟩ := HF.out
      have HFK := Lib.hid (And.intro fk (And.intro fy fn))
      clear fk fy fn
      obtain ⟨kind, key, n⟩ := o
      simp only at m1 m2 H5 HFK ⊢
      refine plsw _ _ _ _ _ _ _ _ _ _ _ _ _ _ _ _ _ _ _ _ _ _ _ _ _ _ _ _ _ _ _ _ _ _ _ _ _ _ _ _ _ _ _ _ _ _ _ _ _ _ _ _ _ _ _ _ _ _ _ _ _ _ _ _ _ _ _ _ _ _ _ _ _ _ _ _ _ _ _ _ _ _ _ _ _ _ _ _ _ _ _ _ _ _ _ _ _ _ _ _ _ _ _ _ _ _ _ _ _ _ _ _ _ _ _ _ _ _ _ _ _ _ _ _ _ _ _ _ _ _ _ _ _ _ _ _ _ _ _ _ _ _ _ _ _ _ _ _ _ _ _ _ _ _ _ _ _ _ _ _ _ _ _ _ _ _ _ _ _ _ _ _ _ _ _ _ _ _ _ _ _ _ _ _ _ _ _ _ _ _ _ _ _ _ _ _ _ _ _ _ _ _ _ _ _ _ _ _ _ _ _ _ _ _ _ _ _ _ _ _ _ _ _ _ _ _ _ _ _ _ _ _ _ _ _ _ _ _ _ _ _ _ _ _ _ _ _ _ _ _ _ _ _ _ _ _ _ _ _ _ _ _ _ _ _ _ H5 HRT HFK (Lib.hid ?_)
      intro na' L' wc hcut y9 y10 y11 y12 y13 y14 y15 y16 y17 y18 y64 y65 y66 y67 y68 y69 y70 y71 y72 y73 y74 y75 y76 y77 y78 y79 y80 y81 y82 y83 y84 y85 y86 y87 y88 y89 y90 y91 y92 y93 y94 y95 y96 y97 y98 y99 y100 y101 y102 y103 y104 y105 y106 y107 y108 y109 y110 y111 y112 y113 y114 y115 y116 y117 y118 y119 y120 y121 y122 y123 y124 y125 y126 y127 y128 y129 y130 y131 y132 y133 y134 y135 y136 y137 y138 y139 y140 y141 y142
      have HC := Lib.hid hcut
      clear hcut
      clear m1 m2 H5 HRT
      obtain ⟨v, hr, -⟩ := HC.out.pl.snd
      obtain ⟨p6, cap6, hv⟩ := WRow.sl hr.row
      subst hv
      have e0 := hr.c0
      have HRM := Lib.hid hr
      have HRT := Lib.hid HC.out.pl.right
      obtain ⟨m, hm⟩ : ∃ m, L'.length = m := ⟨_, rfl⟩
      have hml : m ≤ 65536 := by rw [← hm]; exact HRT.out.2.1
      obtain ⟨i3, hi3, hz3, hs3, hb3⟩ := info_parts infoI
      have HI := Lib.hid (And.intro hi3 (And.intro hz3 (And.intro hs3 hb3)))
      rw [hm] at e0 HRM
      have HM := Lib.hid hm
      clear hr hm hi3 hz3 hs3 hb3
      go_wp2_with fail
      go_loopg [19, 148] m (fun z s19 s148 wy => ∃ (q : Nat) (u : Value), z = m - q ∧ q ≤ m ∧ s19 = u ∧ s148 = .int .i64 (q : Int) ∧ Hid (Turn NoBlock wc wy ∧ Nums u ((keysOf L').take q) wy ∧ ∀ k, Blk u k → wc.heap.size ≤ k))
      case atStart => exact ⟨0, _, rfl, Nat.zero_le _, rfl, rfl, Lib.hid ⟨Turn.refl _ _, wrow_nil _ _ _, fun q hq => (blk_nil q hq).elim⟩⟩
      case round =>
        obtain ⟨q, u, hzq, hq, rfl, rfl, HU⟩ := hrel
        obtain ⟨wy, hwy⟩ : ∃ wy, wr = wy := ⟨_, rfl⟩
        rw [hwy] at HU ⊢
        clear hwy
        obtain ⟨pu, cu, hu⟩ := WRow.sl HU.out.2.1
        subst hu
        obtain ⟨mq, hmq⟩ : ∃ mq, ((keysOf L').take q).length = mq := ⟨_, rfl⟩
        have hmqe : mq = q := by
          rw [← hmq, List.length_take]
          unfold keysOf
          rw [List.length_map, HM.out]
          omega
        rw [hmq, hmqe] at HU ⊢
        rw [hmqe] at hmq
        have HMQ := Lib.hid hmq
        clear hmq hmqe mq
        by_cases hlt2 : q < m
        · obtain ⟨e, he⟩ : ∃ e, L'[q]? = some e := ⟨_, List.getElem?_eq_getElem (by rw [HM.out]; exact hlt2)⟩
          obtain ⟨g6, o6, hp6, d0, d1⟩ := (HRM.out.row.past HU.out.1).two he
          subst hp6
          have HTK := Lib.hid (show (keysOf L').take (q + 1) = (keysOf L').take q ++ [e.k] from by
            rw [List.take_add_one]
            unfold keysOf
            rw [List.getElem?_map, he]
            rfl)
          obtain ⟨ek, ed⟩ := e
          simp only at d0 d1 HTK
          have HRO := Lib.hid (show WRow ((wy.alloc (.cells #[.int .i64 ed, .int .i64 ek] 74)).alloc (.cells #[.int .i64 ek] 3)) 3 1 (.slice pu q cu) q (icells ((keysOf L').take q)) from by
            have := HU.out.2.1.past (((Turn.refl NoBlock wy).alloc (.cells #[.int .i64 ed, .int .i64 ek] 74)).alloc (.cells #[.int .i64 ek] 3))
            unfold Nums at this
            rw [HMQ.out] at this
            exact this)
          have HSR := Lib.hid (Rd.src (rd_new (wy.alloc (.cells #[.int .i64 ed, .int .i64 ek] 74)) 3 1 #[.int .i64 ek] rfl) 36 3 intsT (icells_one [ek]))
          rw [World.size_alloc] at HSR
          have HB := Lib.hid (And.intro (show q + 1 ≤ maxLen by unfold maxLen; omega) (show (q + 1) * 8 ≤ 140737488355328 by omega))
          obtain ⟨hi3, hz3, hs3, hb3⟩ := HI.out
          have HHI := Lib.hid (And.intro hi3 (And.intro hz3 (And.intro hs3 hb3)))
          have hqm : (q : Int) < (m : Int) := by omega
          clear he hi3 hz3 hs3 hb3
          go_wp2_with (first
            | (at_builtin; refine wpList_append_w rfl (.tmp 152) (.tmp 155) 36 36 rfl HRO.out i3 _ 8 intsT HHI.out.1 HHI.out.2.1 HHI.out.2.2.1 HHI.out.2.2.2 rfl rfl rfl HSR.out HB.out.1 HB.out.2 ?_; intro v7 W7 r7 t7 k7; have R7 := Lib.hid (And.intro r7 (And.intro t7 k7)); clear r7 t7 k7))
          go_roundg (m - (q + 1))
          case measure => omega
          case rel =>
            refine ⟨q + 1, v7, rfl, by omega, rfl, by go_num, Lib.hid ⟨?_, ?_, fun k hk => ?_⟩⟩
            · exact ((HU.out.1.alloc _).alloc _).trans R7.out.2.1 (fun k hk => .inr (HU.out.2.2 k hk))
            · unfold Nums
              rw [HTK.out, List.length_append, HMQ.out, List.length_singleton]
              have := R7.out.1
              unfold icells at this ⊢
              rw [List.map_append]
              exact this
            · rcases R7.out.2.2 k hk with h1 | h1
              · exact HU.out.2.2 k h1
              · rw [h1.1, World.size_alloc, World.size_alloc]; have := HU.out.1.size; omega
        · have e : m = q := by omega
          subst e
          have hNK : (keysOf L').take m = keysOf L' := List.take_of_length_le (by unfold keysOf; rw [List.length_map, HM.out]; exact Nat.le_refl _)
          rw [hNK] at HU HMQ
          have HC2 := Lib.hid (HC.out.past HU.out.1)
          have HNK := Lib.hid HU.out.2.1
          have HR2 := Lib.hid (HRM.out.past HU.out.1)
          have HV := Lib.hid HU.out.1
          clear hNK
          have f0 := HR2.out.c0
          have f2 := HR2.out.c2
          obtain ⟨v1, v2⟩ := HC2.out.bx.cells
          obtain ⟨i, hi⟩ : ∃ i, At L' key i := ⟨_, at_ex L' key⟩
          have c6 := HC2.out.pl.rfind key i hi
          have c7 := HC2.out.pl.deadline key HFK.out.2.1
          have c8 := HC2.out.pl.next
          have hh := hi.has
          have HLE := Lib.hid (show (keysOf L').length ≤ 1000000000 from by rw [HMQ.out]; omega)
          have HLN := Lib.hid HMQ.out
          unfold fndI at c6
          have HLM := Lib.hid HM.out
          by_cases hil : i < L'.length
          · rw [if_pos hil] at c6
            rw [decide_eq_true hil] at hh
            obtain ⟨e, he⟩ : ∃ e, L'[i]? = some e := ⟨_, List.getElem?_eq_getElem hil⟩
            have hdl := hi.dl HRT.out.1 he
            rw [hh, hdl] at c7
            obtain ⟨g, o, hp6, z0, z1⟩ := HR2.out.row.two he
            subst hp6
            obtain ⟨a, ha⟩ : ∃ a, L'[0]? = some a := ⟨_, List.getElem?_eq_getElem (by omega)⟩
            obtain ⟨g', o', hp7, y0, y1⟩ := HR2.out.row.two ha
            simp only [Option.some.injEq, Addr.mk.injEq, and_true] at hp7
            obtain ⟨rfl, rfl⟩ := hp7
            simp only [Nat.zero_mul, Nat.add_zero] at y0 y1
            have hn1 : fstK L' = a.k ∧ fstD L' = a.d ∧ (!L'.isEmpty) = true := by
              cases hLL : L' with
              | nil => rw [hLL] at ha; cases ha
              | cons b r =>
                rw [hLL] at ha
                simp only [List.getElem?_cons_zero, Option.some.injEq] at ha
                subst ha
                exact ⟨rfl, rfl, rfl⟩
            rw [hn1.1, hn1.2.1, hn1.2.2] at c8
            have him : (i : Int) < (m : Int) := by rw [HM.out] at hil; omega
            have him0 : (0 : Int) < (m : Int) := by omega
            have him1 : 0 < m := by omega
            have hi0 : (0 : Int) ≤ (i : Int) := by omega
            obtain ⟨ek, ed⟩ := e
            obtain ⟨ak, ad⟩ := a
            simp only at c7 c8 z0 z1 y0 y1
            have C6 := Lib.hid c6
            have C7 := Lib.hid c7
            have C8 := Lib.hid c8
            have KS := Lib.hid (fun (W : World) (t : Turn NoBlock wy W) => show W.cell? ⟨x, 2, none⟩ = some (.int .i64 na') ∧ W.cell? ⟨x, 0, none⟩ = some (.slice (some ⟨g, o, none⟩) m cap6) ∧ W.cell? ⟨g, o + i * 2, none⟩ = some (.int .i64 ed) from ⟨t.cell f2 (fun h => h), t.cell f0 (fun h => h), t.cell z0 (fun h => h)⟩)
            have KE := Lib.hid (fun (W : World) (t : Turn NoBlock wy W) => show W.cell? ⟨x, 0, none⟩ = some (.slice (some ⟨g, o, none⟩) m cap6) ∧ W.cell? ⟨g, o, none⟩ = some (.int .i64 ad) ∧ W.cell? ⟨g, o + 1, none⟩ = some (.int .i64 ak) from ⟨t.cell f0 (fun h => h), t.cell y0 (fun h => h), t.cell y1 (fun h => h)⟩)
            clear c6 c7 c8 hh hi he ha hdl hil hn1 z0 z1 y0 y1 f0 f2
            go_wp2_with (first
              | (go_at_call 26; (with_reducible refine C6.out.mono ?_); rintro e w8 ⟨rfl, rfl⟩)
              | (go_at_call 31; (with_reducible refine C7.out.mono ?_); rintro e w9 ⟨rfl, rfl⟩)
              | (go_at_call 32; (with_reducible refine C8.out.mono ?_); rintro e w10 ⟨rfl, t10⟩; have T10 := Lib.hid t10; have HC3 := Lib.hid ((HC2.out.past t10).past ((Turn.refl NoBlock w10).drew)); clear t10))
            refine pl36A m g o cap6 i ed _ _ _ _ _ _ _ _ _ _ _ _ _ _ _ _ _ _ _ _ _ _ _ _ _ _ _ _ _ _ _ _ _ _ _ _ _ _ _ _ _ _ _ _ _ _ _ _ _ _ _ _ _ _ _ _ _ _ _ _ _ _ _ _ _ _ _ _ _ _ _ _ _ _ _ _ _ _ _ _ _ _ _ _ _ _ _ _ _ _ _ _ _ _ _ _ _ _ _ _ _ _ _ _ _ _ _ _ _ _ _ _ _ _ _ _ _ _ _ _ _ _ _ _ _ _ _ _ _ _ _ _ _ _ _ _ _ _ _ _ _ _ _ _ _ _ _ _ _ _ _ _ _ _ _ _ _ _ _ _ _ _ _ _ _ _ _ _ _ _ _ _ _ _ _ _ _ _ _ _ _ _ _ _ _ _ _ _ _ _ _ _ _ _ _ _ _ _ _ _ _ _ _ _ _ _ _ _ _ _ _ _ _ _ _ _ _ _ _ _ _ _ _ _ _ _ _ _ _ _ _ _ _ _ _ _ _ _ _ _ _ _ _ _ _ _ _ _ _ _ _ _ _ _ _ _ _ _ _ _ _ _ _ HC3 HNK T10 KS HLE HLM him him0 him1 hi0 (Lib.hid ?_)
            intro w12 t12 y175 y176 y177 y178 y179 y180 y181 y182 y183 y184 y185 y186 y187 y188 y189 y190 y191 y192 y193 y194 y195 y196 y197 y198 y199 y200 y201 y202 y203 y204 y205 y206 y207 y208 y209 y210 y211 y212 y213 y214 y215 y216 y217 y218 y219 y220 y221 y222 y223 y224 y225 y226 y227 y228 y229 y230
            have T12 := Lib.hid t12
            clear t12
            obtain ⟨ke0, ke1, ke2⟩ := KE.out _ T12.out
            go_wp2
            go_roundg (len - (j + 1))
            case measure => omega
            case rel => exact ⟨j + 1, na', _, rfl, by omega, by go_num, Lib.hid (((HC2.out.past T12.out).pl.fewer (Y := NoBlock) (fun _ h => h.elim)))⟩
          · rw [if_neg hil] at c6
            rw [decide_eq_false hil] at hh
            rw [hh, dlK_no hh] at c7
            have C6 := Lib.hid c6
            have C7 := Lib.hid c7
            have KS := Lib.hid (fun (W : World) (t : Turn NoBlock wy W) => show W.cell? ⟨x, 2, none⟩ = some (.int .i64 na') from t.cell f2 (fun h => h))
            clear c6 c7 hh hi hil f2
            cases hLL : L' with
            | nil =>
              have hm0 : m = 0 := by rw [← HM.out, hLL]; rfl
              subst hm0
              rw [show fstK L' = 0 by rw [hLL]; rfl, show fstD L' = 0 by rw [hLL]; rfl, show (!L'.isEmpty) = false by rw [hLL]; rfl] at c8
              have C8 := Lib.hid c8
              clear c8 hLL f0
              go_wp2_with (first
                | (go_at_call 26; (with_reducible refine C6.out.mono ?_); rintro e w8 ⟨rfl, rfl⟩)
                | (go_at_call 31; (with_reducible refine C7.out.mono ?_); rintro e w9 ⟨rfl, rfl⟩)
                | (go_at_call 32; (with_reducible refine C8.out.mono ?_); rintro e w10 ⟨rfl, t10⟩; have T10 := Lib.hid t10; have HC3 := Lib.hid ((HC2.out.past t10).past ((Turn.refl NoBlock w10).drew)); clear t10))
              refine pl36C _ _ _ _ _ _ _ _ _ _ _ _ _ _ _ _ _ _ _ _ _ _ _ _ _ _ _ _ _ _ _ _ _ _ _ _ _ _ _ _ _ _ _ _ _ _ _ _ _ _ _ _ _ _ _ _ _ _ _ _ _ _ _ _ _ _ _ _ _ _ _ _ _ _ _ _ _ _ _ _ _ _ _ _ _ _ _ _ _ _ _ _ _ _ _ _ _ _ _ _ _ _ _ _ _ _ _ _ _ _ _ _ _ _ _ _ _ _ _ _ _ _ _ _ _ _ _ _ _ _ _ _ _ _ _ _ _ _ _ _ _ _ _ _ _ _ _ _ _ _ _ _ _ _ _ _ _ _ _ _ _ _ _ _ _ _ _ _ _ _ _ _ _ _ _ _ _ _ _ _ _ _ _ _ _ _ _ _ _ _ _ _ _ _ _ _ _ _ _ _ _ _ _ _ _ _ _ _ _ _ _ _ _ _ _ _ _ _ _ _ _ _ _ _ _ _ _ _ _ _ _ _ _ _ _ _ _ _ _ _ _ _ _ _ _ _ _ _ _ _ _ _ _ _ _ _ _ _ _ _ _ _ _ HC3 HNK T10 KS HLE HLM (Lib.hid ?_)
              intro w12 t12 y175 y176 y177 y178 y179 y180 y181 y182 y183 y184 y185 y186 y187 y188 y189 y190 y191 y192 y193 y194 y195 y196 y197 y198 y199 y200 y201 y202 y203 y204 y205 y206 y207 y208 y209 y210 y211 y212 y213 y214 y215 y216 y217 y218 y219 y220 y221 y222 y223 y224 y225 y226 y227 y228 y229 y230
              have T12 := Lib.hid t12
              clear t12
              skip
              go_wp2
              go_roundg (len - (j + 1))
              case measure => omega
              case rel => exact ⟨j + 1, na', _, rfl, by omega, by go_num, Lib.hid (((HC2.out.past T12.out).pl.fewer (Y := NoBlock) (fun _ h => h.elim)))⟩
            | cons a r =>
              have ha : L'[0]? = some a := by rw [hLL]; rfl
              obtain ⟨g, o, hp6, y0, y1⟩ := HR2.out.row.two ha
              subst hp6
              simp only [Nat.zero_mul, Nat.add_zero] at y0 y1
              rw [show fstK L' = a.k by rw [hLL]; rfl, show fstD L' = a.d by rw [hLL]; rfl, show (!L'.isEmpty) = true by rw [hLL]; rfl] at c8
              have him1 : 0 < m := by rw [← HM.out, hLL]; simp
              have him0 : (0 : Int) < (m : Int) := by omega
              obtain ⟨ak, ad⟩ := a
              simp only at c8 y0 y1
              have C8 := Lib.hid c8
              have KE := Lib.hid (fun (W : World) (t : Turn NoBlock wy W) => show W.cell? ⟨x, 0, none⟩ = some (.slice (some ⟨g, o, none⟩) m cap6) ∧ W.cell? ⟨g, o, none⟩ = some (.int .i64 ad) ∧ W.cell? ⟨g, o + 1, none⟩ = some (.int .i64 ak) from ⟨t.cell f0 (fun h => h), t.cell y0 (fun h => h), t.cell y1 (fun h => h)⟩)
              clear c8 hLL ha f0 y0 y1
              go_wp2_with (first
                | (go_at_call 26; (with_reducible refine C6.out.mono ?_); rintro e w8 ⟨rfl, rfl⟩)
                | (go_at_call 31; (with_reducible refine C7.out.mono ?_); rintro e w9 ⟨rfl, rfl⟩)
                | (go_at_call 32; (with_reducible refine C8.out.mono ?_); rintro e w10 ⟨rfl, t10⟩; have T10 := Lib.hid t10; have HC3 := Lib.hid ((HC2.out.past t10).past ((Turn.refl NoBlock w10).drew)); clear t10))
              refine pl36B m _ _ _ _ _ _ _ _ _ _ _ _ _ _ _ _ _ _ _ _ _ _ _ _ _ _ _ _ _ _ _ _ _ _ _ _ _ _ _ _ _ _ _ _ _ _ _ _ _ _ _ _ _ _ _ _ _ _ _ _ _ _ _ _ _ _ _ _ _ _ _ _ _ _ _ _ _ _ _ _ _ _ _ _ _ _ _ _ _ _ _ _ _ _ _ _ _ _ _ _ _ _ _ _ _ _ _ _ _ _ _ _ _ _ _ _ _ _ _ _ _ _ _ _ _ _ _ _ _ _ _ _ _ _ _ _ _ _ _ _ _ _ _ _ _ _ _ _ _ _ _ _ _ _ _ _ _ _ _ _ _ _ _ _ _ _ _ _ _ _ _ _ _ _ _ _ _ _ _ _ _ _ _ _ _ _ _ _ _ _ _ _ _ _ _ _ _ _ _ _ _ _ _ _ _ _ _ _ _ _ _ _ _ _ _ _ _ _ _ _ _ _ _ _ _ _ _ _ _ _ _ _ _ _ _ _ _ _ _ _ _ _ _ _ _ _ _ _ _ _ _ _ _ _ _ _ _ _ _ _ _ _ _ HC3 HNK T10 KS HLE HLM him0 him1 (Lib.hid ?_)
              intro w12 t12 y175 y176 y177 y178 y179 y180 y181 y182 y183 y184 y185 y186 y187 y188 y189 y190 y191 y192 y193 y194 y195 y196 y197 y198 y199 y200 y201 y202 y203 y204 y205 y206 y207 y208 y209 y210 y211 y212 y213 y214 y215 y216 y217 y218 y219 y220 y221 y222 y223 y224 y225 y226 y227 y228 y229 y230
              have T12 := Lib.hid t12
              clear t12
              obtain ⟨ke0, ke1, ke2⟩ := KE.out _ T12.out
              go_wp2
              go_roundg (len - (j + 1))
              case measure => omega
              case rel => exact ⟨j + 1, na', _, rfl, by omega, by go_num, Lib.hid (((HC2.out.past T12.out).pl.fewer (Y := NoBlock) (fun _ h => h.elim)))⟩
    · have e : len = j := by omega
      subst e
      go_wp2_with (first
        | (go_at_call 22; (with_reducible refine (cA.out _).mono ?_); rintro x w9 ⟨rfl, t9⟩))
      go_ret
      exact ⟨rfl, TT HR.out.turn t9⟩
end Go.Proofs.Ytcbphfpfdfgehaa
