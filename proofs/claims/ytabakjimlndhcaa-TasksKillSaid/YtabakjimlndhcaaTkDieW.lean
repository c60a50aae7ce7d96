/-
  A task dies, and all that the document says with it: die. Conditions: the tree lies in memory, and what is told already lies apart from it.
-/
import Derived.Test.YtabakjimlndhcaaTkPush
import Derived.Sort.LoopGhostIn
import Derived.Deep.LoopGhost
import Derived.WalkMore
namespace Go.Proofs.Ytabakjimlndhcaa
open Go.ChangeShapes Go.WideShapes Go.ChangeAt Go.RowKit

section
variable {w w' : World} {c n p q j i : Nat} {most code : Int} {T T' : Nat → Tk} {sv : Value} {B : Nat → Nat} {V : Nat → Value} {G G' : Nat → Nat}
variable {told vW vT vW' vT' : Value} {pre : List Int} {W W' o : List Nat}
/-- What is so ahead of a round: who waits will die as the one that was asked. -/
structure DI (w w' : World) (c : Nat) (most : Int) (n : Nat) (sv : Value) (B : Nat → Nat) (V : Nat → Value) (told : Value) (pre : List Int) (code : Int) (M : Nat) (R : (Nat → Tk) × List Nat) (T : Nat → Tk) (G : Nat → Nat) (W o : List Nat) (vW vT : Value) : Prop where
  ds : DS w w' c most n sv B V told pre T G W o vW vT
  meas : workM n T W ≤ M
  told : o.length + liveN T n ≤ n
  drain : drain n code W T o = R
theorem crit_alive (hd : DOK n T) (hp : p < n) : aliveAt n T (T p).crit = true ↔ critP T p := by
  have hc := hd.crit p hp
  unfold aliveAt critP inN plc aliveB
  by_cases h0 : (T p).crit = 0
  · rw [h0]; simp
  · have e : ((T p).crit - 1).toNat = (T p).crit.toNat - 1 := by omega
    rw [e]
    simp only [Bool.and_eq_true, decide_eq_true_eq]
    constructor
    · exact fun h => ⟨h0, h.2⟩
    · exact fun h => ⟨⟨by omega, hc.2⟩, h.2⟩
theorem alive_kid (hq : q < n) : aliveAt n T ((q : Int) + 1) = aliveB (T q) := by
  unfold aliveAt inN plc
  rw [show ((q : Int) + 1 - 1).toNat = q by omega]
  simp
  intro _
  omega
theorem ints_elem : Try.prog.underlying 53 = some (.slice (Try.prog.elem 53)) := by kernel_rfl
theorem ints_size : ∀ w, (Go.sizeOf (Try.prog.elem 53)).run Try.prog w = .ok 1 w := fun w => by kernel_rfl
set_option maxRecDepth 100000 in
set_option maxHeartbeats 8000000 in
theorem die_any {G0 : Nat → Nat} (h : KMem w c most n T sv B V G0) (hd : DOK n T) (hn : n ≤ 1000000) (hp : p < n) (code : Int) (ht : Nums told pre w) (hpl : pre.length ≤ 1000000000) (hft : ∀ k, Blk told k → ¬ KFoot c n sv B V k) :
    Calls Try.prog 78 #[tp c, told, .int .i64 ((p : Int) + 1), .int .i64 code] w fun x w' => ∃ v G', x = .returned v ∧ KMem w' c most n (die n code T p).1 sv B V G' ∧ Nums v (pre ++ numL (die n code T p).2) w' ∧ Turn (fun k => KCore c n B k ∨ Blk told k) w w' ∧ ∀ k, Blk v k → Blk told k ∨ w.heap.size ≤ k := by
  obtain ⟨pt, ct, rfl⟩ := WRow.sl ht
  obtain ⟨M, hM⟩ : ∃ M, workM n T [p] = M := ⟨_, rfl⟩
  have hM1 : M ≤ 3000000000000 := by
    have h1 : liveN T n ≤ (List.range n).length := List.countP_le_length
    rw [List.length_range] at h1
    have h2 := topM_le n T [p]
    have h3 : liveN T n * (2 * n + 4) ≤ 1000000 * (2 * 1000000 + 4) := Nat.mul_le_mul (by omega) (by omega)
    rw [← hM]
    unfold workM
    simp only [List.length_singleton]
    omega
  have start : DI w (w.alloc (.cells #[.int .i64 ((p : Int) + 1)] 3)) c most n sv B V (.slice pt pre.length ct) pre code M (die n code T p) T G0 [p] [] (.slice (some ⟨w.heap.size, 0, none⟩) 1 1) (.slice pt pre.length ct) := by
    have tA : Turn NoBlock w (w.alloc (.cells #[.int .i64 ((p : Int) + 1)] 3)) := (Turn.refl _ w).alloc _
    have hb := heap_alloc_new w (.cells #[.int .i64 ((p : Int) + 1)] 3)
    refine ⟨⟨h.past tA, hd, fun x hx => by rw [List.mem_singleton] at hx; subst hx; exact hp, ?_, ?_, fun k hk => ?_, fun k hk => .inl hk, fun k hk hk2 => ?_, fun k hk => ⟨WRow.lt ht hk, hft k hk⟩, fun k hk => h.lt hk, tA.mono (fun _ h => h.elim)⟩, Nat.le_of_eq hM, ?_, ?_⟩
    · refine ⟨rfl, .inr ⟨w.heap.size, 0, 1, rfl, Nat.le_refl _, by unfold maxLen; omega, ⟨_, hb⟩, fun j hj => ?_, fun j hj => ?_⟩⟩
      · obtain rfl : j = 0 := by simp [numL] at hj; omega
        rw [cell_at hb]
        simp [icells, numL]
      · obtain rfl : j = 0 := by omega
        rw [cell_at hb]
        rfl
    · rw [show numL [] = [] from rfl, List.append_nil]
      exact ht.past tA
    · simp [Blk, Value.ownBlock] at hk
      omega
    · simp [Blk, Value.ownBlock] at hk
      have := WRow.lt ht hk2
      omega
    · have h1 : liveN T n ≤ (List.range n).length := List.countP_le_length
      rw [List.length_range] at h1
      simpa using h1
    · rw [drain_one]
      simp
  have H0 := Lib.hid start
  unfold tp at *
  generalize hR : die n code T p = R at *
  clear start h hd ht hft hM hR
  go_enter Try.func78, Try.ntmps78
  go_wp2
  go_step3
  go_wp2
  go_step3
  go_wp2
  go_loopg [1, 9] M (fun z s1 s9 wr => ∃ (T : Nat → Tk) (G : Nat → Nat) (W o : List Nat), workM n T W ≤ z ∧ Hid (DI w wr c most n sv B V (.slice pt pre.length ct) pre code M R T G W o s9 s1))
  case atStart => exact ⟨T, G0, [p], [], H0.out.meas, H0⟩
  case round =>
    clear H0
    obtain ⟨T, G, W, o, hz, HI⟩ := hrel
    have hd := HI.out.ds
    cases W with
    | nil =>
      obtain ⟨pw, cw, hsl⟩ := WRow.sl hd.rw
      have hrl : (numL ([] : List Nat).reverse).length = 0 := rfl
      rw [hrl] at hsl
      subst hsl
      have hdr := HI.out.drain
      unfold drain at hdr
      subst hdr
      have HF := Lib.hid (show ∃ G', KMem wr c most n T sv B V G' ∧ Nums u1 (pre ++ numL o) wr ∧ Turn (fun k => KCore c n B k ∨ Blk (.slice pt pre.length ct) k) w wr ∧ ∀ k, Blk u1 k → Blk (.slice pt pre.length ct) k ∨ w.heap.size ≤ k from ⟨G, hd.mem, hd.rt, hd.turn, hd.nt⟩)
      clear hd HI
      go_wp2
      rw [Exit.noGoto_ret]
      go_ret
      exact ⟨u1, HF.out.choose, rfl, HF.out.choose_spec⟩
    | cons p W =>
      have hpn := hd.lt p List.mem_cons_self
      have hk := hd.dok
      obtain ⟨gw, ow, cw, rfl, hwc, hwm, hlast, hpop⟩ := hd.pop
      obtain ⟨gs, os, cs, hsv, hsc, hsm, hcell⟩ := hd.mem.slice (by omega)
      have hc2 := hd.mem.c2
      have HC := hcell p hpn
      rw [hsv] at hc2
      have o6 := hd.mem.o6 hpn
      have o7 := hd.mem.o7 hpn
      have hgl := (hd.mem.gone p hpn).1
      have hL : W.length + 1 ≤ 3000000000000 := by
        have := HI.out.meas
        unfold workM at this
        simp only [List.length_cons] at this
        omega
      unfold tp at *
      generalize hLW : W.length = L at *
      have HLW := Lib.hid hLW
      obtain ⟨N, hN⟩ : ∃ N, (kidL T n p).length = N := ⟨_, rfl⟩
      have HN := Lib.hid hN
      have hN6 : N ≤ 1000000 := by
        have h2 : (kidL T n p).length ≤ (List.range n).length := List.length_filter_le _ _
        rw [List.length_range] at h2
        omega
      have HK := Lib.hid hk
      clear hcell hd hpop hLW hN hgl o6 o7 hk
      obtain ⟨gM, hgM⟩ : ∃ g, g = gk := ⟨_, rfl⟩
      go_wp2
      go_loopg [9, 12] (N - G p) (fun z s9 s12 wr => ∃ G', z = N - G' p ∧ s9 = .slice (some ⟨gw, ow, none⟩) (L + 1) cw ∧ Hid (DI w wr c most n sv B V (.slice pt pre.length ct) pre code M R T G' (p :: W) o (.slice (some ⟨gw, ow, none⟩) (L + 1) cw) u1))
      case atStart => exact ⟨G, rfl, rfl, HI⟩
      case round =>
        clear HI
        obtain ⟨G', hz', rfl, HI⟩ := hrel
        have hd := HI.out.ds
        have hgl := (hd.mem.gone p hpn).1
        have o6 := hd.mem.o6 hpn
        have o7 := hd.mem.o7 hpn
        rw [HN.out] at hgl
        by_cases hlt : G' p < N
        · obtain ⟨q, hq⟩ : ∃ q, (kidL T n p)[G' p]? = some q := ⟨_, List.getElem?_eq_getElem (by rw [HN.out]; exact hlt)⟩
          have hqm := mem_kidL.1 (List.mem_of_getElem? hq)
          obtain ⟨g, ow', cap, hV, hvc, hvm, hvk⟩ := hd.mem.kids hpn (by rw [HN.out]; omega)
          have hcq := hvk (G' p) q hq
          rw [HN.out] at hV hvc
          rw [hV] at o6
          have hgN : (G' p : Int) < (N : Int) := by omega
          have HQ := Lib.hid (And.intro hq hqm)
          clear hvk hV hq hqm hd hvm
          generalize hg : G' p = gp at *
          have HG := Lib.hid hg
          clear hg
          go_upto_region 5 with (fail)
          go_quiet (fail)
          have tq : Turn NoBlock wr (wr.drewN nq) := (Turn.refl _ _).drewN _
          generalize wr.drewN nq = W1 at *
          replace o6 := tq.cell o6 (fun h => h)
          replace o7 := tq.cell o7 (fun h => h)
          replace hcq := tq.cell hcq (fun h => h)
          have TQ := Lib.hid tq
          clear tq
          go_upto_region 7 with (fail)
          go_quiet (fail)
          have tq : Turn NoBlock wr (W1.drewN nq) := TQ.out.drewN _
          generalize W1.drewN nq = W2 at *
          have ds2 := HI.out.ds.past tq
          have CA := Lib.hid (alive_any ds2.mem hn ((q : Int) + 1))
          rw [alive_kid HQ.out.2.1] at CA
          unfold tp at CA
          by_cases hqa : aliveB (T q) = true
          · rw [hqa] at CA
            obtain ⟨pp, cp, X, hap, ds3⟩ := ds2.push HQ.out.2.1 (by rw [List.length_cons, HLW.out]; omega)
            rw [List.length_cons, HLW.out] at hap ds3
            have hpa : (T p).st ≠ 2 := fun e => by
              have := HK.out.down q p HQ.out.2.1 hpn HQ.out.2.2 e
              simp [aliveB, this] at hqa
            have hqa' : (T q).st ≠ 2 := by simpa [aliveB] using hqa
            have hm := workM_push hqa' hpa (kid_gt HK.out HQ.out.2.1 HQ.out.2.2) HQ.out.2.1 W
            have hdr : drain n code (p :: W) T o = drain n code (q :: p :: W) T o := by
              have hlt' := (List.getElem?_eq_some_iff.1 HQ.out.1).1
              have hq' := (List.getElem?_eq_some_iff.1 HQ.out.1).2
              refine drain_push HK.out hpn code W o (A := (kidL T n p).take gp) (B := (kidL T n p).drop (gp + 1)) ?_ (fun j hj => ?_)
              · rw [← hq', ← List.drop_eq_getElem_cons hlt', List.take_append_drop]
              · obtain ⟨i, hi⟩ := List.getElem?_of_mem hj
                have hil := (List.getElem?_eq_some_iff.1 hi).1
                rw [List.length_take] at hil
                rw [List.getElem?_take, if_pos (by omega)] at hi
                exact (ds2.mem.gone p hpn).2 i j (by rw [HG.out]; omega) hi
            have HX := Lib.hid (show DI w X c most n sv B V (.slice pt pre.length ct) pre code M R T G' (q :: p :: W) o (.slice pp (L + 1 + 1) cp) u1 from
              ⟨ds3, by have := HI.out.meas; omega, HI.out.told, hdr ▸ HI.out.drain⟩)
            have HZ := Lib.hid (show workM n T (q :: p :: W) < gM from by omega)
            clear ds2 ds3 hpa hqa' hm hdr hqa tq
            go_wp2_with (first
              | (go_at_call 38; (with_reducible refine CA.out.mono ?_); rintro e w3 ⟨rfl, rfl⟩)
              | (at_builtin; refine Lib.wpList_append_run _ rfl (.tmp 62) (.tmp 64) 53 53 rfl _ _ rfl rfl _ _ (hap _) ?_))
            go_roundg (workM n T (q :: p :: W))
            case measure => have := HZ.out; omega
            case rel => exact ⟨T, G', q :: p :: W, o, Nat.le_refl _, HX⟩
          · rw [Bool.not_eq_true] at hqa
            rw [hqa] at CA
            have g7 := free_at (ds2.mem.obj p hpn) 7
            have o7 := ds2.mem.o7 hpn
            obtain ⟨hm, ht⟩ := ds2.mem.look hpn (by rw [HG.out]; exact HQ.out.1) (by simpa [aliveB] using hqa)
            rw [HG.out] at hm ht o7
            have HX := Lib.hid (show DI w (W2.setCell ⟨B p, 7, none⟩ (.int .i64 ((gp : Int) + 1))) c most n sv B V (.slice pt pre.length ct) pre code M R T (updN G' p (gp + 1)) (p :: W) o (.slice (some ⟨gw, ow, none⟩) (L + 1) cw) u1 from
              ⟨ds2.core ht hm HK.out, HI.out.meas, HI.out.told, HI.out.drain⟩)
            clear ds2 hm ht hqa tq
            go_wp2_with (go_at_call 38; (with_reducible refine CA.out.mono ?_); rintro e w3 ⟨rfl, rfl⟩)
            go_roundg (N - (gp + 1))
            case measure => omega
            case rel => exact ⟨updN G' p (gp + 1), by rw [updN_same], rfl, HX⟩
        · have hgN : G' p = N := by omega
          have hnlt : ¬ ((G' p : Int) < (N : Int)) := by omega
          have hV : ∃ vp vc, V p = .slice vp N vc := by
            have := WRow.sl (hd.mem.kid p hpn)
            rwa [numL_len, HN.out] at this
          obtain ⟨vp, vc, hV⟩ := hV
          rw [hV] at o6
          rw [hgN] at o7 hnlt
          clear hd
          go_upto_region 5 with (fail)
          go_quiet (fail)
          have tq : Turn NoBlock wr (wr.drewN nq) := (Turn.refl _ _).drewN _
          generalize wr.drewN nq = W1 at *
          have ds1 := HI.out.ds.past tq
          obtain ⟨gw', ow', cw', heq, hwc', -, -, dsP⟩ := ds1.pop
          simp only [Value.slice.injEq, Option.some.injEq, Addr.mk.injEq, and_true] at heq
          obtain ⟨⟨rfl, rfl⟩, -, rfl⟩ := heq
          rw [HLW.out] at dsP
          have o2 := dsP.mem.o2 hpn
          have hsl := sl_hi 53 1 ints_elem ints_size gw ow (L + 1) cw L (by omega)
          have hgo : G' p = (kidL T n p).length := by rw [hgN, HN.out]
          clear ds1 tq o7 o6 hgl
          by_cases hdd : (T p).st = 2
          · rw [hdd] at o2
            have hwm' := workM_dead hdd W (n := n)
            have HX := Lib.hid (show DI w W1 c most n sv B V (.slice pt pre.length ct) pre code M R T G' W o (.slice (some ⟨gw, ow, none⟩) L cw) u1 from
              ⟨dsP, by have := HI.out.meas; omega, HI.out.told, (drain_dead n code W T o hdd) ▸ HI.out.drain⟩)
            have HZ := Lib.hid (show workM n T W < gM from by omega)
            clear dsP hwm'
            go_wp2
            go_roundg (workM n T W)
            case measure => have := HZ.out; omega
            case rel => exact ⟨T, G', W, o, Nat.le_refl _, HX⟩
          · have hdb : ((T p).st == 2) = false := by simpa using hdd
            have hall := dsP.mem.all hpn hgo
            have CE := Lib.hid (end_any dsP.mem HK.out hn hpn hdd code (live_pos hpn hdd))
            have HP := Lib.hid (And.intro dsP hall)
            unfold tp at CE
            clear dsP hall
            generalize hst : (T p).st = st at *
            have HST := Lib.hid hst
            clear hst
            go_upto_region 13 with (go_at_call 91; (with_reducible refine CE.out.mono ?_); rintro e w5 ⟨rfl, m5, t5⟩; have M5 := Lib.hid (And.intro m5 t5); clear m5 t5)
            have hln : liveN T n ≤ (List.range n).length := List.countP_le_length
            have hle := live_end hpn (show (T p).st ≠ 2 by rw [HST.out]; exact hdd) code
            have htd := HI.out.told
            rw [List.length_range] at hln
            have ds5 := HP.out.1.core M5.out.2 M5.out.1 (HK.out.end hpn HP.out.2)
            obtain ⟨pt6, ct6, X6, hap6, ds6⟩ := ds5.tell p (by omega)
            have o5 := ds6.mem.o5 hpn
            rw [(endT_par T code p p).2.1] at o5
            have CA := Lib.hid (alive_any ds6.mem hn (T p).crit)
            have hcr := crit_alive ds6.dok hpn
            rw [(endT_par T code p p).2.1] at hcr
            have hcb := HK.out.crit p hpn
            obtain ⟨d1, d2⟩ := drain_leaf HK.out hpn (show (T p).st ≠ 2 by rw [HST.out]; exact hdd) HP.out.2 code W o
            have w1 := workM_end (n := n) hpn (show (T p).st ≠ 2 by rw [HST.out]; exact hdd) code W (((T p).crit.toNat - 1) :: W) (by simp)
            have w2 := workM_end (n := n) hpn (show (T p).st ≠ 2 by rw [HST.out]; exact hdd) code W W (by omega)
            have hms := HI.out.meas
            unfold tp at CA
            clear M5 CE HP ds5
            generalize hpo : pre.length + o.length + 1 = po at *
            clear hpo
            by_cases hc : critP (endT T code p) p
            · rw [hcr.2 hc] at CA
              have hc0 : (T p).crit ≠ 0 := by have := hc.1; rwa [(endT_par T code p p).2.1] at this
              obtain ⟨pp, cp, X, hap, ds7⟩ := ds6.push (q := (T p).crit.toNat - 1) (by omega) (by rw [HLW.out]; omega)
              rw [HLW.out, show (((T p).crit.toNat - 1 : Nat) : Int) + 1 = (T p).crit by omega] at hap
              rw [HLW.out] at ds7
              have HX := Lib.hid (show DI w X c most n sv B V (.slice pt pre.length ct) pre code M R (endT T code p) G' (((T p).crit.toNat - 1) :: W) (o ++ [p]) (.slice pp (L + 1) cp) (.slice pt6 po ct6) from
                ⟨ds7, by omega, by simp only [List.length_append, List.length_singleton]; omega, (d1 hc) ▸ HI.out.drain⟩)
              have HZ := Lib.hid (show workM n (endT T code p) (((T p).crit.toNat - 1) :: W) < gM from by omega)
              clear ds6 ds7 d1 d2 w1 w2 hcr hc hms
              generalize (T p).crit = cr at *
              go_wp2_with (first
                | (go_at_call 38; (with_reducible refine CA.out.mono ?_); rintro e w3 ⟨rfl, rfl⟩)
                | (at_builtin; refine Lib.wpList_append_run _ rfl (.tmp 81) (.tmp 83) 53 53 rfl _ _ rfl rfl _ _ (hap6 _) ?_)
                | (at_builtin; refine Lib.wpList_append_run _ rfl (.tmp 92) (.tmp 98) 53 53 rfl _ _ rfl rfl _ _ (hap _) ?_))
              go_roundg (workM n (endT T code p) ((cr.toNat - 1) :: W))
              case measure => have := HZ.out; omega
              case rel => exact ⟨endT T code p, G', (cr.toNat - 1) :: W, o ++ [p], Nat.le_refl _, HX⟩
            · have hcf : aliveAt n (endT T code p) (T p).crit = false := by
                rw [Bool.eq_false_iff]
                exact fun h => hc (hcr.1 h)
              rw [hcf] at CA
              have HX := Lib.hid (show DI w X6 c most n sv B V (.slice pt pre.length ct) pre code M R (endT T code p) G' W (o ++ [p]) (.slice (some ⟨gw, ow, none⟩) L cw) (.slice pt6 po ct6) from
                ⟨ds6, by omega, by simp only [List.length_append, List.length_singleton]; omega, (d2 hc) ▸ HI.out.drain⟩)
              have HZ := Lib.hid (show workM n (endT T code p) W < gM from by omega)
              clear ds6 d1 d2 w1 w2 hcr hc hms hcf
              generalize (T p).crit = cr at *
              go_wp2_with (first
                | (go_at_call 38; (with_reducible refine CA.out.mono ?_); rintro e w3 ⟨rfl, rfl⟩)
                | (at_builtin; refine Lib.wpList_append_run _ rfl (.tmp 81) (.tmp 83) 53 53 rfl _ _ rfl rfl _ _ (hap6 _) ?_))
              go_roundg (workM n (endT T code p) W)
              case measure => have := HZ.out; omega
              case rel => exact ⟨endT T code p, G', W, o ++ [p], Nat.le_refl _, HX⟩
end
end Go.Proofs.Ytabakjimlndhcaa
