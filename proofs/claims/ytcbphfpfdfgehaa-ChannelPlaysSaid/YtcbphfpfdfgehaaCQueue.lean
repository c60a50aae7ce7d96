/-
  What goes through an end's queue tells: the answers, the last one first, and then the other messages. No conditions but that the end is in memory.
-/
import Derived.Test.YtcbphfpfdfgehaaCIter
namespace Go.Proofs.Ytcbphfpfdfgehaa
open Go.RowKit Go.Shelf

attribute [local go_sem] Oper.semAt_some

/-- What the way reads. -/
structure QSees (Bs c o : Nat) (s : Sd) (v : SV) (W : World) : Prop where
  box : Boxed W Bs 111 (.pointer (some ⟨c, o, none⟩))
  at' : SAt W c o s v

theorem own_up {A : Type} {B C : Nat} {J : A → World → Prop} (h : OwnFrom B J) (hc : B ≤ C) : OwnFrom C J :=
  fun s X Y row hs hg hr => h s X Y row hs hg (fun r e => ⟨Nat.le_trans hc (hr r e).1, (hr r e).2⟩)
theorem grown_turn {w w' : World} (t : Turn NoBlock w w') : w.grownBy w' none := ⟨t.os, t.tape, t.output, t.size, fun k hk _ => t.block k hk (fun h => h)⟩
theorem own_turn {A : Type} {B : Nat} {J : A → World → Prop} (h : OwnFrom B J) {s : A} {X Y : World} (hs : J s X) (t : Turn NoBlock X Y) : J s Y :=
  h s X Y none hs (grown_turn t) (fun r e => by cases e)

theorem round_in {l2 m m' : Nat} {l : Nat} {f : FuncId} {tmps : Array Value} {assign body : Code} {w : World} {R : Ending → World → Prop} (h : RoundIn Fence.wide m Try.prog l f tmps assign body w R) : RoundIn (Fence.wide.inRound l2) m' Try.prog l f tmps assign body w R :=
  ⟨h.1, fun c cs _ => h.2 c cs (fun d hd => by cases hd)⟩
theorem round_wide {m m' : Nat} {l : Nat} {f : FuncId} {tmps : Array Value} {assign body : Code} {w : World} {R : Ending → World → Prop} (h : RoundIn Fence.wide m Try.prog l f tmps assign body w R) : RoundIn Fence.wide m' Try.prog l f tmps assign body w R :=
  ⟨h.1, fun c cs _ => h.2 c cs (fun d hd => by cases hd)⟩

set_option maxRecDepth 100000 in
set_option maxHeartbeats 4000000 in
theorem queue_gives (Bs c o : Nat) (s : Sd) (v : SV) (h1 : s.an.length ≤ 1000000000) (h2 : s.ot.length ≤ 1000000000) :
    Gives 72 #[.pointer (some ⟨Bs, 0, none⟩)] (fun q : QM => #[q.agg]) (fun pre q => (q ∈ s.an ∨ q ∈ s.ot) ∧ pre.length < s.an.length + s.ot.length) (fun xs => xs = s.q) (fun xs => xs <+: s.q) (QSees Bs c o s v) := by
  intro l J Jx W hJ hJx hJR hY h0
  have hQ := hJR [] W h0
  have b0 := hQ.box.cell
  have bl := hQ.box.lt
  have d1 := hQ.at'.c1
  have cl := hQ.at'.typ.lt
  obtain ⟨pa, ca, hva⟩ := hQ.at'.rowA.sl
  rw [hva] at d1
  have HQ := Lib.hid hQ
  have HJ := Lib.hid hJ
  have HX := Lib.hid hJx
  have HR := Lib.hid hJR
  have HY := Lib.hid hY
  have HV := Lib.hid hva
  have H1 := Lib.hid (And.intro h1 h2)
  obtain ⟨n, hn⟩ : ∃ n, s.an.length = n := ⟨_, rfl⟩
  rw [hn] at d1
  have HN := Lib.hid hn
  clear hQ hJ hJx hJR hY hva h1 h2 hn
  refine (callsIn_wide (n := 6)).1 ?_
  refine callsIn_of_wp_marks (F := Fence.wide) Try.func72 rfl trivial ?_ rfl
  simp only [Try.ntmps72, List.size_toArray, List.length_cons, List.length_nil, Nat.reduceAdd, Nat.reduceSub, Array.replicate_succ, Array.replicate_zero, List.push_toArray, List.append_toArray, List.nil_append, List.cons_append]
  gi_wp2_with (refine ⟨trivial, ?_⟩; gi_at_call 73; refine (callsIn_wide.2 (back_any _ _ _ _)).mono ?_; rintro e w' ⟨rfl, rfl⟩)
  obtain ⟨E, hE⟩ : ∃ E, W.heap.size = E := ⟨_, rfl⟩
  have hst : ((W.alloc (.cells #[.func (.yield l) #[] #[]] 136)).alloc (.cells #[.slice pa n ca] 42)).heap.size = E + 2 := by simp [hE]
  have bx2 := (Boxed.new W 136 (.func (.yield l) #[] #[])).alloc (.cells #[.slice pa n ca] 42)
  have bx3 := Boxed.new (W.alloc (.cells #[.func (.yield l) #[] #[]] 136)) 42 (.slice pa n ca)
  have hT : Turn NoBlock W ((W.alloc (.cells #[.func (.yield l) #[] #[]] 136)).alloc (.cells #[.slice pa n ca] 42)) := ((Turn.refl _ W).alloc _).alloc _
  rw [World.size_alloc, hE] at bx3
  rw [hE] at bx2
  have hJ0 : J [] ((W.alloc (.cells #[.func (.yield l) #[] #[]] 136)).alloc (.cells #[.slice pa n ca] 42)) := own_turn HJ.out h0 hT
  have hrow := (HQ.out.at'.rowA).past hT
  generalize (W.alloc (.cells #[.func (.yield l) #[] #[]] 136)).alloc (.cells #[.slice pa n ca] 42) = W0 at *
  rw [hE]
  have hsee : BSees (E + 1) (.slice pa n ca) s.an W0 := ⟨bx3, by rw [HV.out, HN.out] at hrow; rw [HN.out]; exact hrow⟩
  refine wpIn_rangeFunc_ownH (F := Fence.wide) rfl (by omega) (gf := 83) (lb := #[.pointer (some ⟨E + 1, 0, none⟩)]) rfl trivial (enters_of Try.func83 (by kernel_rfl) rfl)
    (w0 := W0) (encs := Bk.enc) (Kp := KpB (E + 1) (.slice pa n ca) s.an) (S := fun xs => bk xs = s.an.reverse) (Sp := fun pre => bk pre <+: s.an.reverse) (N := s.an.length)
    (fun i J' Jx' W' hW hJ' _ hY' h0' => bway_in 5 (by omega) i (E + 1) (.slice pa n ca) s.an H1.out.1 (fun q hq => (HQ.out.at'.ok q (.inl hq)).shown) J' Jx' W' hJ' hY' (hsee.kept (turn_of_below hW) (fun _ _ h => h)) h0') KpB.trans (KpB.put (by omega) (fun k hk => hsee.row.lt hk)) (Below.refl _ _) (fun _ => rfl)
    (fun pre X => J (bk pre) X ∧ Boxed X E 136 (.func (.yield l) #[] #[]) ∧ BSees (E + 1) (.slice pa n ca) s.an X)
    (fun c pre X => c = .ret ∧ Jx (bk pre) X) ?hI ?hIx ⟨hJ0, bx2, hsee⟩
    (fun x a' X => ∃ Bx, E + 1 < Bx ∧ X.heap[Bx]? = some (.cells #[.int .i64 x.1.2.m.tx, x.1.2.vd, x.1.2.vh] 49 (0, 0)) ∧ a' = { tmps := #[.func (.yield l) #[] #[], .pointer (some ⟨Bs, 0, none⟩), .pointer (some ⟨E, 0, none⟩), undef, .pointer (some ⟨Bx, 0, none⟩), undef, undef, .pointer (some ⟨c, o, none⟩), .pointer (some ⟨c, o, none⟩), .pointer (some ⟨c, o + 1, none⟩), .slice pa n ca, .func (.func 83) #[] #[.pointer (some ⟨E + 1, 0, none⟩)], .int .i64 ((x.1.1 : Nat) : Int), x.1.2.agg, undef, undef, undef, undef, undef, undef, undef, undef, undef, undef, undef, undef, undef, undef, undef, undef, undef, undef], defers := [] }) ?hAx ?assign ?body ?done ?stop
  case hI => exact fun s' X Y row hs hg hr => ⟨own_up HJ.out (show W.heap.size ≤ W0.heap.size by omega) _ X Y row hs.1 hg hr, hs.2.1.kept hg (fun e => by have := (hr E e.symm).1; omega), hs.2.2.kept (F := fun k => row = some k) ⟨hg.os, hg.tape, hg.output, hg.size, fun k hk hn => hg.block k hk (fun e => hn e.symm)⟩ (fun k hk e => by
      have h5 := (hr k e).1
      rcases hk with rfl | hk
      · omega
      · have := hsee.row.lt hk; omega)⟩
  case hIx => exact fun c' s' X Y row hs hg hr => ⟨hs.1, own_up HX.out (show W.heap.size ≤ W0.heap.size by omega) _ X Y row hs.2 hg hr⟩
  case hAx => 
    rintro x a' _ X Y row ⟨Bx, hb1, hb2, rfl⟩ hg hr
    refine ⟨Bx, hb1, ?_, rfl⟩
    refine (hg.block Bx (lt_of_block hb2) (fun e => ?_)).trans hb2
    obtain ⟨-, ob, ho, hc⟩ := hr Bx e.symm
    rw [hb2] at ho
    cases ho
    cases hc
  case assign =>
    rintro i pre ⟨⟨k, q⟩, hx⟩ X K hi hK
    obtain ⟨⟨p1, c1, hvd⟩, p2, c2, hvh⟩ := (HQ.out.at'.ok q (.inl (List.mem_of_getElem? hx))).shown
    have HK := Lib.hid hK
    have HI := Lib.hid hi
    have HD := Lib.hid (And.intro hvd hvh)
    dsimp only [Bk.enc, QM.agg]
    rw [hvd, hvh]
    clear hK hi hvd hvh
    have HEX := Lib.hid hsee
    clear hsee hrow hJ0 hT
    gi_wp2
    have hlt := HI.out.2.2.box.lt
    refine HK.out _ _ ((KeepsOthers.alloc _ _).from _) (fun s' => s'.kept ((Turn.refl NoBlock X).alloc _) (fun _ _ h => h)) ⟨own_turn HJ.out HI.out.1 ((Turn.refl NoBlock X).alloc _), HI.out.2.1.alloc _, HI.out.2.2.kept ((Turn.refl NoBlock X).alloc _) (fun _ _ h => h)⟩ ⟨X.heap.size, hlt, ?_, ?_⟩
    · rw [heap_alloc_new]; show _ = some (Obj.cells #[.int .i64 q.m.tx, q.vd, q.vh] 49 (0, 0)); rw [HD.out.1, HD.out.2]
    · unfold QM.agg; show _ = ({ tmps := #[.func (.yield l) #[] #[], .pointer (some ⟨Bs, 0, none⟩), .pointer (some ⟨E, 0, none⟩), undef, .pointer (some ⟨X.heap.size, 0, none⟩), undef, undef, .pointer (some ⟨c, o, none⟩), .pointer (some ⟨c, o, none⟩), .pointer (some ⟨c, o + 1, none⟩), .slice pa n ca, .func (.func 83) #[] #[.pointer (some ⟨E + 1, 0, none⟩)], .int .i64 ((k : Nat) : Int), .agg #[.int .i64 q.m.tx, q.vd, q.vh], undef, undef, undef, undef, undef, undef, undef, undef, undef, undef, undef, undef, undef, undef, undef, undef, undef, undef], defers := [] } : Act); rw [HD.out.1, HD.out.2]
  case body =>
    rintro i pre ⟨⟨k, q⟩, hx⟩ a' X hl - ⟨hJ', hB, hS⟩ ⟨Bx, hBx, hbx, rfl⟩ hpl
    obtain ⟨⟨p1, c1, hvd⟩, p2, c2, hvh⟩ := (HQ.out.at'.ok q (.inl (List.mem_of_getElem? hx))).shown
    have hXs : W.heap.size ≤ X.heap.size := by have := hB.lt; have := lt_of_block hbx; omega
    obtain ⟨fn, tmps, assign, body, hy, hR⟩ := HY.out (bk pre) q X hJ' ⟨.inl (List.mem_of_getElem? hx), by simp only [bk, List.length_map]; omega⟩ hXs
    dsimp only at hbx
    unfold QM.agg at hy ⊢
    dsimp only
    rw [hvd, hvh] at hbx hy ⊢
    have e0 := hB.cell
    obtain ⟨x0, x1, x2⟩ := box3 hbx
    have HB := Lib.hid hB
    have HS := Lib.hid hS
    have HE := Lib.hid hE
    have HST := Lib.hid hst
    obtain ⟨y, hgy⟩ : ∃ y : Bk s.an, (⟨(k, q), hx⟩ : Bk s.an) = y := ⟨_, rfl⟩
    rw [hgy]
    have hyq : y.1.2 = q := by rw [← hgy]
    have HBK := Lib.hid (show bk (pre ++ [y]) = bk pre ++ [q] by rw [← hyq]; simp [bk])
    have HRO := Lib.hid hsee
    clear hyq hgy hJ' hB hS hbx hvd hvh hE hst hsee hrow hJ0 hT h0 hXs hx
    gi_wp2
    refine (round_in hR).mono ?_
    rintro e Y ⟨⟨rfl, hJ3⟩ | ⟨rfl, hX3⟩, hk⟩
    · have HKA := Lib.hid hk
      have HJ3 := Lib.hid hJ3
      clear hk hJ3
      gi_wp2
      have hrw := (HR.out _ _ HJ3.out).at'.rowA
      rw [HV.out] at hrw
      have hb3 : BSees (E + 1) (.slice pa n ca) s.an Y := ⟨HKA.out.at (by rw [HE.out]; omega) HS.out.box (.inr ⟨_, _, .inr rfl⟩), by rw [← HN.out]; exact hrw⟩
      refine ⟨(HKA.out.mono (by have := HST.out; have := HE.out; omega)).from, fun _ => hb3, ?_, HKA.out.at (by rw [HE.out]; exact Nat.le_refl _) HB.out (.inr ⟨_, _, .inl rfl⟩), hb3⟩
      rw [HBK.out]; exact HJ3.out
    · have HKA := Lib.hid hk
      have HX3 := Lib.hid hX3
      clear hk hX3
      gi_wp2
      refine ⟨(HKA.out.mono (by have := HST.out; have := HE.out; omega)).from, rfl, ?_⟩
      rw [HBK.out]; exact HX3.out
  case done =>
    rintro D xs X hD hS ⟨hJ', hB, hSee⟩ hK
    rw [hS] at hJ'
    have hQX := HR.out _ X hJ'
    have q0 := hQX.box.cell
    have q2 := hQX.at'.c2
    obtain ⟨po, co, hvo⟩ := hQX.at'.rowO.sl
    rw [hvo] at q2
    obtain ⟨m, hm⟩ : ∃ m, s.ot.length = m := ⟨_, rfl⟩
    rw [hm] at q2
    have HVO := Lib.hid hvo
    have HM := Lib.hid hm
    have hXl := hB.lt
    have HB := Lib.hid hB
    have HE := Lib.hid hE
    have HST := Lib.hid hst
    have HKD := Lib.hid hK
    have HD := Lib.hid hD
    have hW1 : W.heap.size ≤ X.heap.size := by rw [hE]; omega
    have HW1 := Lib.hid hW1
    have HJ' := Lib.hid hJ'
    have mle : m ≤ 1000000000 := by rw [← hm]; exact H1.out.2
    clear hS hJ' hB hSee hK hQX hvo hm hE hst hsee hrow hJ0 hT h0 hD hW1 bx2 bx3 b0 d1
    gi_wp2
    gi_loopg [23] m (fun g s23 wr => ∃ j : Nat, j ≤ m ∧ g = m - j ∧ s23 = .int .i64 (j : Int) ∧ Hid (J (s.an.reverse ++ s.ot.take j) wr ∧ Boxed wr E 136 (.func (.yield l) #[] #[]) ∧ wr.heap[D]? = some (.deferred (some [])) ∧ W.heap.size ≤ wr.heap.size))
    case atStart => exact ⟨0, by omega, by omega, rfl, Lib.hid ⟨by simpa using HJ'.out, HB.out, HKD.out, HW1.out⟩⟩
    case round =>
      obtain ⟨j, hj, hg, rfl, HI⟩ := hrel
      have e0 := HI.out.2.1.cell
      have elt := HI.out.2.1.lt
      by_cases hlt : j < m
      · obtain ⟨q, hq⟩ : ∃ q, s.ot[j]? = some q := ⟨_, List.getElem?_eq_getElem (by rw [HM.out]; exact hlt)⟩
        have hQw := HR.out _ wr HI.out.1
        have hrow := hQw.at'.rowO
        rw [HVO.out] at hrow
        obtain ⟨gv, ov, cv', hve, -⟩ := hrow.shape (by rw [HM.out]; omega)
        simp only [Value.slice.injEq] at hve
        obtain ⟨rfl, -, rfl⟩ := hve
        obtain ⟨d0, d1, d2⟩ := wrow_three hrow hq
        obtain ⟨⟨p1, c1, hvd⟩, p2, c2, hvh⟩ := (hQw.at'.ok q (.inr (List.mem_of_getElem? hq))).shown
        rw [hvd] at d1
        rw [hvh] at d2
        have hta : Turn NoBlock wr (wr.alloc (.cells #[.int .i64 q.m.tx, .slice p1 q.m.d.length c1, .slice p2 q.m.h.length c2] 49)) := (Turn.refl _ wr).alloc _
        have hJa := own_turn HJ.out HI.out.1 hta
        obtain ⟨fn, tmps, assign, body, hy, hR⟩ := HY.out _ q _ hJa ⟨.inr (List.mem_of_getElem? hq), by rw [List.length_append, List.length_reverse, List.length_take, HM.out, Nat.min_eq_left hj]; omega⟩ (Nat.le_trans HI.out.2.2.2 hta.size)
        unfold QM.agg at hy
        rw [hvd, hvh] at hy
        have hjm : (j : Int) < m := by omega
        have hmm : (m : Int) ≤ 1000000000 := by omega
        have HTK := Lib.hid (show s.an.reverse ++ s.ot.take j ++ [q] = s.an.reverse ++ s.ot.take (j + 1) by rw [List.append_assoc, List.take_add_one, hq]; rfl)
        have HTA := Lib.hid hta
        clear hQw hrow hq hvd hvh hJa hta
        gi_wp2
        refine (round_wide hR).mono ?_
        rintro e Y ⟨⟨rfl, hJ3⟩ | ⟨rfl, hX3⟩, hk⟩
        · have HKA := Lib.hid hk
          have HJ3 := Lib.hid hJ3
          clear hk hJ3
          gi_wp2
          have hsz := HKA.out.size
          have hsz2 := HTA.out.size
          gi_roundg (m - (j + 1))
          case measure => omega
          case rel =>
            refine ⟨j + 1, by omega, rfl, by go_num, Lib.hid ⟨?_, ?_, ?_, by have := HI.out.2.2.2; omega⟩⟩
            · rw [← HTK.out]; exact HJ3.out
            · exact HKA.out.at (by rw [HE.out]; exact Nat.le_refl _) (HI.out.2.1.alloc _) (.inr ⟨_, _, .inl rfl⟩)
            · exact HKA.out.at (by have := HD.out; have := HE.out; have := HST.out; omega) (HTA.out.heap HI.out.2.2.1 (fun h => h)) (.inl rfl)
        · have HKA := Lib.hid hk
          have HX3 := Lib.hid hX3
          clear hk hX3
          gi_wp2
          have hdd : Y.heap[D]? = some (.deferred (some [])) := HKA.out.at (by have := HD.out; have := HE.out; have := HST.out; omega) (HTA.out.heap HI.out.2.2.1 (fun h => h)) (.inl rfl)
          refine ⟨by simp, .inl ⟨_, _, rfl, run_takeDeferred hdd, ?_⟩⟩
          refine ⟨_, results_none rfl _ _ _, ⟨_, rfl⟩, .inr ⟨_, ?_, HX.out _ _ _ (some D) HX3.out (grownBy_putObj' Y D _) (fun r e => by cases e; exact ⟨by have := HD.out; have := HE.out; have := HST.out; omega, _, hdd, rfl⟩)⟩⟩
          rw [HTK.out]
          exact (List.prefix_append_right_inj _).2 (List.take_prefix _ _)
      · obtain rfl : j = m := by omega
        gi_wp2
        refine ⟨by simp, .inl ⟨_, _, rfl, run_takeDeferred HI.out.2.2.1, ?_⟩⟩
        refine ⟨_, results_none rfl _ _ _, ⟨_, rfl⟩, .inl ⟨_, ?_, HJ.out _ _ _ (some D) HI.out.1 (grownBy_putObj' wr D _) (fun r e => by cases e; exact ⟨by have := HD.out; have := HE.out; have := HST.out; omega, _, HI.out.2.2.1, rfl⟩)⟩⟩
        rw [List.take_of_length_le (by rw [HM.out]; exact Nat.le_refl _)]
        rfl
  case stop =>
    rintro D c' pre X hD hSp ⟨rfl, hx⟩ hK
    have HK := Lib.hid hK
    have HX3 := Lib.hid hx
    have HSp := Lib.hid hSp
    gi_wp2
    refine ⟨by simp, .inl ⟨_, _, rfl, run_takeDeferred HK.out, ?_⟩⟩
    refine ⟨_, results_none rfl _ _ _, ⟨_, rfl⟩, .inr ⟨bk pre, HSp.out.trans (List.prefix_append _ _), ?_⟩⟩
    exact HX.out _ _ _ (some D) HX3.out (grownBy_putObj' X D _) (fun r e => by cases e; exact ⟨by omega, _, HK.out, rfl⟩)
end Go.Proofs.Ytcbphfpfdfgehaa
