/-
  What the reference's Close answers, and what it makes of its channel. No conditions but that the reference's channel is one that calls can make.
-/
import Derived.Test.YtcbphfpfdfgehaaRCWrite3
import Derived.Test.YtcbphfpfdfgehaaRCRead
namespace Go.Proofs.Ytcbphfpfdfgehaa
open Go.ChangeShapes Go.WideShapes Go.ChangeAt Go.RowKit

/-- Numbers of the call's own. -/
structure NOut (w0 w : World) (v : Value) (l : List Int) : Prop where
  row : Nums v l w
  turn : Turn NoBlock w0 w
  mine : ∀ k, Blk v k → w0.heap.size ≤ k
theorem NOut.past {w0 w W : World} {v : Value} {l : List Int} (h : NOut w0 w v l) (t : Turn NoBlock w W) : NOut w0 W v l := ⟨h.row.past t, TT h.turn t, h.mine⟩
theorem NOut.app {w0 w X W : World} {v v' : Value} {l m : List Int} (h : NOut w0 w v l) (t : Turn NoBlock w X) (hr : WRow W 3 1 v' (l.length + m.length) (icells l ++ icells m)) (t8 : Turn (Blk v) X W) (k8 : ∀ k, Blk v' k → Blk v k ∨ (k = X.heap.size ∧ k < W.heap.size)) : NOut w0 W v' (l ++ m) := by
  refine ⟨?_, (TT h.turn t).trans t8 (fun k hk => .inr (h.mine k hk)), fun k hk => ?_⟩
  · unfold Nums
    rw [List.length_append, show icells (l ++ m) = icells l ++ icells m by simp [icells]]
    exact hr
  · rcases k8 k hk with h1 | h1
    · exact h.mine k h1
    · have := h.turn.size; have := t.size; omega
theorem qm_at {w : World} {p : Option Addr} {n c i : Nat} {q : QM} {l : List QM} (h : WRow w 38 3 (.slice p n c) n (qcells l)) (hn : l.length = n) (hq : l[i]? = some q) : ∃ g o, p = some ⟨g, o, none⟩ ∧ w.cell? ⟨g, o + i * 3 + 2, none⟩ = some q.vh := by
  have hi := (List.getElem?_eq_some_iff.1 hq).1
  obtain ⟨g, o, c', he, -, -, -, hce, -⟩ := h.shape (by omega)
  simp only [Value.slice.injEq] at he
  obtain ⟨rfl, -, rfl⟩ := he
  have d2 := hce (i * 3 + 2) (by omega)
  rw [qcells_at l i q hq 2 (by omega)] at d2
  exact ⟨g, o, rfl, by rw [Nat.add_assoc]; exact d2⟩
def hsQ (l : List QM) : List Int := l.flatMap (·.m.h)
theorem hsQ_next (l : List QM) (i : Nat) (q : QM) (hq : l[i]? = some q) : hsQ (l.take (i + 1)) = hsQ (l.take i) ++ q.m.h := by
  rw [List.take_add_one, hq]
  simp [hsQ]
theorem hsQ_len (l : List QM) (h : ∀ q ∈ l, q.m.h.length ≤ 64) : (hsQ l).length ≤ 64 * l.length := by
  induction l with
  | nil => simp [hsQ]
  | cons q l ih =>
    have h1 := h q (by simp)
    have h2 := ih (fun q hq => h q (by simp [hq]))
    have : hsQ (q :: l) = q.m.h ++ hsQ l := rfl
    rw [this, List.length_append, List.length_cons]
    omega
theorem who_next (l : List Wt) (i : Nat) (t : Wt) (ht : l[i]? = some t) : (l.take (i + 1)).map (·.who) = (l.take i).map (·.who) ++ [t.who] := by
  rw [List.take_add_one, ht]
  simp
/-- Those who waited, gathered, behind W1. -/
structure CL (w0 W1 w : World) (x depth : Nat) (S : Nat → MS) (U V : Nat → Value) (Q : Nat → List QM) (v : Value) (L : List Int) : Prop where
  r : RC w0 w x depth S U V Q
  old : ∀ k, RF x U V k → k < W1.heap.size
  turn : Turn (fun k => k = x) W1 w
  row : Nums v L w
  mine : ∀ k, Blk v k → W1.heap.size ≤ k
theorem CL.app {w0 W1 w X W : World} {x depth : Nat} {S : Nat → MS} {U V : Nat → Value} {Q : Nat → List QM} {v v' : Value} {L : List Int} {z : Int} (h : CL w0 W1 w x depth S U V Q v L) (t : Turn NoBlock w X) (hr : WRow W 3 1 v' (L.length + 1) (icells L ++ [.int .i64 z])) (t8 : Turn (Blk v) X W) (k8 : ∀ k, Blk v' k → Blk v k ∨ (k = X.heap.size ∧ k < W.heap.size)) : CL w0 W1 W x depth S U V Q v' (L ++ [z]) := by
  have hs := h.turn.size
  have hs2 := t.size
  refine ⟨(h.r.past t).kept t8 (fun k hk hb => by have := h.old k hk; have := h.mine k hb; omega), h.old, (h.turn.trans t (fun _ h => h.elim)).trans t8 (fun k hk => .inr (h.mine k hk)), ?_, fun k hk => ?_⟩
  · unfold Nums
    rw [List.length_append, show icells (L ++ [z]) = icells L ++ [.int .i64 z] by simp [icells]]
    exact hr
  · rcases k8 k hk with h1 | h1
    · exact h.mine k h1
    · omega
theorem CL.nil {w0 W1 w : World} {x depth : Nat} {S : Nat → MS} {U V : Nat → Value} {Q : Nat → List QM} {v : Value} {L : List Int} (h : CL w0 W1 w x depth S U V Q v L) {e : Nat} (he : e < 2) : CL w0 W1 (w.setCell ⟨x, 2 + e, none⟩ (.slice none 0 0)) x depth (updN S e ⟨(S e).op, (S e).q, []⟩) U (updN V e (.slice none 0 0)) Q v L := by
  have hx : ¬ Blk v x := blk_typed h.row h.r.typ (by decide)
  refine ⟨h.r.setV he (Turn.refl _ _) (l := []) (wrow_nil _ _ _) (fun t ht => by cases ht), fun k hk => h.old k ?_, h.turn.setCell (p := ⟨x, 2 + e, none⟩) (.inl rfl) _, Nums.kept h.row ((Turn.refl (fun k => k = x) w).setCell (p := ⟨x, 2 + e, none⟩) (.inl rfl) _) (fun k hk e1 => hx (e1 ▸ hk)), h.mine⟩
  rcases hk with hk | ⟨i, hi, hk | hk⟩
  · exact .inl hk
  · exact .inr ⟨i, hi, .inl hk⟩
  · by_cases hie : i = e
    · subst hie; rw [updN_same] at hk; exact (blk_nil k hk).elim
    · rw [updN_other _ _ hie] at hk; exact .inr ⟨i, hi, .inr hk⟩
/-- The end's queue is let go, and the end is shut. -/
theorem CL.shut {w0 w W1 w2 : World} {x depth : Nat} {S : Nat → MS} {U0 V0 U V : Nat → Value} {Q : Nat → List QM} {v vh : Value} {L LH : List Int} (h : CL w0 W1 w2 x depth S U V Q v L) (hf : ∀ k, RF x U V k → RF x U0 V0 k) (t : Turn NoBlock w W1) (hx1 : TBlk W1 x 34) (hh : Nums vh LH W1) {e : Nat} (he : e < 2) :
    Nums vh LH ((w2.setCell ⟨x, e, none⟩ (.slice none 0 0)).setCell ⟨x, 4 + e, none⟩ (.bool true)) ∧ Nums v L ((w2.setCell ⟨x, e, none⟩ (.slice none 0 0)).setCell ⟨x, 4 + e, none⟩ (.bool true)) ∧ RMk w0 w ((w2.setCell ⟨x, e, none⟩ (.slice none 0 0)).setCell ⟨x, 4 + e, none⟩ (.bool true)) x depth U0 V0 (updN S e ⟨false, [], (S e).ws⟩) := by
  have r1 := h.r.setU he (Turn.refl NoBlock w2) (u := .slice none 0 0) (l := []) (wrow_nil _ _ _) (fun q hq => by cases hq)
  have r2 := r1.setC he
  rw [updN_twice] at r2
  simp only [updN_same, List.map_nil] at r2
  have t2 : Turn (fun k => k = x) w2 ((w2.setCell ⟨x, e, none⟩ (.slice none 0 0)).setCell ⟨x, 4 + e, none⟩ (.bool true)) := ((Turn.refl (fun k => k = x) w2).setCell (p := ⟨x, e, none⟩) (.inl rfl) _).setCell (p := ⟨x, 4 + e, none⟩) (.inl rfl) _
  have hx : ¬ Blk v x := blk_typed h.row h.r.typ (by decide)
  have hvh : ¬ Blk vh x := blk_typed hh hx1 (by decide)
  have hh2 : Nums vh LH w2 := hh.kept h.turn (fun k hk e1 => hvh (e1 ▸ hk))
  refine ⟨hh2.kept t2 (fun k hk e1 => hvh (e1 ▸ hk)), h.row.kept t2 (fun k hk e1 => hx (e1 ▸ hk)), _, _, _, r2, ((TU (F := fun k => k = x) t).trans h.turn (fun _ h => .inl h)).trans t2 (fun _ h => .inl h), fun k hk => .inl (hf k ?_)⟩
  rcases hk with hk | ⟨i, hi, hk | hk⟩
  · exact .inl hk
  · by_cases hie : i = e
    · subst hie; rw [updN_same] at hk; exact (blk_nil k hk).elim
    · rw [updN_other _ _ hie] at hk; exact .inr ⟨i, hi, .inl hk⟩
  · exact .inr ⟨i, hi, .inr hk⟩
section
variable {w0 w w1 w2 : World} {x depth : Nat} {S : Nat → MS} {U V : Nat → Value} {Q : Nat → List QM}
set_option maxRecDepth 20000 in
theorem rclose_shut0 (h : RC w0 w x depth S U V Q) (ho : (S 0).op = false) :
    Calls Try.prog 47 #[.pointer (some ⟨x, 0, none⟩), .int .i64 0] w fun y w' => y = .returned (.tuple #[.slice none 0 0, .slice none 0 0, .int .i64 (-24)]) ∧ w = w' := by
  have CK := Lib.hid (show Calls Try.prog 53 #[.pointer (some ⟨x, 0, none⟩), .int .i64 0] w fun y w' => y = .returned (.int .i64 (-24)) ∧ w = w' from rcheck0 h false ho)
  clear h ho
  go_enter Try.func47, Try.ntmps47
  go_wp2_with (go_at_call 53; (with_reducible refine CK.out.mono ?_); rintro y w' ⟨rfl, rfl⟩)
  exact bodyPost_ret (v := .tuple #[.slice none 0 0, .slice none 0 0, .int .i64 (-24)]) (by rw [results_ttt rfl]; go_simp) rfl ⟨rfl, rfl⟩
set_option maxRecDepth 20000 in
set_option maxHeartbeats 4000000 in
theorem rclose_open0 (h : RC w0 w x depth S U V Q) (t0 : Turn NoBlock w0 w) (hwl : ∀ e, e < 2 → (S e).ws.length ≤ 1000000) (hql : (S 0).q.length ≤ 1000000) (ho : (S 0).op = true) :
    Calls Try.prog 47 #[.pointer (some ⟨x, 0, none⟩), .int .i64 0] w fun y w' => ∃ vh vc, y = .returned (.tuple #[vh, vc, .int .i64 0]) ∧ Nums vh ((S 0).q.flatMap (·.h)) w' ∧ Nums vc ((S 0).ws.map (·.who) ++ (S 1).ws.map (·.who)) w' ∧ RMk w0 w w' x depth U V (updN (updN S 0 ⟨false, [], []⟩) 1 ⟨(S 1).op, (S 1).q, []⟩) := by
  obtain ⟨i3, hi3, hz3, hs3, hb3⟩ := info_parts infoI
  have HI3 := Lib.hid (And.intro hi3 (And.intro hz3 (And.intro hs3 hb3)))
  have CK := Lib.hid (show Calls Try.prog 53 #[.pointer (some ⟨x, 0, none⟩), .int .i64 0] w fun y w' => y = .returned (.int .i64 0) ∧ w = w' from rcheck0 h true ho)
  have hrq := h.ru 0 (by omega)
  obtain ⟨pq, cq, hvq⟩ := hrq.sl
  have hql2 : (Q 0).length = (S 0).q.length := by rw [← h.mp 0 (by omega), List.length_map]
  obtain ⟨l, hl⟩ : ∃ l, (Q 0).length = l := ⟨_, rfl⟩
  have e2 : w.cell? ⟨x, 0, none⟩ = some (U 0) := h.cu 0 (by omega)
  rw [hvq, hl] at e2 hrq
  have HQ := Lib.hid (And.intro hrq hl)
  have hll : (l : Int) ≤ 1000000 := by omega
  have HH := Lib.hid h
  have HT0 := Lib.hid t0
  have E2 := Lib.hid e2
  obtain ⟨p0, c0, hve⟩ := (h.rv 0 (by omega)).sl
  obtain ⟨p1, c1, hvo⟩ := (h.rv 1 (by omega)).sl
  obtain ⟨n0, hne⟩ : ∃ n, (S 0).ws.length = n := ⟨_, rfl⟩
  obtain ⟨n1, hno⟩ : ∃ n, (S 1).ws.length = n := ⟨_, rfl⟩
  rw [hne] at hve
  rw [hno] at hvo
  have HV00 := Lib.hid hve
  have HV11 := Lib.hid (show updN V 0 (.slice none 0 0) 1 = .slice p1 n1 c1 by rw [updN_other _ _ (by decide)]; exact hvo)
  have HN0 := Lib.hid hne
  have HN1 := Lib.hid hno
  have HLL := Lib.hid (show (S 0).ws.length ≤ 1000000 from hwl 0 (by omega))
  have hle : (n0 : Int) ≤ 1000000 := by have := hwl 0 (by omega); omega
  have hlo2 : (n1 : Int) ≤ 1000000 := by have := hwl 1 (by omega); omega
  have lx := h.typ.lt
  clear hve hvo hne hno hwl h t0 hql ho hrq hvq hql2 hl hi3 hz3 hs3 hb3
  go_enter Try.func47, Try.ntmps47
  go_wp2_with (go_at_call 53; (with_reducible refine CK.out.mono ?_); rintro y w' ⟨rfl, rfl⟩)
  go_loopg [8, 10] l (fun z s8 s10 wr => ∃ (i lo : Nat) (p8 : Option Addr) (c8 : Nat), i ≤ l ∧ z = l - i ∧ s10 = .int .i64 (i : Int) ∧ s8 = .slice p8 lo c8 ∧ Hid (NOut w wr (.slice p8 lo c8) (hsQ ((Q 0).take i)) ∧ (hsQ ((Q 0).take i)).length = lo))
  case atStart => exact ⟨0, 0, none, 0, by omega, by omega, rfl, rfl, Lib.hid ⟨⟨wrow_nil _ _ _, Turn.refl _ _, fun k hk => (blk_nil k hk).elim⟩, rfl⟩⟩
  case round =>
    obtain ⟨i, lo, p8, c8, hi, hz, rfl, rfl, HO⟩ := hrel
    have e2 := HO.out.1.turn.cell E2.out (fun h => h)
    have lx2 := Nat.lt_of_lt_of_le lx HO.out.1.turn.size
    by_cases hlt : i < l
    · have hlti : (i : Int) < (l : Int) := by omega
      obtain ⟨q, hq⟩ : ∃ q, (Q 0)[i]? = some q := ⟨_, List.getElem?_eq_getElem (by rw [HQ.out.2]; exact hlt)⟩
      have hqm := List.mem_of_getElem? hq
      have hqi := HH.out.rd 0 (by omega) q hqm
      obtain ⟨g, o, rfl, k2⟩ := qm_at (HQ.out.1.past HO.out.1.turn) HQ.out.2 hq
      obtain ⟨ph, ch, hvh⟩ := hqi.h.sl
      rw [hvh] at k2
      have SRC := Lib.hid (show Src Try.prog 1 36 (.slice ph q.m.h.length ch) q.m.h.length (icells q.m.h) wr from hvh ▸ Rz.src ((hqi.past (TT HT0.out HO.out.1.turn)).h) 36 3 intsT (icells_one _))
      have hhl := hqi.fits.2
      have hlo := hsQ_len ((Q 0).take i) (fun q hq => (HH.out.rd 0 (by omega) q (List.mem_of_mem_take hq)).fits.2)
      rw [HO.out.2, List.length_take] at hlo
      have LB := Lib.hid (show lo + q.m.h.length ≤ maxLen ∧ (lo + q.m.h.length) * 8 ≤ 140737488355328 by unfold maxLen; omega)
      have ROW := Lib.hid (show WRow wr 3 1 (.slice p8 lo c8) lo (icells (hsQ ((Q 0).take i))) by have := HO.out.1.row; unfold Nums at this; rw [HO.out.2] at this; exact this)
      have HX := Lib.hid (hsQ_next (Q 0) i q hq)
      obtain ⟨nh, hnh⟩ : ∃ k, q.m.h.length = k := ⟨_, rfl⟩
      rw [hnh] at k2 SRC LB hhl
      have HNH := Lib.hid hnh
      clear hq hqm hqi hvh hlo hnh
      go_wp2_with (at_builtin; refine wpList_append_w rfl (.tmp 31) (.tmp 41) 36 36 rfl ROW.out i3 _ 8 intsT HI3.out.1 HI3.out.2.1 HI3.out.2.2.1 HI3.out.2.2.2 rfl rfl rfl SRC.out LB.out.1 LB.out.2 ?_; intro v9 W9 r9 t9 k9; obtain ⟨p9, c9, rfl⟩ := r9.sl; have R9 := Lib.hid (And.intro r9 (And.intro t9 k9)); clear r9 t9 k9)
      go_roundg (l - (i + 1))
      case measure => omega
      case rel =>
        refine ⟨i + 1, lo + nh, p9, c9, by omega, rfl, by go_num, rfl, Lib.hid ?_⟩
        rw [HX.out]
        exact ⟨NOut.app HO.out.1 (Turn.refl _ _) (by rw [HO.out.2, HNH.out]; exact R9.out.1) R9.out.2.1 R9.out.2.2, by rw [List.length_append, HO.out.2, HNH.out]⟩
    · have hlti : ¬ (i : Int) < (l : Int) := by omega
      obtain rfl : i = l := by omega
      have T1 := Lib.hid HO.out.1.turn
      have HO2 := Lib.hid (show Nums (.slice p8 lo c8) (hsQ (Q 0)) wr by have := HO.out.1.row; rw [← HQ.out.2, List.take_length] at this; exact this)
      obtain ⟨W1, hW1⟩ : ∃ W1, W1 = wr := ⟨_, rfl⟩
      subst hW1
      have HC0 := Lib.hid (show CL w0 W1 W1 x depth S U V Q (.slice none 0 0) [] from ⟨HH.out.past T1.out, fun k hk => Nat.lt_of_lt_of_le (HH.out.lt hk) T1.out.size, Turn.refl _ _, wrow_nil _ _ _, fun k hk => (blk_nil k hk).elim⟩)
      clear hlt hz
      go_wp2
      go_loopg [9, 11] 2 (fun g s9 s11 wr => ∃ (lc : Nat) (pc : Option Addr) (cc : Nat), s9 = .slice pc lc cc ∧ ((s11 = .int .i64 0 ∧ g = 2 ∧ Hid (CL w0 W1 wr x depth S U V Q (.slice pc lc cc) ([] : List Int) ∧ ([] : List Int).length = lc)) ∨ (s11 = .int .i64 1 ∧ g = 1 ∧ Hid (CL w0 W1 wr x depth (updN S 0 ⟨(S 0).op, (S 0).q, []⟩) U (updN V 0 (.slice none 0 0)) Q (.slice pc lc cc) ((S 0).ws.map (·.who)) ∧ ((S 0).ws.map (·.who)).length = lc)) ∨ (s11 = .int .i64 2 ∧ g = 0 ∧ Hid (CL w0 W1 wr x depth (updN (updN S 0 ⟨(S 0).op, (S 0).q, []⟩) 1 ⟨(S 1).op, (S 1).q, []⟩) U (updN (updN V 0 (.slice none 0 0)) 1 (.slice none 0 0)) Q (.slice pc lc cc) ((S 0).ws.map (·.who) ++ (S 1).ws.map (·.who)) ∧ ((S 0).ws.map (·.who) ++ (S 1).ws.map (·.who)).length = lc))))
      case atStart => exact ⟨0, none, 0, rfl, .inl ⟨rfl, rfl, Lib.hid ⟨HC0.out, rfl⟩⟩⟩
      case round =>
        obtain ⟨lc, pc, cc, rfl, three⟩ := hrel
        rcases three with ⟨rfl, hg, HC⟩ | ⟨rfl, hg, HC⟩ | ⟨rfl, hg, HC⟩
        · have vk := HC.out.1.r.cv 0 (by omega)
          have lx2 := HC.out.1.r.typ.lt
          rw [show V 0 = .slice p0 n0 c0 from HV00.out] at vk
          simp only [Nat.reduceAdd] at vk
          go_wp2
          go_loopg [9, 13] n0 (fun z s9 s13 wr2 => ∃ (i lo : Nat) (p9 : Option Addr) (c9 : Nat), i ≤ n0 ∧ z = n0 - i ∧ s13 = .int .i64 (i : Int) ∧ s9 = .slice p9 lo c9 ∧ Hid (CL w0 W1 wr2 x depth S U V Q (.slice p9 lo c9) (([] : List Int) ++ ((S 0).ws.take i).map (·.who)) ∧ (([] : List Int) ++ ((S 0).ws.take i).map (·.who)).length = lo))
          case atStart => exact ⟨0, lc, pc, cc, by omega, by omega, rfl, rfl, Lib.hid (by simpa using HC.out)⟩
          case round =>
            obtain ⟨i, lo, p9, c9, hi, hz, rfl, rfl, HL⟩ := hrel
            have vk := HL.out.1.r.cv 0 (by omega)
            have lx2 := HL.out.1.r.typ.lt
            have fx2 := HL.out.1.r.f 2
            rw [show V 0 = .slice p0 n0 c0 from HV00.out] at vk
            simp only [Nat.reduceAdd] at vk
            by_cases hlt : i < n0
            · have hlti : (i : Int) < (n0 : Int) := by omega
              obtain ⟨t, ht⟩ : ∃ t, (S 0).ws[i]? = some t := ⟨_, List.getElem?_eq_getElem (by rw [HN0.out]; exact hlt)⟩
              have hrv := HL.out.1.r.rv 0 (by omega)
              rw [show V 0 = .slice p0 n0 c0 from HV00.out, show S 0 = S 0 from rfl, HN0.out] at hrv
              obtain ⟨g, o, hpk, k0, k1⟩ := wt_cells hrv HN0.out ht
              rw [hpk] at vk
              have HX := Lib.hid (who_next (S 0).ws i t ht)
              have hle : lo ≤ 1000000 + n0 := by have h5 := HL.out.2; simp at h5; have := HLL.out; omega
              have LB := Lib.hid (show lo + 1 ≤ maxLen ∧ (lo + 1) * 8 ≤ 140737488355328 by unfold maxLen; omega)
              have ROW := Lib.hid (show WRow wr 3 1 (.slice p9 lo c9) lo (icells (([] : List Int) ++ ((S 0).ws.take i).map (·.who))) by have := HL.out.1.row; unfold Nums at this; rw [HL.out.2] at this; exact this)
              clear ht hrv hle k1 hpk
              go_wp2_with (at_builtin; refine wpList_append_w rfl (.tmp 63) (.tmp 74) 36 36 rfl (WRow.past ROW.out ((Turn.refl NoBlock _).alloc _)) i3 _ 8 intsT HI3.out.1 HI3.out.2.1 HI3.out.2.2.1 HI3.out.2.2.2 rfl rfl rfl (Rd.src (rd_new _ 3 1 #[.int .i64 t.who] rfl) 36 3 intsT (fun u hu => by simp at hu; subst hu; rfl)) LB.out.1 LB.out.2 ?_; intro v8 W8 r8 t8 k8; obtain ⟨p8', c8', rfl⟩ := r8.sl; have R8 := Lib.hid (And.intro r8 (And.intro t8 k8)); clear r8 t8 k8)
              go_roundg (n0 - (i + 1))
              case measure => omega
              case rel =>
                refine ⟨i + 1, lo + 1, p8', c8', by omega, rfl, by go_num, rfl, Lib.hid ?_⟩
                rw [HX.out, ← List.append_assoc]
                exact ⟨HL.out.1.app ((Turn.refl NoBlock wr).alloc _) (by rw [HL.out.2]; exact R8.out.1) R8.out.2.1 R8.out.2.2, by rw [List.length_append, HL.out.2]; rfl⟩
            · have hlti : ¬ (i : Int) < (n0 : Int) := by omega
              obtain rfl : i = n0 := by omega
              go_wp2
              go_roundg 1
              case measure => omega
              case rel => exact ⟨lo, p9, c9, rfl, .inr (.inl ⟨by go_num, rfl, Lib.hid ⟨by have h5 := HL.out.1.nil (e := 0) (by omega); simp only [List.nil_append] at h5; rw [show List.take i (S 0).ws = (S 0).ws from by rw [← HN0.out, List.take_length]] at h5; exact h5, by have h5 := HL.out.2; simp only [List.nil_append] at h5; rw [show List.take i (S 0).ws = (S 0).ws from by rw [← HN0.out, List.take_length]] at h5; exact h5⟩⟩)⟩
        · have vk := HC.out.1.r.cv 1 (by omega)
          have lx2 := HC.out.1.r.typ.lt
          rw [show (updN V 0 (.slice none 0 0)) 1 = .slice p1 n1 c1 from HV11.out] at vk
          simp only [Nat.reduceAdd] at vk
          go_wp2
          go_loopg [9, 13] n1 (fun z s9 s13 wr2 => ∃ (i lo : Nat) (p9 : Option Addr) (c9 : Nat), i ≤ n1 ∧ z = n1 - i ∧ s13 = .int .i64 (i : Int) ∧ s9 = .slice p9 lo c9 ∧ Hid (CL w0 W1 wr2 x depth (updN S 0 ⟨(S 0).op, (S 0).q, []⟩) U (updN V 0 (.slice none 0 0)) Q (.slice p9 lo c9) (((S 0).ws.map (·.who)) ++ ((S 1).ws.take i).map (·.who)) ∧ (((S 0).ws.map (·.who)) ++ ((S 1).ws.take i).map (·.who)).length = lo))
          case atStart => exact ⟨0, lc, pc, cc, by omega, by omega, rfl, rfl, Lib.hid (by simpa using HC.out)⟩
          case round =>
            obtain ⟨i, lo, p9, c9, hi, hz, rfl, rfl, HL⟩ := hrel
            have vk := HL.out.1.r.cv 1 (by omega)
            have lx2 := HL.out.1.r.typ.lt
            have fx2 := HL.out.1.r.f 3
            rw [show (updN V 0 (.slice none 0 0)) 1 = .slice p1 n1 c1 from HV11.out] at vk
            simp only [Nat.reduceAdd] at vk
            by_cases hlt : i < n1
            · have hlti : (i : Int) < (n1 : Int) := by omega
              obtain ⟨t, ht⟩ : ∃ t, (S 1).ws[i]? = some t := ⟨_, List.getElem?_eq_getElem (by rw [HN1.out]; exact hlt)⟩
              have hrv := HL.out.1.r.rv 1 (by omega)
              rw [show (updN V 0 (.slice none 0 0)) 1 = .slice p1 n1 c1 from HV11.out, show (updN S 0 ⟨(S 0).op, (S 0).q, []⟩) 1 = S 1 from updN_other _ _ (by decide), HN1.out] at hrv
              obtain ⟨g, o, hpk, k0, k1⟩ := wt_cells hrv HN1.out ht
              rw [hpk] at vk
              have HX := Lib.hid (who_next (S 1).ws i t ht)
              have hle : lo ≤ 1000000 + n1 := by have h5 := HL.out.2; simp at h5; have := HLL.out; omega
              have LB := Lib.hid (show lo + 1 ≤ maxLen ∧ (lo + 1) * 8 ≤ 140737488355328 by unfold maxLen; omega)
              have ROW := Lib.hid (show WRow wr 3 1 (.slice p9 lo c9) lo (icells (((S 0).ws.map (·.who)) ++ ((S 1).ws.take i).map (·.who))) by have := HL.out.1.row; unfold Nums at this; rw [HL.out.2] at this; exact this)
              clear ht hrv hle k1 hpk
              go_wp2_with (at_builtin; refine wpList_append_w rfl (.tmp 63) (.tmp 74) 36 36 rfl (WRow.past ROW.out ((Turn.refl NoBlock _).alloc _)) i3 _ 8 intsT HI3.out.1 HI3.out.2.1 HI3.out.2.2.1 HI3.out.2.2.2 rfl rfl rfl (Rd.src (rd_new _ 3 1 #[.int .i64 t.who] rfl) 36 3 intsT (fun u hu => by simp at hu; subst hu; rfl)) LB.out.1 LB.out.2 ?_; intro v8 W8 r8 t8 k8; obtain ⟨p8', c8', rfl⟩ := r8.sl; have R8 := Lib.hid (And.intro r8 (And.intro t8 k8)); clear r8 t8 k8)
              go_roundg (n1 - (i + 1))
              case measure => omega
              case rel =>
                refine ⟨i + 1, lo + 1, p8', c8', by omega, rfl, by go_num, rfl, Lib.hid ?_⟩
                rw [HX.out, ← List.append_assoc]
                exact ⟨HL.out.1.app ((Turn.refl NoBlock wr).alloc _) (by rw [HL.out.2]; exact R8.out.1) R8.out.2.1 R8.out.2.2, by rw [List.length_append, HL.out.2]; rfl⟩
            · have hlti : ¬ (i : Int) < (n1 : Int) := by omega
              obtain rfl : i = n1 := by omega
              go_wp2
              go_roundg 0
              case measure => omega
              case rel => exact ⟨lo, p9, c9, rfl, .inr (.inr ⟨by go_num, rfl, Lib.hid ⟨by have h5 := HL.out.1.nil (e := 1) (by omega); rw [show List.take i (S 1).ws = (S 1).ws from by rw [← HN1.out, List.take_length], updN_other (i := 1) (e := 0) S _ (by decide)] at h5; exact h5, by have h5 := HL.out.2; rw [show List.take i (S 1).ws = (S 1).ws from by rw [← HN1.out, List.take_length]] at h5; exact h5⟩⟩)⟩
        · have d0 := HC.out.1.r.cu 0 (by omega)
          have d1 := HC.out.1.r.cc 0 (by omega)
          have lx2 := HC.out.1.r.typ.lt
          have f0 := HC.out.1.r.f 0
          have f1 := HC.out.1.r.f 4
          obtain ⟨pu, cu, hvu⟩ := (HC.out.1.r.ru 0 (by omega)).sl
          simp only [Nat.reduceAdd] at d1
          go_wp2
          have hfin := HC.out.1.shut (U0 := U) (V0 := V) (fun k hk => by
            rcases hk with hk | ⟨i, hi, hk | hk⟩
            · exact .inl hk
            · exact .inr ⟨i, hi, .inl hk⟩
            · have h2 : i = 0 ∨ i = 1 := by omega
              rcases h2 with rfl | rfl
              · rw [updN_other _ _ (by decide), updN_same] at hk; exact (blk_nil k hk).elim
              · rw [updN_same] at hk; exact (blk_nil k hk).elim) T1.out (HH.out.typ.kept T1.out (fun h => h)) HO2.out (e := 0) (by omega)
          refine bodyPost_ret (v := .tuple #[.slice p8 lo c8, .slice pc lc cc, .int .i64 0]) (by rw [results_ttt rfl]; go_simp) rfl ⟨_, _, rfl, ?_, ?_, ?_⟩
          · have h5 : (S 0).q.flatMap (·.h) = hsQ (Q 0) := by rw [← HH.out.mp 0 (by omega)]; unfold hsQ; rw [List.flatMap_map]
            rw [h5]
            exact hfin.1
          · exact hfin.2.1
          · refine hfin.2.2.same ?_
            funext j
            by_cases h0 : j = 0
            · subst h0; simp [updN]
            · by_cases h1 : j = 1
              · subst h1; simp [updN]
              · simp [updN, h0, h1]
set_option maxRecDepth 20000 in
theorem rclose_shut1 (h : RC w0 w x depth S U V Q) (ho : (S 1).op = false) :
    Calls Try.prog 47 #[.pointer (some ⟨x, 0, none⟩), .int .i64 1] w fun y w' => y = .returned (.tuple #[.slice none 0 0, .slice none 0 0, .int .i64 (-24)]) ∧ w = w' := by
  have CK := Lib.hid (show Calls Try.prog 53 #[.pointer (some ⟨x, 0, none⟩), .int .i64 1] w fun y w' => y = .returned (.int .i64 (-24)) ∧ w = w' from rcheck1 h false ho)
  clear h ho
  go_enter Try.func47, Try.ntmps47
  go_wp2_with (go_at_call 53; (with_reducible refine CK.out.mono ?_); rintro y w' ⟨rfl, rfl⟩)
  exact bodyPost_ret (v := .tuple #[.slice none 0 0, .slice none 0 0, .int .i64 (-24)]) (by rw [results_ttt rfl]; go_simp) rfl ⟨rfl, rfl⟩
set_option maxRecDepth 20000 in
set_option maxHeartbeats 4000000 in
theorem rclose_open1 (h : RC w0 w x depth S U V Q) (t0 : Turn NoBlock w0 w) (hwl : ∀ e, e < 2 → (S e).ws.length ≤ 1000000) (hql : (S 1).q.length ≤ 1000000) (ho : (S 1).op = true) :
    Calls Try.prog 47 #[.pointer (some ⟨x, 0, none⟩), .int .i64 1] w fun y w' => ∃ vh vc, y = .returned (.tuple #[vh, vc, .int .i64 0]) ∧ Nums vh ((S 1).q.flatMap (·.h)) w' ∧ Nums vc ((S 1).ws.map (·.who) ++ (S 0).ws.map (·.who)) w' ∧ RMk w0 w w' x depth U V (updN (updN S 1 ⟨false, [], []⟩) 0 ⟨(S 0).op, (S 0).q, []⟩) := by
  obtain ⟨i3, hi3, hz3, hs3, hb3⟩ := info_parts infoI
  have HI3 := Lib.hid (And.intro hi3 (And.intro hz3 (And.intro hs3 hb3)))
  have CK := Lib.hid (show Calls Try.prog 53 #[.pointer (some ⟨x, 0, none⟩), .int .i64 1] w fun y w' => y = .returned (.int .i64 0) ∧ w = w' from rcheck1 h true ho)
  have hrq := h.ru 1 (by omega)
  obtain ⟨pq, cq, hvq⟩ := hrq.sl
  have hql2 : (Q 1).length = (S 1).q.length := by rw [← h.mp 1 (by omega), List.length_map]
  obtain ⟨l, hl⟩ : ∃ l, (Q 1).length = l := ⟨_, rfl⟩
  have e2 : w.cell? ⟨x, 1, none⟩ = some (U 1) := h.cu 1 (by omega)
  rw [hvq, hl] at e2 hrq
  have HQ := Lib.hid (And.intro hrq hl)
  have hll : (l : Int) ≤ 1000000 := by omega
  have HH := Lib.hid h
  have HT0 := Lib.hid t0
  have E2 := Lib.hid e2
  obtain ⟨p1, c1, hve⟩ := (h.rv 1 (by omega)).sl
  obtain ⟨p0, c0, hvo⟩ := (h.rv 0 (by omega)).sl
  obtain ⟨n1, hne⟩ : ∃ n, (S 1).ws.length = n := ⟨_, rfl⟩
  obtain ⟨n0, hno⟩ : ∃ n, (S 0).ws.length = n := ⟨_, rfl⟩
  rw [hne] at hve
  rw [hno] at hvo
  have HV10 := Lib.hid hve
  have HV01 := Lib.hid (show updN V 1 (.slice none 0 0) 0 = .slice p0 n0 c0 by rw [updN_other _ _ (by decide)]; exact hvo)
  have HN1 := Lib.hid hne
  have HN0 := Lib.hid hno
  have HLL := Lib.hid (show (S 1).ws.length ≤ 1000000 from hwl 1 (by omega))
  have hle : (n1 : Int) ≤ 1000000 := by have := hwl 1 (by omega); omega
  have hlo2 : (n0 : Int) ≤ 1000000 := by have := hwl 0 (by omega); omega
  have lx := h.typ.lt
  clear hve hvo hne hno hwl h t0 hql ho hrq hvq hql2 hl hi3 hz3 hs3 hb3
  go_enter Try.func47, Try.ntmps47
  go_wp2_with (go_at_call 53; (with_reducible refine CK.out.mono ?_); rintro y w' ⟨rfl, rfl⟩)
  go_loopg [8, 10] l (fun z s8 s10 wr => ∃ (i lo : Nat) (p8 : Option Addr) (c8 : Nat), i ≤ l ∧ z = l - i ∧ s10 = .int .i64 (i : Int) ∧ s8 = .slice p8 lo c8 ∧ Hid (NOut w wr (.slice p8 lo c8) (hsQ ((Q 1).take i)) ∧ (hsQ ((Q 1).take i)).length = lo))
  case atStart => exact ⟨0, 0, none, 0, by omega, by omega, rfl, rfl, Lib.hid ⟨⟨wrow_nil _ _ _, Turn.refl _ _, fun k hk => (blk_nil k hk).elim⟩, rfl⟩⟩
  case round =>
    obtain ⟨i, lo, p8, c8, hi, hz, rfl, rfl, HO⟩ := hrel
    have e2 := HO.out.1.turn.cell E2.out (fun h => h)
    have lx2 := Nat.lt_of_lt_of_le lx HO.out.1.turn.size
    by_cases hlt : i < l
    · have hlti : (i : Int) < (l : Int) := by omega
      obtain ⟨q, hq⟩ : ∃ q, (Q 1)[i]? = some q := ⟨_, List.getElem?_eq_getElem (by rw [HQ.out.2]; exact hlt)⟩
      have hqm := List.mem_of_getElem? hq
      have hqi := HH.out.rd 1 (by omega) q hqm
      obtain ⟨g, o, rfl, k2⟩ := qm_at (HQ.out.1.past HO.out.1.turn) HQ.out.2 hq
      obtain ⟨ph, ch, hvh⟩ := hqi.h.sl
      rw [hvh] at k2
      have SRC := Lib.hid (show Src Try.prog 1 36 (.slice ph q.m.h.length ch) q.m.h.length (icells q.m.h) wr from hvh ▸ Rz.src ((hqi.past (TT HT0.out HO.out.1.turn)).h) 36 3 intsT (icells_one _))
      have hhl := hqi.fits.2
      have hlo := hsQ_len ((Q 1).take i) (fun q hq => (HH.out.rd 1 (by omega) q (List.mem_of_mem_take hq)).fits.2)
      rw [HO.out.2, List.length_take] at hlo
      have LB := Lib.hid (show lo + q.m.h.length ≤ maxLen ∧ (lo + q.m.h.length) * 8 ≤ 140737488355328 by unfold maxLen; omega)
      have ROW := Lib.hid (show WRow wr 3 1 (.slice p8 lo c8) lo (icells (hsQ ((Q 1).take i))) by have := HO.out.1.row; unfold Nums at this; rw [HO.out.2] at this; exact this)
      have HX := Lib.hid (hsQ_next (Q 1) i q hq)
      obtain ⟨nh, hnh⟩ : ∃ k, q.m.h.length = k := ⟨_, rfl⟩
      rw [hnh] at k2 SRC LB hhl
      have HNH := Lib.hid hnh
      clear hq hqm hqi hvh hlo hnh
      go_wp2_with (at_builtin; refine wpList_append_w rfl (.tmp 31) (.tmp 41) 36 36 rfl ROW.out i3 _ 8 intsT HI3.out.1 HI3.out.2.1 HI3.out.2.2.1 HI3.out.2.2.2 rfl rfl rfl SRC.out LB.out.1 LB.out.2 ?_; intro v9 W9 r9 t9 k9; obtain ⟨p9, c9, rfl⟩ := r9.sl; have R9 := Lib.hid (And.intro r9 (And.intro t9 k9)); clear r9 t9 k9)
      go_roundg (l - (i + 1))
      case measure => omega
      case rel =>
        refine ⟨i + 1, lo + nh, p9, c9, by omega, rfl, by go_num, rfl, Lib.hid ?_⟩
        rw [HX.out]
        exact ⟨NOut.app HO.out.1 (Turn.refl _ _) (by rw [HO.out.2, HNH.out]; exact R9.out.1) R9.out.2.1 R9.out.2.2, by rw [List.length_append, HO.out.2, HNH.out]⟩
    · have hlti : ¬ (i : Int) < (l : Int) := by omega
      obtain rfl : i = l := by omega
      have T1 := Lib.hid HO.out.1.turn
      have HO2 := Lib.hid (show Nums (.slice p8 lo c8) (hsQ (Q 1)) wr by have := HO.out.1.row; rw [← HQ.out.2, List.take_length] at this; exact this)
      obtain ⟨W1, hW1⟩ : ∃ W1, W1 = wr := ⟨_, rfl⟩
      subst hW1
      have HC0 := Lib.hid (show CL w0 W1 W1 x depth S U V Q (.slice none 0 0) [] from ⟨HH.out.past T1.out, fun k hk => Nat.lt_of_lt_of_le (HH.out.lt hk) T1.out.size, Turn.refl _ _, wrow_nil _ _ _, fun k hk => (blk_nil k hk).elim⟩)
      clear hlt hz
      go_wp2
      go_loopg [9, 11] 2 (fun g s9 s11 wr => ∃ (lc : Nat) (pc : Option Addr) (cc : Nat), s9 = .slice pc lc cc ∧ ((s11 = .int .i64 0 ∧ g = 2 ∧ Hid (CL w0 W1 wr x depth S U V Q (.slice pc lc cc) ([] : List Int) ∧ ([] : List Int).length = lc)) ∨ (s11 = .int .i64 1 ∧ g = 1 ∧ Hid (CL w0 W1 wr x depth (updN S 1 ⟨(S 1).op, (S 1).q, []⟩) U (updN V 1 (.slice none 0 0)) Q (.slice pc lc cc) ((S 1).ws.map (·.who)) ∧ ((S 1).ws.map (·.who)).length = lc)) ∨ (s11 = .int .i64 2 ∧ g = 0 ∧ Hid (CL w0 W1 wr x depth (updN (updN S 1 ⟨(S 1).op, (S 1).q, []⟩) 0 ⟨(S 0).op, (S 0).q, []⟩) U (updN (updN V 1 (.slice none 0 0)) 0 (.slice none 0 0)) Q (.slice pc lc cc) ((S 1).ws.map (·.who) ++ (S 0).ws.map (·.who)) ∧ ((S 1).ws.map (·.who) ++ (S 0).ws.map (·.who)).length = lc))))
      case atStart => exact ⟨0, none, 0, rfl, .inl ⟨rfl, rfl, Lib.hid ⟨HC0.out, rfl⟩⟩⟩
      case round =>
        obtain ⟨lc, pc, cc, rfl, three⟩ := hrel
        rcases three with ⟨rfl, hg, HC⟩ | ⟨rfl, hg, HC⟩ | ⟨rfl, hg, HC⟩
        · have vk := HC.out.1.r.cv 1 (by omega)
          have lx2 := HC.out.1.r.typ.lt
          rw [show V 1 = .slice p1 n1 c1 from HV10.out] at vk
          simp only [Nat.reduceAdd] at vk
          go_wp2
          go_loopg [9, 13] n1 (fun z s9 s13 wr2 => ∃ (i lo : Nat) (p9 : Option Addr) (c9 : Nat), i ≤ n1 ∧ z = n1 - i ∧ s13 = .int .i64 (i : Int) ∧ s9 = .slice p9 lo c9 ∧ Hid (CL w0 W1 wr2 x depth S U V Q (.slice p9 lo c9) (([] : List Int) ++ ((S 1).ws.take i).map (·.who)) ∧ (([] : List Int) ++ ((S 1).ws.take i).map (·.who)).length = lo))
          case atStart => exact ⟨0, lc, pc, cc, by omega, by omega, rfl, rfl, Lib.hid (by simpa using HC.out)⟩
          case round =>
            obtain ⟨i, lo, p9, c9, hi, hz, rfl, rfl, HL⟩ := hrel
            have vk := HL.out.1.r.cv 1 (by omega)
            have lx2 := HL.out.1.r.typ.lt
            have fx2 := HL.out.1.r.f 3
            rw [show V 1 = .slice p1 n1 c1 from HV10.out] at vk
            simp only [Nat.reduceAdd] at vk
            by_cases hlt : i < n1
            · have hlti : (i : Int) < (n1 : Int) := by omega
              obtain ⟨t, ht⟩ : ∃ t, (S 1).ws[i]? = some t := ⟨_, List.getElem?_eq_getElem (by rw [HN1.out]; exact hlt)⟩
              have hrv := HL.out.1.r.rv 1 (by omega)
              rw [show V 1 = .slice p1 n1 c1 from HV10.out, show S 1 = S 1 from rfl, HN1.out] at hrv
              obtain ⟨g, o, hpk, k0, k1⟩ := wt_cells hrv HN1.out ht
              rw [hpk] at vk
              have HX := Lib.hid (who_next (S 1).ws i t ht)
              have hle : lo ≤ 1000000 + n1 := by have h5 := HL.out.2; simp at h5; have := HLL.out; omega
              have LB := Lib.hid (show lo + 1 ≤ maxLen ∧ (lo + 1) * 8 ≤ 140737488355328 by unfold maxLen; omega)
              have ROW := Lib.hid (show WRow wr 3 1 (.slice p9 lo c9) lo (icells (([] : List Int) ++ ((S 1).ws.take i).map (·.who))) by have := HL.out.1.row; unfold Nums at this; rw [HL.out.2] at this; exact this)
              clear ht hrv hle k1 hpk
              go_wp2_with (at_builtin; refine wpList_append_w rfl (.tmp 63) (.tmp 74) 36 36 rfl (WRow.past ROW.out ((Turn.refl NoBlock _).alloc _)) i3 _ 8 intsT HI3.out.1 HI3.out.2.1 HI3.out.2.2.1 HI3.out.2.2.2 rfl rfl rfl (Rd.src (rd_new _ 3 1 #[.int .i64 t.who] rfl) 36 3 intsT (fun u hu => by simp at hu; subst hu; rfl)) LB.out.1 LB.out.2 ?_; intro v8 W8 r8 t8 k8; obtain ⟨p8', c8', rfl⟩ := r8.sl; have R8 := Lib.hid (And.intro r8 (And.intro t8 k8)); clear r8 t8 k8)
              go_roundg (n1 - (i + 1))
              case measure => omega
              case rel =>
                refine ⟨i + 1, lo + 1, p8', c8', by omega, rfl, by go_num, rfl, Lib.hid ?_⟩
                rw [HX.out, ← List.append_assoc]
                exact ⟨HL.out.1.app ((Turn.refl NoBlock wr).alloc _) (by rw [HL.out.2]; exact R8.out.1) R8.out.2.1 R8.out.2.2, by rw [List.length_append, HL.out.2]; rfl⟩
            · have hlti : ¬ (i : Int) < (n1 : Int) := by omega
              obtain rfl : i = n1 := by omega
              go_wp2
              go_roundg 1
              case measure => omega
              case rel => exact ⟨lo, p9, c9, rfl, .inr (.inl ⟨by go_num, rfl, Lib.hid ⟨by have h5 := HL.out.1.nil (e := 1) (by omega); simp only [List.nil_append] at h5; rw [show List.take i (S 1).ws = (S 1).ws from by rw [← HN1.out, List.take_length]] at h5; exact h5, by have h5 := HL.out.2; simp only [List.nil_append] at h5; rw [show List.take i (S 1).ws = (S 1).ws from by rw [← HN1.out, List.take_length]] at h5; exact h5⟩⟩)⟩
        · have vk := HC.out.1.r.cv 0 (by omega)
          have lx2 := HC.out.1.r.typ.lt
          rw [show (updN V 1 (.slice none 0 0)) 0 = .slice p0 n0 c0 from HV01.out] at vk
          simp only [Nat.reduceAdd] at vk
          go_wp2
          go_loopg [9, 13] n0 (fun z s9 s13 wr2 => ∃ (i lo : Nat) (p9 : Option Addr) (c9 : Nat), i ≤ n0 ∧ z = n0 - i ∧ s13 = .int .i64 (i : Int) ∧ s9 = .slice p9 lo c9 ∧ Hid (CL w0 W1 wr2 x depth (updN S 1 ⟨(S 1).op, (S 1).q, []⟩) U (updN V 1 (.slice none 0 0)) Q (.slice p9 lo c9) (((S 1).ws.map (·.who)) ++ ((S 0).ws.take i).map (·.who)) ∧ (((S 1).ws.map (·.who)) ++ ((S 0).ws.take i).map (·.who)).length = lo))
          case atStart => exact ⟨0, lc, pc, cc, by omega, by omega, rfl, rfl, Lib.hid (by simpa using HC.out)⟩
          case round =>
            obtain ⟨i, lo, p9, c9, hi, hz, rfl, rfl, HL⟩ := hrel
            have vk := HL.out.1.r.cv 0 (by omega)
            have lx2 := HL.out.1.r.typ.lt
            have fx2 := HL.out.1.r.f 2
            rw [show (updN V 1 (.slice none 0 0)) 0 = .slice p0 n0 c0 from HV01.out] at vk
            simp only [Nat.reduceAdd] at vk
            by_cases hlt : i < n0
            · have hlti : (i : Int) < (n0 : Int) := by omega
              obtain ⟨t, ht⟩ : ∃ t, (S 0).ws[i]? = some t := ⟨_, List.getElem?_eq_getElem (by rw [HN0.out]; exact hlt)⟩
              have hrv := HL.out.1.r.rv 0 (by omega)
              rw [show (updN V 1 (.slice none 0 0)) 0 = .slice p0 n0 c0 from HV01.out, show (updN S 1 ⟨(S 1).op, (S 1).q, []⟩) 0 = S 0 from updN_other _ _ (by decide), HN0.out] at hrv
              obtain ⟨g, o, hpk, k0, k1⟩ := wt_cells hrv HN0.out ht
              rw [hpk] at vk
              have HX := Lib.hid (who_next (S 0).ws i t ht)
              have hle : lo ≤ 1000000 + n0 := by have h5 := HL.out.2; simp at h5; have := HLL.out; omega
              have LB := Lib.hid (show lo + 1 ≤ maxLen ∧ (lo + 1) * 8 ≤ 140737488355328 by unfold maxLen; omega)
              have ROW := Lib.hid (show WRow wr 3 1 (.slice p9 lo c9) lo (icells (((S 1).ws.map (·.who)) ++ ((S 0).ws.take i).map (·.who))) by have := HL.out.1.row; unfold Nums at this; rw [HL.out.2] at this; exact this)
              clear ht hrv hle k1 hpk
              go_wp2_with (at_builtin; refine wpList_append_w rfl (.tmp 63) (.tmp 74) 36 36 rfl (WRow.past ROW.out ((Turn.refl NoBlock _).alloc _)) i3 _ 8 intsT HI3.out.1 HI3.out.2.1 HI3.out.2.2.1 HI3.out.2.2.2 rfl rfl rfl (Rd.src (rd_new _ 3 1 #[.int .i64 t.who] rfl) 36 3 intsT (fun u hu => by simp at hu; subst hu; rfl)) LB.out.1 LB.out.2 ?_; intro v8 W8 r8 t8 k8; obtain ⟨p8', c8', rfl⟩ := r8.sl; have R8 := Lib.hid (And.intro r8 (And.intro t8 k8)); clear r8 t8 k8)
              go_roundg (n0 - (i + 1))
              case measure => omega
              case rel =>
                refine ⟨i + 1, lo + 1, p8', c8', by omega, rfl, by go_num, rfl, Lib.hid ?_⟩
                rw [HX.out, ← List.append_assoc]
                exact ⟨HL.out.1.app ((Turn.refl NoBlock wr).alloc _) (by rw [HL.out.2]; exact R8.out.1) R8.out.2.1 R8.out.2.2, by rw [List.length_append, HL.out.2]; rfl⟩
            · have hlti : ¬ (i : Int) < (n0 : Int) := by omega
              obtain rfl : i = n0 := by omega
              go_wp2
              go_roundg 0
              case measure => omega
              case rel => exact ⟨lo, p9, c9, rfl, .inr (.inr ⟨by go_num, rfl, Lib.hid ⟨by have h5 := HL.out.1.nil (e := 0) (by omega); rw [show List.take i (S 0).ws = (S 0).ws from by rw [← HN0.out, List.take_length], updN_other (i := 0) (e := 1) S _ (by decide)] at h5; exact h5, by have h5 := HL.out.2; rw [show List.take i (S 0).ws = (S 0).ws from by rw [← HN0.out, List.take_length]] at h5; exact h5⟩⟩)⟩
        · have d0 := HC.out.1.r.cu 1 (by omega)
          have d1 := HC.out.1.r.cc 1 (by omega)
          have lx2 := HC.out.1.r.typ.lt
          have f0 := HC.out.1.r.f 1
          have f1 := HC.out.1.r.f 5
          obtain ⟨pu, cu, hvu⟩ := (HC.out.1.r.ru 1 (by omega)).sl
          simp only [Nat.reduceAdd] at d1
          go_wp2
          have hfin := HC.out.1.shut (U0 := U) (V0 := V) (fun k hk => by
            rcases hk with hk | ⟨i, hi, hk | hk⟩
            · exact .inl hk
            · exact .inr ⟨i, hi, .inl hk⟩
            · have h2 : i = 1 ∨ i = 0 := by omega
              rcases h2 with rfl | rfl
              · rw [updN_other _ _ (by decide), updN_same] at hk; exact (blk_nil k hk).elim
              · rw [updN_same] at hk; exact (blk_nil k hk).elim) T1.out (HH.out.typ.kept T1.out (fun h => h)) HO2.out (e := 1) (by omega)
          refine bodyPost_ret (v := .tuple #[.slice p8 lo c8, .slice pc lc cc, .int .i64 0]) (by rw [results_ttt rfl]; go_simp) rfl ⟨_, _, rfl, ?_, ?_, ?_⟩
          · have h5 : (S 1).q.flatMap (·.h) = hsQ (Q 1) := by rw [← HH.out.mp 1 (by omega)]; unfold hsQ; rw [List.flatMap_map]
            rw [h5]
            exact hfin.1
          · exact hfin.2.1
          · refine hfin.2.2.same ?_
            funext j
            by_cases h0 : j = 1
            · subst h0; simp [updN]
            · by_cases h1 : j = 0
              · subst h1; simp [updN]
              · simp [updN, h0, h1]
end
end Go.Proofs.Ytcbphfpfdfgehaa
