/-
  What the reference's Write answers where both ends are open, and what it makes of its channel. No conditions but that the reference's channel is one that calls can make.
-/
import Derived.Test.YtcbphfpfdfgehaaRCWrite
import Derived.Deep.RegionWith
namespace Go.Proofs.Ytcbphfpfdfgehaa
open Go.ChangeShapes Go.WideShapes Go.ChangeAt Go.RowKit

theorem fresh8 {W2 X W8 : World} {v : Value} (t : Turn NoBlock W2 X) (k8 : ∀ k, Blk v k → Blk (.slice none 0 0) k ∨ (k = X.heap.size ∧ k < W8.heap.size)) : ∀ k, Blk v k → W2.heap.size ≤ k := by
  intro k hk
  have := t.size
  rcases k8 k hk with h | h
  · exact (blk_nil k h).elim
  · omega
theorem turn9 {W2 W8 X W9 : World} {v : Value} (t8 : Turn NoBlock W2 W8) (t : Turn NoBlock W8 X) (t9 : Turn (Blk v) X W9) (hf : ∀ k, Blk v k → W2.heap.size ≤ k) : Turn NoBlock W2 W9 := (TT t8 t).trans t9 (fun k hk => .inr (hf k hk))
theorem fresh9 {W2 W8 X W9 : World} {v v' : Value} (t8 : Turn NoBlock W2 W8) (t : Turn NoBlock W8 X) (k9 : ∀ k, Blk v' k → Blk v k ∨ (k = X.heap.size ∧ k < W9.heap.size)) (hf : ∀ k, Blk v k → W2.heap.size ≤ k) : ∀ k, Blk v' k → W2.heap.size ≤ k := by
  intro k hk
  have := t8.size
  have := t.size
  rcases k9 k hk with h | h
  · exact hf k h
  · omega
section
variable {w0 w w1 w2 : World} {x depth : Nat} {S : Nat → MS} {U V : Nat → Value} {Q : Nat → List QM}
theorem cw_hit0 (m : Msg) (ho : (S 0).op = true) (hp : (S 1).op = true) (hf : m.fits) {i : Nat} {t : Wt} (ht : (S 1).ws[i]? = some t) (hk : t.tx = m.tx) (hno : ∀ j, j < i → ∀ u, (S 1).ws[j]? = some u → u.tx ≠ m.tx) :
    cwS depth S 0 m = 0 ∧ cwN depth S 0 m = t.who ∧ cwK depth S 0 m = updN S 1 (msAns (S 1) i m) := by
  have hi : hitI S 0 m = i := find_at (l := (S 1).ws) ht (by simpa using hk) (fun j hj u hu => by simpa using hno j hj u hu)
  have hl := (List.getElem?_eq_some_iff.1 ht).1
  have hl2 : i < (S (oth 0)).ws.length := hl
  have hs : cwS depth S 0 m = 0 := by
    unfold cwS
    rw [if_neg (by rw [ho]; decide), if_neg (by have := hf.1; have := hf.2; omega), if_neg (show ¬ (S (oth 0)).op = false by rw [show oth 0 = 1 from rfl, hp]; decide), hi, if_pos hl2]
  refine ⟨hs, ?_, ?_⟩
  · unfold cwN
    rw [if_pos hs, hi, show (S (oth 0)).ws[i]? = some t from ht]
  · unfold cwK
    rw [if_pos hs, hi, if_pos hl2]
    rfl
theorem cw_none0 (m : Msg) (ho : (S 0).op = true) (hp : (S 1).op = true) (hf : m.fits) (hno : ∀ j, j < (S 1).ws.length → ∀ u, (S 1).ws[j]? = some u → u.tx ≠ m.tx) :
    (depth ≤ (S 1).q.length → cwS depth S 0 m = -22 ∧ cwN depth S 0 m = 0 ∧ cwK depth S 0 m = S) ∧ ((S 1).q.length < depth → cwS depth S 0 m = 0 ∧ cwN depth S 0 m = -1 ∧ cwK depth S 0 m = updN S 1 (msAdd (S 1) m)) := by
  have hi : hitI S 0 m = (S (oth 0)).ws.length := find_no (l := (S 1).ws) (fun j hj u hu => by simpa using hno j hj u hu)
  have hi2 : ¬ hitI S 0 m < (S (oth 0)).ws.length := by omega
  have e0 : cwS depth S 0 m = if depth ≤ (S 1).q.length then -22 else 0 := by
    unfold cwS
    rw [if_neg (by rw [ho]; decide), if_neg (by have := hf.1; have := hf.2; omega), if_neg (show ¬ (S (oth 0)).op = false by rw [show oth 0 = 1 from rfl, hp]; decide), if_neg hi2]
    rfl
  constructor
  · intro h
    rw [if_pos h] at e0
    refine ⟨e0, ?_, ?_⟩
    · unfold cwN; rw [e0, if_neg (by decide)]
    · unfold cwK; rw [e0, if_neg (by decide)]
  · intro h
    rw [if_neg (by omega)] at e0
    refine ⟨e0, ?_, ?_⟩
    · unfold cwN; rw [if_pos e0, List.getElem?_eq_none (by omega)]
    · unfold cwK; rw [if_pos e0, if_neg hi2]; rfl
set_option maxRecDepth 20000 in
set_option maxHeartbeats 4000000 in
theorem rwrite_yes0 (h : RC w0 w x depth S U V Q) (hwl : (S 1).ws.length ≤ 1000000) (hql : (S 1).q.length ≤ 1000000) (ho : (S 0).op = true) (hp : (S 1).op = true) (m : Msg) (hf : m.fits) (vd vh : Value) (hd : RzB w0 vd m.d) (hh : RzI w0 vh m.h) :
    Calls Try.prog 39 #[.pointer (some ⟨x, 0, none⟩), .int .i64 0, .agg #[.int .i64 m.tx, vd, vh]] w fun y w' => y = .returned (.tuple #[.int .i64 (cwN depth S 0 m), .int .i64 (cwS depth S 0 m)]) ∧ RMk w0 w w' x depth U V (cwK depth S 0 m) := by
  obtain ⟨iM, hiM, hzM, hsM, hbM⟩ := info_parts infoRM
  have HIM := Lib.hid (And.intro hiM (And.intro hzM (And.intro hsM hbM)))
  obtain ⟨p1, c1, hv1⟩ := hd.sl
  obtain ⟨p2, c2, hv2⟩ := hh.sl
  have QI := Lib.hid (show QIn w0 ⟨m, vd, vh⟩ from ⟨hd, hh, hf⟩)
  subst hv1 hv2
  have CK := Lib.hid (fun W (t : Turn NoBlock w W) => show Calls Try.prog 53 #[.pointer (some ⟨x, 0, none⟩), .int .i64 0] W fun y w' => y = .returned (.int .i64 0) ∧ W = w' from rcheck0 (h.past t) true ho)
  have HIT := Lib.hid (fun i t (ht : (S 1).ws[i]? = some t) hk hno => cw_hit0 (depth := depth) m ho hp hf (i := i) (t := t) ht hk hno)
  have HNO := Lib.hid (fun hno => cw_none0 (depth := depth) (S := S) m ho hp hf hno)
  have hrow := h.rv 1 (by omega)
  have hrq := h.ru 1 (by omega)
  obtain ⟨pw, cw, hvw⟩ := hrow.sl
  obtain ⟨pq, cq, hvq⟩ := hrq.sl
  have hql2 : (Q 1).length = (S 1).q.length := by rw [← h.mp 1 (by omega), List.length_map]
  obtain ⟨n, hn⟩ : ∃ n, (S 1).ws.length = n := ⟨_, rfl⟩
  obtain ⟨l, hl⟩ : ∃ l, (S 1).q.length = l := ⟨_, rfl⟩
  have d0 : w.cell? ⟨x, 5, none⟩ = some (.bool (!(S 1).op)) := h.cc 1 (by omega)
  have d1 : w.cell? ⟨x, 3, none⟩ = some (V 1) := h.cv 1 (by omega)
  have d2 : w.cell? ⟨x, 1, none⟩ = some (U 1) := h.cu 1 (by omega)
  have d3 := h.c6
  rw [hp] at d0
  rw [hvw, hn] at d1
  rw [hvq, hql2, hl] at d2
  have CW := Lib.hid (fun W (t : Turn NoBlock w W) k => rwithout W (V 1) (S 1).ws k (hrow.past t) (by omega))
  rw [hvw, hn] at CW hrow
  rw [hvq, hql2, hl] at hrq
  have HR := Lib.hid (And.intro hrow (And.intro hn (And.intro hrq (And.intro hql2 hl))))
  rw [hn] at hwl
  rw [hl] at hql
  have hln : (n : Int) ≤ 1000000 := by omega
  have hll : (l : Int) ≤ 1000000 := by omega
  have g1 : ¬ (4096 : Int) < m.d.length := by have := hf.1; omega
  have g2 : ¬ (64 : Int) < m.h.length := by have := hf.2; omega
  have HH := Lib.hid h
  obtain ⟨n1, hn1⟩ : ∃ n, m.d.length = n := ⟨_, rfl⟩
  obtain ⟨n2, hn2⟩ : ∃ n, m.h.length = n := ⟨_, rfl⟩
  rw [hn1] at g1
  rw [hn2] at g2
  rw [hn1, hn2] at QI
  simp only [hn1, hn2]
  obtain ⟨B, hB⟩ : ∃ B, w.heap.size = B := ⟨_, rfl⟩
  have lx := h.typ.lt
  have t1 := (Turn.refl NoBlock w).alloc (.cells #[.int .i64 m.tx, .slice p1 n1 c1, .slice p2 n2 c2] 38)
  have bx := heap_alloc_new w (.cells #[.int .i64 m.tx, .slice p1 n1 c1, .slice p2 n2 c2] 38)
  rw [hB] at bx
  have HW := Lib.hid (show ∀ W, Turn NoBlock (w.alloc (.cells #[.int .i64 m.tx, .slice p1 n1 c1, .slice p2 n2 c2] 38)) W → W.cell? ⟨B, 0, none⟩ = some (.int .i64 m.tx) ∧ W.cell? ⟨B, 1, none⟩ = some (.slice p1 n1 c1) ∧ W.cell? ⟨B, 2, none⟩ = some (.slice p2 n2 c2) ∧ B < W.heap.size ∧ W.cell? ⟨x, 3, none⟩ = some (.slice pw n cw) ∧ W.cell? ⟨x, 1, none⟩ = some (.slice pq l cq) ∧ W.cell? ⟨x, 6, none⟩ = some (.int .i64 (depth : Int)) ∧ x < W.heap.size ∧ Turn NoBlock w W ∧ TBlk W x 34 from fun W t => by
    have b := box3 (t.heap bx (fun h => h))
    have tt := TT t1 t
    exact ⟨b.1, b.2.1, b.2.2, lt_of_block (t.heap bx (fun h => h)), tt.cell d1 (fun h => h), tt.cell d2 (fun h => h), tt.cell d3 (fun h => h), Nat.lt_of_lt_of_le lx tt.size, tt, h.typ.kept tt (fun h => h)⟩)
  have HB := Lib.hid hB
  have d0' := t1.cell d0 (fun h => h)
  have hz : (m.tx = 0 ∨ m.tx ≠ 0) := by omega
  clear h hd hh hf ho hp hrow hrq hvw hvq hql2 hn hl hwl hql hn1 hn2 t1 bx d0 d1 d2 d3 lx hiM hzM hsM hbM
  go_enter Try.func39, Try.ntmps39
  go_wp2_with (go_at_call 53; (with_reducible refine (CK.out _ ((Turn.refl _ _).alloc _)).mono ?_); rintro y w' ⟨rfl, rfl⟩)
  try simp only [HB.out]
  generalize w.alloc (.cells #[.int .i64 m.tx, .slice p1 n1 c1, .slice p2 n2 c2] 38) = W1 at *
  go_loopg [10] n (fun z s10 wr => ∃ i : Nat, i ≤ n ∧ z = n - i ∧ s10 = .int .i64 (i : Int) ∧ Hid (Turn NoBlock W1 wr) ∧ Hid (∀ j, j < i → ∀ u, (S 1).ws[j]? = some u → u.tx ≠ m.tx))
  case atStart => exact ⟨0, by omega, by omega, rfl, Lib.hid (Turn.refl _ _), Lib.hid (fun j hj => by omega)⟩
  case round =>
    obtain ⟨i, hi, hz2, rfl, HT, HI⟩ := hrel
    obtain ⟨b0, b1, b2, bl, e1, e2, e3, lx, -, -⟩ := HW.out _ HT.out
    by_cases hlt : i < n
    · have hlti : (i : Int) < (n : Int) := by omega
      obtain ⟨t, ht⟩ : ∃ t, (S 1).ws[i]? = some t := ⟨_, List.getElem?_eq_getElem (by rw [HR.out.2.1]; exact hlt)⟩
      obtain ⟨g, o, rfl, k0, k1⟩ := wt_cells (HR.out.1.past (HW.out _ HT.out).2.2.2.2.2.2.2.2.1) HR.out.2.1 ht
      have htz := HH.out.nz 1 (by omega) t (List.mem_of_getElem? ht)
      by_cases hk : t.tx = m.tx
      · have hb : (t.tx == m.tx) = true := by simpa using hk
        have hb2 : (m.tx != 0) = true := by rw [← hk]; simpa using htz
        have HF := Lib.hid (HIT.out i t ht hk HI.out)
        clear ht hk htz hz
        go_wp2
        go_quiet (fail)
        go_upto_region 14 with (fail)
        have T2 := Lib.hid (TT HT.out ((Turn.refl NoBlock wr).drewN nq))
        generalize wr.drewN nq = W2 at *
        obtain ⟨b0, b1, b2, bl, e1, e2, e3, lx, -, -⟩ := HW.out _ T2.out
        clear HT k0 k1
        go_region_with (first | (go_at_call 69; (with_reducible refine (CW.out _ (TT (HW.out _ T2.out).2.2.2.2.2.2.2.2.1 (Turn.refl _ _).drew) i).mono ?_); rintro y w2 ⟨u, rfl, u2⟩; have U2 := Lib.hid u2; have c2 := u2.turn.cell (show World.cell? W2.drew ⟨x, 3, none⟩ = _ from e1) (fun h => h); have f2 := ((HW.out _ T2.out).2.2.2.2.2.2.2.2.2.kept (TT (Turn.refl NoBlock W2).drew u2.turn) (fun h => h)).free 3; have l2 := ((HW.out _ T2.out).2.2.2.2.2.2.2.2.2.kept (TT (Turn.refl NoBlock W2).drew u2.turn) (fun h => h)).lt; obtain ⟨pu, cu, rfl⟩ := u2.row.sl; clear u2))
        all_goals
          go_upto_region 15 with (fail)
          have hBx : B ≠ x := by have := HH.out.typ.lt; have := HB.out; omega
          have TA := Lib.hid (TT (HW.out _ T2.out).2.2.2.2.2.2.2.2.1 (TT (Turn.refl NoBlock W2).drew U2.out.turn))
          have TB := TT (Turn.refl NoBlock W2).drew U2.out.turn
          have TX : Turn (fun k => k = x) W2 (w2.setCell ⟨x, 3, none⟩ (.slice pu ((S 1).ws.eraseIdx i).length cu)) := (TU (F := fun k => k = x) TB).setCell (p := ⟨x, 3, none⟩) (.inl rfl) _
          have b0 := TX.cell b0 hBx
          have b1 := TX.cell b1 hBx
          have b2 := TX.cell b2 hBx
          have bl := Nat.lt_of_lt_of_le bl TX.size
          have e2 : (w2.setCell ⟨x, 3, none⟩ (.slice pu ((S 1).ws.eraseIdx i).length cu)).cell? ⟨x, 1, none⟩ = some (.slice pq l cq) := by rw [cell_set_other (by decide)]; exact TB.cell e2 (fun h => h)
          have ty : TBlk (w2.setCell ⟨x, 3, none⟩ (.slice pu ((S 1).ws.eraseIdx i).length cu)) x 34 := ((HW.out _ T2.out).2.2.2.2.2.2.2.2.2.kept TB (fun h => h)).set _ _ _
          have rq : WRow (w2.setCell ⟨x, 3, none⟩ (.slice pu ((S 1).ws.eraseIdx i).length cu)) 38 3 (.slice pq l cq) l (qcells (Q 1)) := WRow.setC (HR.out.2.2.1.past TA.out) ((HW.out _ T2.out).2.2.2.2.2.2.2.2.2.kept TB (fun h => h)) (by decide)
          clear TX TB e1 e3 lx c2 f2 l2
          obtain ⟨W3, hW3⟩ : ∃ W3, w2.setCell ⟨x, 3, none⟩ (.slice pu ((S 1).ws.eraseIdx i).length cu) = W3 := ⟨_, rfl⟩
          rw [hW3] at b0 b1 b2 bl e2 ty rq ⊢
          have H3 := Lib.hid (And.intro hW3 (And.intro ty rq))
          obtain ⟨B3, hB3⟩ : ∃ B3, W3.heap.size = B3 := ⟨_, rfl⟩
          have hB3x : B3 ≠ x := by have := ty.lt; omega
          clear hW3 rq
          go_upto_region 16 with (fail)
          have T4 := (Turn.refl NoBlock W3).alloc (.cells #[.int .i64 m.tx, .slice p1 n1 c1, .slice p2 n2 c2] 38)
          have R4 : WRow (W3.alloc (.cells #[.int .i64 m.tx, .slice p1 n1 c1, .slice p2 n2 c2] 38)) 38 3 (.slice (some ⟨B3, 0, none⟩) 1 1) 1 [.int .i64 m.tx, .slice p1 n1 c1, .slice p2 n2 c2] := wrow_heap (cs := #[.int .i64 m.tx, .slice p1 n1 c1, .slice p2 n2 c2]) (by rw [← hB3]; exact heap_alloc_new W3 _) rfl
          obtain ⟨W4, hW4⟩ : ∃ W4, W3.alloc (.cells #[.int .i64 m.tx, .slice p1 n1 c1, .slice p2 n2 c2] 38) = W4 := ⟨_, rfl⟩
          rw [hW4] at T4 R4 ⊢
          have e2 := T4.cell e2 (fun h => h)
          have lx := Nat.lt_of_lt_of_le ty.lt T4.size
          have ROW4 := Lib.hid R4
          have RQ4 := Lib.hid (H3.out.2.2.past T4)
          have TY4 := Lib.hid (ty.kept T4 (fun h => h))
          have HT4 := Lib.hid T4
          have ONE := Lib.hid (qcells_one (HH.out.rd 1 (by omega)))
          have LB := Lib.hid (show 1 + l ≤ maxLen ∧ (1 + l) * 56 ≤ 140737488355328 by unfold maxLen; omega)
          have HNB := Lib.hid (show ¬ Blk (.slice (some ⟨B3, 0, none⟩) 1 1) x by simp [Blk, Value.ownBlock]; exact hB3x)
          have HB3 := Lib.hid hB3
          clear T4 R4 hW4 ty hB3x b0 b1 b2 bl
          go_region_law (first
            | (refine step_append_r rfl (.tmp 94) (.tmp 100) 28 28 rfl (ROW4.out.past (show Turn NoBlock W4 _ from (by (repeat (first | with_reducible exact Turn.refl _ _ | with_reducible refine Turn.drew ?_ | with_reducible refine Turn.alloc ?_ _))))) iM _ 56 rmsgs2 HIM.out.1 HIM.out.2.1 HIM.out.2.2.1 HIM.out.2.2.2 (by rfl) (by rfl) (by rfl) (WRow.src (RQ4.out.past (show Turn NoBlock W4 _ from (by (repeat (first | with_reducible exact Turn.refl _ _ | with_reducible refine Turn.drew ?_ | with_reducible refine Turn.alloc ?_ _))))) 28 rmsgs2 ONE.out) LB.out.1 LB.out.2 ?_; intro v9 W9 z9 r9 t9 k9; clear z9; obtain ⟨p9, c9, rfl⟩ := r9.sl; have R9 := Lib.hid (And.intro r9 (And.intro t9 k9)); have c9x := t9.cell (p := ⟨x, 1, none⟩) ((show Turn NoBlock W4 _ from (by (repeat (first | with_reducible exact Turn.refl _ _ | with_reducible refine Turn.drew ?_ | with_reducible refine Turn.alloc ?_ _)))).cell e2 (fun h => h)) HNB.out; have f9x := ((TY4.out.kept (show Turn NoBlock W4 _ from (by (repeat (first | with_reducible exact Turn.refl _ _ | with_reducible refine Turn.drew ?_ | with_reducible refine Turn.alloc ?_ _)))) (fun h => h)).kept t9 HNB.out).free 1; have l9x := ((TY4.out.kept (show Turn NoBlock W4 _ from (by (repeat (first | with_reducible exact Turn.refl _ _ | with_reducible refine Turn.drew ?_ | with_reducible refine Turn.alloc ?_ _)))) (fun h => h)).kept t9 HNB.out).lt; clear r9 t9 k9))
          all_goals
            go_wp2
            go_ret2
            rw [HF.out.1, HF.out.2.1, HF.out.2.2]
            have hsz4 := HT4.out.size
            have hszA := TA.out.size
            have h3 := H3.out.1
            have hwz : (w2.setCell ⟨x, 3, none⟩ (.slice pu ((S 1).ws.eraseIdx i).length cu)).heap.size = w2.heap.size := by simp [World.setCell]
            rw [h3] at hwz
            have hBB : w.heap.size ≤ B3 := by have := HB3.out; omega
            have hm := rmk_vu HH.out (e := 1) (by omega) TA.out U2.out.row (fun t ht => HH.out.nz 1 (by omega) t (List.mem_of_mem_eraseIdx ht)) (fun k hk => by have h1 := U2.out.mine k hk; have h2 := (HW.out _ T2.out).2.2.2.2.2.2.2.2.1.size; have h4 : W2.drew.heap.size = W2.heap.size := rfl; omega) (w2 := W9) (u := .slice p9 (1 + l) c9) (lq := ⟨m, .slice p1 n1 c1, .slice p2 n2 c2⟩ :: Q 1)
              (by rw [h3]; exact (TT HT4.out (Turn.refl NoBlock W4).drew).trans R9.out.2.1 (fun k hk => .inr (by simp [Blk, Value.ownBlock] at hk; have := HB3.out; omega)))
              (by rw [List.length_cons, HR.out.2.2.2.1, HR.out.2.2.2.2, Nat.add_comm l 1, qcells_cons]; exact R9.out.1)
              (fun q hq => by rcases List.mem_cons.1 hq with h5 | h5; (subst h5; exact QI.out); exact HH.out.rd 1 (by omega) q h5)
              (fun k hk => by
                rcases R9.out.2.2 k hk with h5 | h5
                · simp [Blk, Value.ownBlock] at h5; omega
                · have h6 : W4.drew.heap.size = W4.heap.size := rfl
                  have := HB3.out
                  omega)
            refine ⟨rfl, hm.same ?_⟩
            unfold msAns
            rw [List.map_cons, HH.out.mp 1 (by omega)]
      · have hb : (t.tx == m.tx) = false := by simpa using hk
        have HX := Lib.hid (show ∀ j, j < i + 1 → ∀ u, (S 1).ws[j]? = some u → u.tx ≠ m.tx from fun j hj u hu => by
          by_cases hji : j = i
          · subst hji; rw [ht] at hu; cases hu; exact hk
          · exact HI.out j (by omega) u hu)
        clear ht hk htz
        rcases hz with hz | hz
        · have hb2 : (m.tx != 0) = false := by simpa using hz
          clear hz
          go_wp2
          go_quiet (fail)
          go_wp2
          go_roundg (n - (i + 1))
          case measure => omega
          case rel => exact ⟨i + 1, by omega, rfl, by go_num, Lib.hid (TT HT.out ((Turn.refl _ _).drewN _)), HX⟩
        · have hb2 : (m.tx != 0) = true := by simpa using hz
          clear hz
          go_wp2
          go_quiet (fail)
          go_wp2
          go_roundg (n - (i + 1))
          case measure => omega
          case rel => exact ⟨i + 1, by omega, rfl, by go_num, Lib.hid (TT HT.out ((Turn.refl _ _).drewN _)), HX⟩
    · have hlti : ¬ (i : Int) < (n : Int) := by omega
      obtain rfl : i = n := by omega
      have HF := Lib.hid (HNO.out (by rw [HR.out.2.1]; exact HI.out))
      by_cases hfull : depth ≤ l
      · have hfi : (depth : Int) ≤ (l : Int) := by omega
        have HE := Lib.hid (HF.out.1 (by rw [HR.out.2.2.2.2]; exact hfull))
        clear hfull
        go_wp2
        go_quiet (fail)
        go_wp2
        go_ret2
        rw [HE.out.1, HE.out.2.1, HE.out.2.2]
        exact ⟨rfl, RMk.refl HH.out (TT (HW.out _ HT.out).2.2.2.2.2.2.2.2.1 ((Turn.refl _ _).drewN _))⟩
      · have hfi : ¬ (depth : Int) ≤ (l : Int) := by omega
        have HE := Lib.hid (HF.out.2 (by rw [HR.out.2.2.2.2]; omega))
        clear hfull
        go_wp2
        go_quiet (fail)
        go_upto_region 21 with (fail)
        have T2 := Lib.hid (TT HT.out ((Turn.refl NoBlock wr).drewN nq))
        generalize wr.drewN nq = W2 at *
        obtain ⟨b0, b1, b2, bl, e1, e2, e3, lx, tw, ty⟩ := HW.out _ T2.out
        have TW := Lib.hid tw
        have TY := Lib.hid ty
        have RQ := Lib.hid (HR.out.2.2.1.past tw)
        have ONE := Lib.hid (qcells_one (HH.out.rd 1 (by omega)))
        have LB := Lib.hid (show 0 + l ≤ maxLen ∧ (0 + l) * 56 ≤ 140737488355328 ∧ l + 1 ≤ maxLen ∧ (l + 1) * 56 ≤ 140737488355328 by unfold maxLen; omega)
        clear tw ty e1 e3 HT
        go_region_law (first
          | (refine step_append_r rfl (.tmp 120) (.tmp 126) 28 28 rfl (wrow_nil _ 38 3) iM _ 56 rmsgs2 HIM.out.1 HIM.out.2.1 HIM.out.2.2.1 HIM.out.2.2.2 (by rfl) (by rfl) (by rfl) (WRow.src (RQ.out.past (show Turn NoBlock W2 _ from (by (repeat (first | with_reducible exact Turn.refl _ _ | with_reducible refine Turn.drew ?_ | with_reducible refine Turn.alloc ?_ _))))) 28 rmsgs2 ONE.out) LB.out.1 LB.out.2.1 ?_; intro v8 W8 z8 r8 t8 k8; clear z8; rw [Nat.zero_add, List.nil_append] at r8; obtain ⟨p8, c8, rfl⟩ := r8.sl; have T8 := Lib.hid (nil_turn t8); have R8 := Lib.hid r8; have K8 := Lib.hid k8; have TT8 := Lib.hid (TT (show Turn NoBlock W2 _ from (by (repeat (first | with_reducible exact Turn.refl _ _ | with_reducible refine Turn.drew ?_ | with_reducible refine Turn.alloc ?_ _)))) T8.out); have b0 := TT8.out.cell b0 (fun h => h); have b1 := TT8.out.cell b1 (fun h => h); have b2 := TT8.out.cell b2 (fun h => h); have bl := Nat.lt_of_lt_of_le bl TT8.out.size; have FR8 := Lib.hid (fresh8 (show Turn NoBlock W2 _ from (by (repeat (first | with_reducible exact Turn.refl _ _ | with_reducible refine Turn.drew ?_ | with_reducible refine Turn.alloc ?_ _)))) k8); have NB8 := Lib.hid (show ¬ Blk (.slice p8 l c8) x from fun hk => by have := FR8.out x hk; have := TY.out.lt; omega); clear r8 t8 k8)
          | (refine step_append_r rfl (.tmp 127) (.tmp 129) 28 28 rfl (R8.out.past (show Turn NoBlock W8 _ from (by (repeat (first | with_reducible exact Turn.refl _ _ | with_reducible refine Turn.drew ?_ | with_reducible refine Turn.alloc ?_ _))))) iM _ 56 rmsgs2 HIM.out.1 HIM.out.2.1 HIM.out.2.2.1 HIM.out.2.2.2 (by rfl) (by rfl) (by rfl) (WRow.src (wrow_heap (cs := #[.int .i64 m.tx, .slice p1 n1 c1, .slice p2 n2 c2]) (heap_alloc_new W8 _) rfl) 28 rmsgs2 QI.out.one) LB.out.2.2.1 LB.out.2.2.2 ?_; intro v9 W9 z9 r9 t9 k9; clear z9; obtain ⟨p9, c9, rfl⟩ := r9.sl; have T9 := Lib.hid (turn9 TT8.out (show Turn NoBlock W8 _ from (by (repeat (first | with_reducible exact Turn.refl _ _ | with_reducible refine Turn.drew ?_ | with_reducible refine Turn.alloc ?_ _)))) t9 FR8.out); have F9 := Lib.hid (fresh9 TT8.out (show Turn NoBlock W8 _ from (by (repeat (first | with_reducible exact Turn.refl _ _ | with_reducible refine Turn.drew ?_ | with_reducible refine Turn.alloc ?_ _)))) k9 FR8.out); have R9 := Lib.hid r9; have c9x := t9.cell (p := ⟨x, 1, none⟩) ((show Turn NoBlock W8 _ from (by (repeat (first | with_reducible exact Turn.refl _ _ | with_reducible refine Turn.drew ?_ | with_reducible refine Turn.alloc ?_ _)))).cell (TT8.out.cell e2 (fun h => h)) (fun h => h)) NB8.out; have f9x := (TY.out.kept T9.out (fun h => h)).free 1; have l9x := (TY.out.kept T9.out (fun h => h)).lt; clear r9 t9 k9)
          | (refine step_append_r rfl (.tmp 127) (.tmp 129) 28 28 rfl (R8.out.past (show Turn NoBlock W8 _ from (by (repeat (first | with_reducible exact Turn.refl _ _ | with_reducible refine Turn.drew ?_ | with_reducible refine Turn.alloc ?_ _))))) iM _ 56 rmsgs2 HIM.out.1 HIM.out.2.1 HIM.out.2.2.1 HIM.out.2.2.2 (by rfl) (by rfl) (by rfl) (WRow.src (wrow_heap (cs := #[.int .i64 m.tx, .slice p1 n1 c1, .slice p2 n2 c2]) (T8.out.heap (heap_alloc_new _ _) (fun h => h)) rfl) 28 rmsgs2 QI.out.one) LB.out.2.2.1 LB.out.2.2.2 ?_; intro v9 W9 z9 r9 t9 k9; clear z9; obtain ⟨p9, c9, rfl⟩ := r9.sl; have T9 := Lib.hid (turn9 TT8.out (show Turn NoBlock W8 _ from (by (repeat (first | with_reducible exact Turn.refl _ _ | with_reducible refine Turn.drew ?_ | with_reducible refine Turn.alloc ?_ _)))) t9 FR8.out); have F9 := Lib.hid (fresh9 TT8.out (show Turn NoBlock W8 _ from (by (repeat (first | with_reducible exact Turn.refl _ _ | with_reducible refine Turn.drew ?_ | with_reducible refine Turn.alloc ?_ _)))) k9 FR8.out); have R9 := Lib.hid r9; have c9x := t9.cell (p := ⟨x, 1, none⟩) ((show Turn NoBlock W8 _ from (by (repeat (first | with_reducible exact Turn.refl _ _ | with_reducible refine Turn.drew ?_ | with_reducible refine Turn.alloc ?_ _)))).cell (TT8.out.cell e2 (fun h => h)) (fun h => h)) NB8.out; have f9x := (TY.out.kept T9.out (fun h => h)).free 1; have l9x := (TY.out.kept T9.out (fun h => h)).lt; clear r9 t9 k9))
        all_goals
          go_wp2
          go_ret2
          rw [HE.out.1, HE.out.2.1, HE.out.2.2]
          have hm := rmk_u HH.out (e := 1) (by omega) (TT TW.out T9.out) (u := .slice p9 (l + 1) c9) (l := Q 1 ++ [⟨m, .slice p1 n1 c1, .slice p2 n2 c2⟩])
            (by rw [List.length_append, HR.out.2.2.2.1, HR.out.2.2.2.2, qcells_app, show l + [(⟨m, .slice p1 n1 c1, .slice p2 n2 c2⟩ : QM)].length = l + 1 by simp]; exact R9.out)
            (fun q hq => by rcases List.mem_append.1 hq with h5 | h5; exact HH.out.rd 1 (by omega) q h5; simp at h5; subst h5; exact QI.out)
            (fun k hk => .inr (by have := F9.out k hk; have := TW.out.size; omega))
          refine ⟨rfl, hm.same ?_⟩
          unfold msAdd
          rw [List.map_append, HH.out.mp 1 (by omega)]
          rfl
theorem cw_hit1 (m : Msg) (ho : (S 1).op = true) (hp : (S 0).op = true) (hf : m.fits) {i : Nat} {t : Wt} (ht : (S 0).ws[i]? = some t) (hk : t.tx = m.tx) (hno : ∀ j, j < i → ∀ u, (S 0).ws[j]? = some u → u.tx ≠ m.tx) :
    cwS depth S 1 m = 0 ∧ cwN depth S 1 m = t.who ∧ cwK depth S 1 m = updN S 0 (msAns (S 0) i m) := by
  have hi : hitI S 1 m = i := find_at (l := (S 0).ws) ht (by simpa using hk) (fun j hj u hu => by simpa using hno j hj u hu)
  have hl := (List.getElem?_eq_some_iff.1 ht).1
  have hl2 : i < (S (oth 1)).ws.length := hl
  have hs : cwS depth S 1 m = 0 := by
    unfold cwS
    rw [if_neg (by rw [ho]; decide), if_neg (by have := hf.1; have := hf.2; omega), if_neg (show ¬ (S (oth 1)).op = false by rw [show oth 1 = 0 from rfl, hp]; decide), hi, if_pos hl2]
  refine ⟨hs, ?_, ?_⟩
  · unfold cwN
    rw [if_pos hs, hi, show (S (oth 1)).ws[i]? = some t from ht]
  · unfold cwK
    rw [if_pos hs, hi, if_pos hl2]
    rfl
theorem cw_none1 (m : Msg) (ho : (S 1).op = true) (hp : (S 0).op = true) (hf : m.fits) (hno : ∀ j, j < (S 0).ws.length → ∀ u, (S 0).ws[j]? = some u → u.tx ≠ m.tx) :
    (depth ≤ (S 0).q.length → cwS depth S 1 m = -22 ∧ cwN depth S 1 m = 0 ∧ cwK depth S 1 m = S) ∧ ((S 0).q.length < depth → cwS depth S 1 m = 0 ∧ cwN depth S 1 m = -1 ∧ cwK depth S 1 m = updN S 0 (msAdd (S 0) m)) := by
  have hi : hitI S 1 m = (S (oth 1)).ws.length := find_no (l := (S 0).ws) (fun j hj u hu => by simpa using hno j hj u hu)
  have hi2 : ¬ hitI S 1 m < (S (oth 1)).ws.length := by omega
  have e0 : cwS depth S 1 m = if depth ≤ (S 0).q.length then -22 else 0 := by
    unfold cwS
    rw [if_neg (by rw [ho]; decide), if_neg (by have := hf.1; have := hf.2; omega), if_neg (show ¬ (S (oth 1)).op = false by rw [show oth 1 = 0 from rfl, hp]; decide), if_neg hi2]
    rfl
  constructor
  · intro h
    rw [if_pos h] at e0
    refine ⟨e0, ?_, ?_⟩
    · unfold cwN; rw [e0, if_neg (by decide)]
    · unfold cwK; rw [e0, if_neg (by decide)]
  · intro h
    rw [if_neg (by omega)] at e0
    refine ⟨e0, ?_, ?_⟩
    · unfold cwN; rw [if_pos e0, List.getElem?_eq_none (by omega)]
    · unfold cwK; rw [if_pos e0, if_neg hi2]; rfl
set_option maxRecDepth 20000 in
set_option maxHeartbeats 4000000 in
theorem rwrite_yes1 (h : RC w0 w x depth S U V Q) (hwl : (S 0).ws.length ≤ 1000000) (hql : (S 0).q.length ≤ 1000000) (ho : (S 1).op = true) (hp : (S 0).op = true) (m : Msg) (hf : m.fits) (vd vh : Value) (hd : RzB w0 vd m.d) (hh : RzI w0 vh m.h) :
    Calls Try.prog 39 #[.pointer (some ⟨x, 0, none⟩), .int .i64 1, .agg #[.int .i64 m.tx, vd, vh]] w fun y w' => y = .returned (.tuple #[.int .i64 (cwN depth S 1 m), .int .i64 (cwS depth S 1 m)]) ∧ RMk w0 w w' x depth U V (cwK depth S 1 m) := by
  obtain ⟨iM, hiM, hzM, hsM, hbM⟩ := info_parts infoRM
  have HIM := Lib.hid (And.intro hiM (And.intro hzM (And.intro hsM hbM)))
  obtain ⟨p1, c1, hv1⟩ := hd.sl
  obtain ⟨p2, c2, hv2⟩ := hh.sl
  have QI := Lib.hid (show QIn w0 ⟨m, vd, vh⟩ from ⟨hd, hh, hf⟩)
  subst hv1 hv2
  have CK := Lib.hid (fun W (t : Turn NoBlock w W) => show Calls Try.prog 53 #[.pointer (some ⟨x, 0, none⟩), .int .i64 1] W fun y w' => y = .returned (.int .i64 0) ∧ W = w' from rcheck1 (h.past t) true ho)
  have HIT := Lib.hid (fun i t (ht : (S 0).ws[i]? = some t) hk hno => cw_hit1 (depth := depth) m ho hp hf (i := i) (t := t) ht hk hno)
  have HNO := Lib.hid (fun hno => cw_none1 (depth := depth) (S := S) m ho hp hf hno)
  have hrow := h.rv 0 (by omega)
  have hrq := h.ru 0 (by omega)
  obtain ⟨pw, cw, hvw⟩ := hrow.sl
  obtain ⟨pq, cq, hvq⟩ := hrq.sl
  have hql2 : (Q 0).length = (S 0).q.length := by rw [← h.mp 0 (by omega), List.length_map]
  obtain ⟨n, hn⟩ : ∃ n, (S 0).ws.length = n := ⟨_, rfl⟩
  obtain ⟨l, hl⟩ : ∃ l, (S 0).q.length = l := ⟨_, rfl⟩
  have d0 : w.cell? ⟨x, 4, none⟩ = some (.bool (!(S 0).op)) := h.cc 0 (by omega)
  have d1 : w.cell? ⟨x, 2, none⟩ = some (V 0) := h.cv 0 (by omega)
  have d2 : w.cell? ⟨x, 0, none⟩ = some (U 0) := h.cu 0 (by omega)
  have d3 := h.c6
  rw [hp] at d0
  rw [hvw, hn] at d1
  rw [hvq, hql2, hl] at d2
  have CW := Lib.hid (fun W (t : Turn NoBlock w W) k => rwithout W (V 0) (S 0).ws k (hrow.past t) (by omega))
  rw [hvw, hn] at CW hrow
  rw [hvq, hql2, hl] at hrq
  have HR := Lib.hid (And.intro hrow (And.intro hn (And.intro hrq (And.intro hql2 hl))))
  rw [hn] at hwl
  rw [hl] at hql
  have hln : (n : Int) ≤ 1000000 := by omega
  have hll : (l : Int) ≤ 1000000 := by omega
  have g1 : ¬ (4096 : Int) < m.d.length := by have := hf.1; omega
  have g2 : ¬ (64 : Int) < m.h.length := by have := hf.2; omega
  have HH := Lib.hid h
  obtain ⟨n1, hn1⟩ : ∃ n, m.d.length = n := ⟨_, rfl⟩
  obtain ⟨n2, hn2⟩ : ∃ n, m.h.length = n := ⟨_, rfl⟩
  rw [hn1] at g1
  rw [hn2] at g2
  rw [hn1, hn2] at QI
  simp only [hn1, hn2]
  obtain ⟨B, hB⟩ : ∃ B, w.heap.size = B := ⟨_, rfl⟩
  have lx := h.typ.lt
  have t1 := (Turn.refl NoBlock w).alloc (.cells #[.int .i64 m.tx, .slice p1 n1 c1, .slice p2 n2 c2] 38)
  have bx := heap_alloc_new w (.cells #[.int .i64 m.tx, .slice p1 n1 c1, .slice p2 n2 c2] 38)
  rw [hB] at bx
  have HW := Lib.hid (show ∀ W, Turn NoBlock (w.alloc (.cells #[.int .i64 m.tx, .slice p1 n1 c1, .slice p2 n2 c2] 38)) W → W.cell? ⟨B, 0, none⟩ = some (.int .i64 m.tx) ∧ W.cell? ⟨B, 1, none⟩ = some (.slice p1 n1 c1) ∧ W.cell? ⟨B, 2, none⟩ = some (.slice p2 n2 c2) ∧ B < W.heap.size ∧ W.cell? ⟨x, 2, none⟩ = some (.slice pw n cw) ∧ W.cell? ⟨x, 0, none⟩ = some (.slice pq l cq) ∧ W.cell? ⟨x, 6, none⟩ = some (.int .i64 (depth : Int)) ∧ x < W.heap.size ∧ Turn NoBlock w W ∧ TBlk W x 34 from fun W t => by
    have b := box3 (t.heap bx (fun h => h))
    have tt := TT t1 t
    exact ⟨b.1, b.2.1, b.2.2, lt_of_block (t.heap bx (fun h => h)), tt.cell d1 (fun h => h), tt.cell d2 (fun h => h), tt.cell d3 (fun h => h), Nat.lt_of_lt_of_le lx tt.size, tt, h.typ.kept tt (fun h => h)⟩)
  have HB := Lib.hid hB
  have d0' := t1.cell d0 (fun h => h)
  have hz : (m.tx = 0 ∨ m.tx ≠ 0) := by omega
  clear h hd hh hf ho hp hrow hrq hvw hvq hql2 hn hl hwl hql hn1 hn2 t1 bx d0 d1 d2 d3 lx hiM hzM hsM hbM
  go_enter Try.func39, Try.ntmps39
  go_wp2_with (go_at_call 53; (with_reducible refine (CK.out _ ((Turn.refl _ _).alloc _)).mono ?_); rintro y w' ⟨rfl, rfl⟩)
  try simp only [HB.out]
  generalize w.alloc (.cells #[.int .i64 m.tx, .slice p1 n1 c1, .slice p2 n2 c2] 38) = W1 at *
  go_loopg [10] n (fun z s10 wr => ∃ i : Nat, i ≤ n ∧ z = n - i ∧ s10 = .int .i64 (i : Int) ∧ Hid (Turn NoBlock W1 wr) ∧ Hid (∀ j, j < i → ∀ u, (S 0).ws[j]? = some u → u.tx ≠ m.tx))
  case atStart => exact ⟨0, by omega, by omega, rfl, Lib.hid (Turn.refl _ _), Lib.hid (fun j hj => by omega)⟩
  case round =>
    obtain ⟨i, hi, hz2, rfl, HT, HI⟩ := hrel
    obtain ⟨b0, b1, b2, bl, e1, e2, e3, lx, -, -⟩ := HW.out _ HT.out
    by_cases hlt : i < n
    · have hlti : (i : Int) < (n : Int) := by omega
      obtain ⟨t, ht⟩ : ∃ t, (S 0).ws[i]? = some t := ⟨_, List.getElem?_eq_getElem (by rw [HR.out.2.1]; exact hlt)⟩
      obtain ⟨g, o, rfl, k0, k1⟩ := wt_cells (HR.out.1.past (HW.out _ HT.out).2.2.2.2.2.2.2.2.1) HR.out.2.1 ht
      have htz := HH.out.nz 0 (by omega) t (List.mem_of_getElem? ht)
      by_cases hk : t.tx = m.tx
      · have hb : (t.tx == m.tx) = true := by simpa using hk
        have hb2 : (m.tx != 0) = true := by rw [← hk]; simpa using htz
        have HF := Lib.hid (HIT.out i t ht hk HI.out)
        clear ht hk htz hz
        go_wp2
        go_quiet (fail)
        go_upto_region 14 with (fail)
        have T2 := Lib.hid (TT HT.out ((Turn.refl NoBlock wr).drewN nq))
        generalize wr.drewN nq = W2 at *
        obtain ⟨b0, b1, b2, bl, e1, e2, e3, lx, -, -⟩ := HW.out _ T2.out
        clear HT k0 k1
        go_region_with (first | (go_at_call 69; (with_reducible refine (CW.out _ (TT (HW.out _ T2.out).2.2.2.2.2.2.2.2.1 (Turn.refl _ _).drew) i).mono ?_); rintro y w2 ⟨u, rfl, u2⟩; have U2 := Lib.hid u2; have c2 := u2.turn.cell (show World.cell? W2.drew ⟨x, 2, none⟩ = _ from e1) (fun h => h); have f2 := ((HW.out _ T2.out).2.2.2.2.2.2.2.2.2.kept (TT (Turn.refl NoBlock W2).drew u2.turn) (fun h => h)).free 2; have l2 := ((HW.out _ T2.out).2.2.2.2.2.2.2.2.2.kept (TT (Turn.refl NoBlock W2).drew u2.turn) (fun h => h)).lt; obtain ⟨pu, cu, rfl⟩ := u2.row.sl; clear u2))
        all_goals
          go_upto_region 15 with (fail)
          have hBx : B ≠ x := by have := HH.out.typ.lt; have := HB.out; omega
          have TA := Lib.hid (TT (HW.out _ T2.out).2.2.2.2.2.2.2.2.1 (TT (Turn.refl NoBlock W2).drew U2.out.turn))
          have TB := TT (Turn.refl NoBlock W2).drew U2.out.turn
          have TX : Turn (fun k => k = x) W2 (w2.setCell ⟨x, 2, none⟩ (.slice pu ((S 0).ws.eraseIdx i).length cu)) := (TU (F := fun k => k = x) TB).setCell (p := ⟨x, 2, none⟩) (.inl rfl) _
          have b0 := TX.cell b0 hBx
          have b1 := TX.cell b1 hBx
          have b2 := TX.cell b2 hBx
          have bl := Nat.lt_of_lt_of_le bl TX.size
          have e2 : (w2.setCell ⟨x, 2, none⟩ (.slice pu ((S 0).ws.eraseIdx i).length cu)).cell? ⟨x, 0, none⟩ = some (.slice pq l cq) := by rw [cell_set_other (by decide)]; exact TB.cell e2 (fun h => h)
          have ty : TBlk (w2.setCell ⟨x, 2, none⟩ (.slice pu ((S 0).ws.eraseIdx i).length cu)) x 34 := ((HW.out _ T2.out).2.2.2.2.2.2.2.2.2.kept TB (fun h => h)).set _ _ _
          have rq : WRow (w2.setCell ⟨x, 2, none⟩ (.slice pu ((S 0).ws.eraseIdx i).length cu)) 38 3 (.slice pq l cq) l (qcells (Q 0)) := WRow.setC (HR.out.2.2.1.past TA.out) ((HW.out _ T2.out).2.2.2.2.2.2.2.2.2.kept TB (fun h => h)) (by decide)
          clear TX TB e1 e3 lx c2 f2 l2
          obtain ⟨W3, hW3⟩ : ∃ W3, w2.setCell ⟨x, 2, none⟩ (.slice pu ((S 0).ws.eraseIdx i).length cu) = W3 := ⟨_, rfl⟩
          rw [hW3] at b0 b1 b2 bl e2 ty rq ⊢
          have H3 := Lib.hid (And.intro hW3 (And.intro ty rq))
          obtain ⟨B3, hB3⟩ : ∃ B3, W3.heap.size = B3 := ⟨_, rfl⟩
          have hB3x : B3 ≠ x := by have := ty.lt; omega
          clear hW3 rq
          go_upto_region 16 with (fail)
          have T4 := (Turn.refl NoBlock W3).alloc (.cells #[.int .i64 m.tx, .slice p1 n1 c1, .slice p2 n2 c2] 38)
          have R4 : WRow (W3.alloc (.cells #[.int .i64 m.tx, .slice p1 n1 c1, .slice p2 n2 c2] 38)) 38 3 (.slice (some ⟨B3, 0, none⟩) 1 1) 1 [.int .i64 m.tx, .slice p1 n1 c1, .slice p2 n2 c2] := wrow_heap (cs := #[.int .i64 m.tx, .slice p1 n1 c1, .slice p2 n2 c2]) (by rw [← hB3]; exact heap_alloc_new W3 _) rfl
          obtain ⟨W4, hW4⟩ : ∃ W4, W3.alloc (.cells #[.int .i64 m.tx, .slice p1 n1 c1, .slice p2 n2 c2] 38) = W4 := ⟨_, rfl⟩
          rw [hW4] at T4 R4 ⊢
          have e2 := T4.cell e2 (fun h => h)
          have lx := Nat.lt_of_lt_of_le ty.lt T4.size
          have ROW4 := Lib.hid R4
          have RQ4 := Lib.hid (H3.out.2.2.past T4)
          have TY4 := Lib.hid (ty.kept T4 (fun h => h))
          have HT4 := Lib.hid T4
          have ONE := Lib.hid (qcells_one (HH.out.rd 0 (by omega)))
          have LB := Lib.hid (show 1 + l ≤ maxLen ∧ (1 + l) * 56 ≤ 140737488355328 by unfold maxLen; omega)
          have HNB := Lib.hid (show ¬ Blk (.slice (some ⟨B3, 0, none⟩) 1 1) x by simp [Blk, Value.ownBlock]; exact hB3x)
          have HB3 := Lib.hid hB3
          clear T4 R4 hW4 ty hB3x b0 b1 b2 bl
          go_region_law (first
            | (refine step_append_r rfl (.tmp 94) (.tmp 100) 28 28 rfl (ROW4.out.past (show Turn NoBlock W4 _ from (by (repeat (first | with_reducible exact Turn.refl _ _ | with_reducible refine Turn.drew ?_ | with_reducible refine Turn.alloc ?_ _))))) iM _ 56 rmsgs2 HIM.out.1 HIM.out.2.1 HIM.out.2.2.1 HIM.out.2.2.2 (by rfl) (by rfl) (by rfl) (WRow.src (RQ4.out.past (show Turn NoBlock W4 _ from (by (repeat (first | with_reducible exact Turn.refl _ _ | with_reducible refine Turn.drew ?_ | with_reducible refine Turn.alloc ?_ _))))) 28 rmsgs2 ONE.out) LB.out.1 LB.out.2 ?_; intro v9 W9 z9 r9 t9 k9; clear z9; obtain ⟨p9, c9, rfl⟩ := r9.sl; have R9 := Lib.hid (And.intro r9 (And.intro t9 k9)); have c9x := t9.cell (p := ⟨x, 0, none⟩) ((show Turn NoBlock W4 _ from (by (repeat (first | with_reducible exact Turn.refl _ _ | with_reducible refine Turn.drew ?_ | with_reducible refine Turn.alloc ?_ _)))).cell e2 (fun h => h)) HNB.out; have f9x := ((TY4.out.kept (show Turn NoBlock W4 _ from (by (repeat (first | with_reducible exact Turn.refl _ _ | with_reducible refine Turn.drew ?_ | with_reducible refine Turn.alloc ?_ _)))) (fun h => h)).kept t9 HNB.out).free 0; have l9x := ((TY4.out.kept (show Turn NoBlock W4 _ from (by (repeat (first | with_reducible exact Turn.refl _ _ | with_reducible refine Turn.drew ?_ | with_reducible refine Turn.alloc ?_ _)))) (fun h => h)).kept t9 HNB.out).lt; clear r9 t9 k9))
          all_goals
            go_wp2
            go_ret2
            rw [HF.out.1, HF.out.2.1, HF.out.2.2]
            have hsz4 := HT4.out.size
            have hszA := TA.out.size
            have h3 := H3.out.1
            have hwz : (w2.setCell ⟨x, 2, none⟩ (.slice pu ((S 0).ws.eraseIdx i).length cu)).heap.size = w2.heap.size := by simp [World.setCell]
            rw [h3] at hwz
            have hBB : w.heap.size ≤ B3 := by have := HB3.out; omega
            have hm := rmk_vu HH.out (e := 0) (by omega) TA.out U2.out.row (fun t ht => HH.out.nz 0 (by omega) t (List.mem_of_mem_eraseIdx ht)) (fun k hk => by have h1 := U2.out.mine k hk; have h2 := (HW.out _ T2.out).2.2.2.2.2.2.2.2.1.size; have h4 : W2.drew.heap.size = W2.heap.size := rfl; omega) (w2 := W9) (u := .slice p9 (1 + l) c9) (lq := ⟨m, .slice p1 n1 c1, .slice p2 n2 c2⟩ :: Q 0)
              (by rw [h3]; exact (TT HT4.out (Turn.refl NoBlock W4).drew).trans R9.out.2.1 (fun k hk => .inr (by simp [Blk, Value.ownBlock] at hk; have := HB3.out; omega)))
              (by rw [List.length_cons, HR.out.2.2.2.1, HR.out.2.2.2.2, Nat.add_comm l 1, qcells_cons]; exact R9.out.1)
              (fun q hq => by rcases List.mem_cons.1 hq with h5 | h5; (subst h5; exact QI.out); exact HH.out.rd 0 (by omega) q h5)
              (fun k hk => by
                rcases R9.out.2.2 k hk with h5 | h5
                · simp [Blk, Value.ownBlock] at h5; omega
                · have h6 : W4.drew.heap.size = W4.heap.size := rfl
                  have := HB3.out
                  omega)
            refine ⟨rfl, hm.same ?_⟩
            unfold msAns
            rw [List.map_cons, HH.out.mp 0 (by omega)]
      · have hb : (t.tx == m.tx) = false := by simpa using hk
        have HX := Lib.hid (show ∀ j, j < i + 1 → ∀ u, (S 0).ws[j]? = some u → u.tx ≠ m.tx from fun j hj u hu => by
          by_cases hji : j = i
          · subst hji; rw [ht] at hu; cases hu; exact hk
          · exact HI.out j (by omega) u hu)
        clear ht hk htz
        rcases hz with hz | hz
        · have hb2 : (m.tx != 0) = false := by simpa using hz
          clear hz
          go_wp2
          go_quiet (fail)
          go_wp2
          go_roundg (n - (i + 1))
          case measure => omega
          case rel => exact ⟨i + 1, by omega, rfl, by go_num, Lib.hid (TT HT.out ((Turn.refl _ _).drewN _)), HX⟩
        · have hb2 : (m.tx != 0) = true := by simpa using hz
          clear hz
          go_wp2
          go_quiet (fail)
          go_wp2
          go_roundg (n - (i + 1))
          case measure => omega
          case rel => exact ⟨i + 1, by omega, rfl, by go_num, Lib.hid (TT HT.out ((Turn.refl _ _).drewN _)), HX⟩
    · have hlti : ¬ (i : Int) < (n : Int) := by omega
      obtain rfl : i = n := by omega
      have HF := Lib.hid (HNO.out (by rw [HR.out.2.1]; exact HI.out))
      by_cases hfull : depth ≤ l
      · have hfi : (depth : Int) ≤ (l : Int) := by omega
        have HE := Lib.hid (HF.out.1 (by rw [HR.out.2.2.2.2]; exact hfull))
        clear hfull
        go_wp2
        go_quiet (fail)
        go_wp2
        go_ret2
        rw [HE.out.1, HE.out.2.1, HE.out.2.2]
        exact ⟨rfl, RMk.refl HH.out (TT (HW.out _ HT.out).2.2.2.2.2.2.2.2.1 ((Turn.refl _ _).drewN _))⟩
      · have hfi : ¬ (depth : Int) ≤ (l : Int) := by omega
        have HE := Lib.hid (HF.out.2 (by rw [HR.out.2.2.2.2]; omega))
        clear hfull
        go_wp2
        go_quiet (fail)
        go_upto_region 21 with (fail)
        have T2 := Lib.hid (TT HT.out ((Turn.refl NoBlock wr).drewN nq))
        generalize wr.drewN nq = W2 at *
        obtain ⟨b0, b1, b2, bl, e1, e2, e3, lx, tw, ty⟩ := HW.out _ T2.out
        have TW := Lib.hid tw
        have TY := Lib.hid ty
        have RQ := Lib.hid (HR.out.2.2.1.past tw)
        have ONE := Lib.hid (qcells_one (HH.out.rd 0 (by omega)))
        have LB := Lib.hid (show 0 + l ≤ maxLen ∧ (0 + l) * 56 ≤ 140737488355328 ∧ l + 1 ≤ maxLen ∧ (l + 1) * 56 ≤ 140737488355328 by unfold maxLen; omega)
        clear tw ty e1 e3 HT
        go_region_law (first
          | (refine step_append_r rfl (.tmp 120) (.tmp 126) 28 28 rfl (wrow_nil _ 38 3) iM _ 56 rmsgs2 HIM.out.1 HIM.out.2.1 HIM.out.2.2.1 HIM.out.2.2.2 (by rfl) (by rfl) (by rfl) (WRow.src (RQ.out.past (show Turn NoBlock W2 _ from (by (repeat (first | with_reducible exact Turn.refl _ _ | with_reducible refine Turn.drew ?_ | with_reducible refine Turn.alloc ?_ _))))) 28 rmsgs2 ONE.out) LB.out.1 LB.out.2.1 ?_; intro v8 W8 z8 r8 t8 k8; clear z8; rw [Nat.zero_add, List.nil_append] at r8; obtain ⟨p8, c8, rfl⟩ := r8.sl; have T8 := Lib.hid (nil_turn t8); have R8 := Lib.hid r8; have K8 := Lib.hid k8; have TT8 := Lib.hid (TT (show Turn NoBlock W2 _ from (by (repeat (first | with_reducible exact Turn.refl _ _ | with_reducible refine Turn.drew ?_ | with_reducible refine Turn.alloc ?_ _)))) T8.out); have b0 := TT8.out.cell b0 (fun h => h); have b1 := TT8.out.cell b1 (fun h => h); have b2 := TT8.out.cell b2 (fun h => h); have bl := Nat.lt_of_lt_of_le bl TT8.out.size; have FR8 := Lib.hid (fresh8 (show Turn NoBlock W2 _ from (by (repeat (first | with_reducible exact Turn.refl _ _ | with_reducible refine Turn.drew ?_ | with_reducible refine Turn.alloc ?_ _)))) k8); have NB8 := Lib.hid (show ¬ Blk (.slice p8 l c8) x from fun hk => by have := FR8.out x hk; have := TY.out.lt; omega); clear r8 t8 k8)
          | (refine step_append_r rfl (.tmp 127) (.tmp 129) 28 28 rfl (R8.out.past (show Turn NoBlock W8 _ from (by (repeat (first | with_reducible exact Turn.refl _ _ | with_reducible refine Turn.drew ?_ | with_reducible refine Turn.alloc ?_ _))))) iM _ 56 rmsgs2 HIM.out.1 HIM.out.2.1 HIM.out.2.2.1 HIM.out.2.2.2 (by rfl) (by rfl) (by rfl) (WRow.src (wrow_heap (cs := #[.int .i64 m.tx, .slice p1 n1 c1, .slice p2 n2 c2]) (heap_alloc_new W8 _) rfl) 28 rmsgs2 QI.out.one) LB.out.2.2.1 LB.out.2.2.2 ?_; intro v9 W9 z9 r9 t9 k9; clear z9; obtain ⟨p9, c9, rfl⟩ := r9.sl; have T9 := Lib.hid (turn9 TT8.out (show Turn NoBlock W8 _ from (by (repeat (first | with_reducible exact Turn.refl _ _ | with_reducible refine Turn.drew ?_ | with_reducible refine Turn.alloc ?_ _)))) t9 FR8.out); have F9 := Lib.hid (fresh9 TT8.out (show Turn NoBlock W8 _ from (by (repeat (first | with_reducible exact Turn.refl _ _ | with_reducible refine Turn.drew ?_ | with_reducible refine Turn.alloc ?_ _)))) k9 FR8.out); have R9 := Lib.hid r9; have c9x := t9.cell (p := ⟨x, 0, none⟩) ((show Turn NoBlock W8 _ from (by (repeat (first | with_reducible exact Turn.refl _ _ | with_reducible refine Turn.drew ?_ | with_reducible refine Turn.alloc ?_ _)))).cell (TT8.out.cell e2 (fun h => h)) (fun h => h)) NB8.out; have f9x := (TY.out.kept T9.out (fun h => h)).free 0; have l9x := (TY.out.kept T9.out (fun h => h)).lt; clear r9 t9 k9)
          | (refine step_append_r rfl (.tmp 127) (.tmp 129) 28 28 rfl (R8.out.past (show Turn NoBlock W8 _ from (by (repeat (first | with_reducible exact Turn.refl _ _ | with_reducible refine Turn.drew ?_ | with_reducible refine Turn.alloc ?_ _))))) iM _ 56 rmsgs2 HIM.out.1 HIM.out.2.1 HIM.out.2.2.1 HIM.out.2.2.2 (by rfl) (by rfl) (by rfl) (WRow.src (wrow_heap (cs := #[.int .i64 m.tx, .slice p1 n1 c1, .slice p2 n2 c2]) (T8.out.heap (heap_alloc_new _ _) (fun h => h)) rfl) 28 rmsgs2 QI.out.one) LB.out.2.2.1 LB.out.2.2.2 ?_; intro v9 W9 z9 r9 t9 k9; clear z9; obtain ⟨p9, c9, rfl⟩ := r9.sl; have T9 := Lib.hid (turn9 TT8.out (show Turn NoBlock W8 _ from (by (repeat (first | with_reducible exact Turn.refl _ _ | with_reducible refine Turn.drew ?_ | with_reducible refine Turn.alloc ?_ _)))) t9 FR8.out); have F9 := Lib.hid (fresh9 TT8.out (show Turn NoBlock W8 _ from (by (repeat (first | with_reducible exact Turn.refl _ _ | with_reducible refine Turn.drew ?_ | with_reducible refine Turn.alloc ?_ _)))) k9 FR8.out); have R9 := Lib.hid r9; have c9x := t9.cell (p := ⟨x, 0, none⟩) ((show Turn NoBlock W8 _ from (by (repeat (first | with_reducible exact Turn.refl _ _ | with_reducible refine Turn.drew ?_ | with_reducible refine Turn.alloc ?_ _)))).cell (TT8.out.cell e2 (fun h => h)) (fun h => h)) NB8.out; have f9x := (TY.out.kept T9.out (fun h => h)).free 0; have l9x := (TY.out.kept T9.out (fun h => h)).lt; clear r9 t9 k9))
        all_goals
          go_wp2
          go_ret2
          rw [HE.out.1, HE.out.2.1, HE.out.2.2]
          have hm := rmk_u HH.out (e := 0) (by omega) (TT TW.out T9.out) (u := .slice p9 (l + 1) c9) (l := Q 0 ++ [⟨m, .slice p1 n1 c1, .slice p2 n2 c2⟩])
            (by rw [List.length_append, HR.out.2.2.2.1, HR.out.2.2.2.2, qcells_app, show l + [(⟨m, .slice p1 n1 c1, .slice p2 n2 c2⟩ : QM)].length = l + 1 by simp]; exact R9.out)
            (fun q hq => by rcases List.mem_append.1 hq with h5 | h5; exact HH.out.rd 0 (by omega) q h5; simp at h5; subst h5; exact QI.out)
            (fun k hk => .inr (by have := F9.out k hk; have := TW.out.size; omega))
          refine ⟨rfl, hm.same ?_⟩
          unfold msAdd
          rw [List.map_append, HH.out.mp 0 (by omega)]
          rfl
end
end Go.Proofs.Ytcbphfpfdfgehaa
