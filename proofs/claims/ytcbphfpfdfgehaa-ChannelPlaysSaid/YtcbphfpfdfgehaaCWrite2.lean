/-
  What Write makes of the channel where the message stands behind the others, or wakes a caller. No conditions but that the channel is one that calls can make, and that the message can be read.
-/
import Derived.Test.YtcbphfpfdfgehaaCWrite
namespace Go.Proofs.Ytcbphfpfdfgehaa
open Go.ChangeShapes Go.WideShapes Go.ChangeAt Go.RowKit

/-- A channel that a call has made of another one. -/
def Made (w w' : World) (c depth N : Nat) (S : Nat → Sd) (V : Nat → SV) (K' : Nat → MS) : Prop :=
  ∃ S' V', CMem w' c depth N S' V' ∧ planeOf S' = K' ∧ Turn (CFoot c S V) w w' ∧ ∀ k, CFoot c S' V' k → CFoot c S V k ∨ w.heap.size ≤ k
theorem allq_ot {S : Nat → Sd} {e : Nat} {q : QM} (he : e < 2) (h : (allQ S).Pairwise Apart) (hq : ∀ p ∈ allQ S, Apart q p) : (allQ (updN S e { S e with ot := (S e).ot ++ [q] })).Pairwise Apart := by
  have h2 : e = 0 ∨ e = 1 := by omega
  rcases h2 with rfl | rfl
  · unfold allQ at h hq ⊢
    rw [updN_same, updN_other _ _ (by omega)]
    have := pair_add (l1 := (S 0).an ++ (S 0).ot) (l2 := (S 1).an ++ (S 1).ot) (q := q) (by simpa using h) (by simpa using hq)
    simpa using this
  · unfold allQ at h hq ⊢
    rw [updN_same, updN_other _ _ (by omega)]
    have := pair_add (l1 := (S 0).an ++ ((S 0).ot ++ ((S 1).an ++ (S 1).ot))) (l2 := []) (q := q) (by simpa using h) (by simpa using hq)
    simpa using this
theorem allq_an {S : Nat → Sd} {e : Nat} {q : QM} (he : e < 2) (h : (allQ S).Pairwise Apart) (hq : ∀ p ∈ allQ S, Apart q p) : (allQ (updN S e { S e with an := (S e).an ++ [q] })).Pairwise Apart := by
  have h2 : e = 0 ∨ e = 1 := by omega
  rcases h2 with rfl | rfl
  · unfold allQ at h hq ⊢
    rw [updN_same, updN_other _ _ (by omega)]
    have := pair_add (l1 := (S 0).an) (l2 := (S 0).ot ++ ((S 1).an ++ (S 1).ot)) (q := q) (by simpa using h) (by simpa using hq)
    simpa using this
  · unfold allQ at h hq ⊢
    rw [updN_same, updN_other _ _ (by omega)]
    have := pair_add (l1 := (S 0).an ++ ((S 0).ot ++ (S 1).an)) (l2 := (S 1).ot) (q := q) (by simpa using h) (by simpa using hq)
    simpa using this
theorem allq_foot {S : Nat → Sd} {V : Nat → SV} {c : Nat} {q : QM} (h : q ∈ allQ S) {k : Nat} (hk : q.F k) : CFoot c S V k := by
  unfold allQ at h
  simp only [List.mem_append] at h
  rcases h with h | h | h | h
  · exact .inr ⟨0, by omega, .inr ⟨q, .inl h, hk⟩⟩
  · exact .inr ⟨0, by omega, .inr ⟨q, .inr h, hk⟩⟩
  · exact .inr ⟨1, by omega, .inr ⟨q, .inl h, hk⟩⟩
  · exact .inr ⟨1, by omega, .inr ⟨q, .inr h, hk⟩⟩
def msAdd (s : MS) (m : Msg) : MS := ⟨s.op, s.q ++ [m], s.ws⟩
def msAns (s : MS) (k : Nat) (m : Msg) : MS := ⟨s.op, m :: s.q, s.ws.eraseIdx k⟩

section
variable {w : World} {c depth N : Nat} {S : Nat → Sd} {V : Nat → SV}
/-- A message more behind the others. -/
theorem made_ot {W W1 : World} (hC : CMem w c depth N S V) (t : Turn NoBlock w W) {e : Nat} (he : e < 2) (ho : (S e).op = true) {q : QM} {vo : Value} (hrow : WRow W1 49 3 vo ((S e).ot.length + 1) (qcells (S e).ot ++ q.cells)) (ht : Turn (Blk (V e).o) W W1)
    (hb : ∀ k, Blk vo k → Blk (V e).o k ∨ w.heap.size ≤ k) (hq : q.Ok W1) (hf : ∀ k, q.F k → w.heap.size ≤ k) : Made w (W1.setCell ⟨c, plc e + 2, none⟩ vo) c depth (N + 1) S V (updN (planeOf S) e (msAdd (planeOf S e) q.m)) := by
  have hs := hC.s e he
  have t' : Turn (Blk (V e).o) w W1 := (TU t).trans ht (fun k hk => .inl hk)
  have st := hs.putO (ot := (S e).ot ++ [q]) t' (by rw [List.length_append, qcells_app]; simpa [qcells] using hrow) hb (fun p hp => by
    rcases List.mem_append.1 hp with h1 | h1
    · exact .inl (.inr h1)
    · simp at h1; subst h1; exact .inr ⟨hq, hf⟩)
  have hln := hC.len e he
  obtain ⟨h1, h2, h3⟩ := hC.step he st (M := N + 1) (by omega) ⟨by show (S e).an.length ≤ N + 1; omega, by show ((S e).ot ++ [q]).length ≤ N + 1; rw [List.length_append]; simp; omega, by show (S e).ws.length ≤ N + 1; omega⟩ (fun h => by rw [show ({ S e with ot := (S e).ot ++ [q] } : Sd).op = (S e).op from rfl, ho] at h; cases h)
    (allq_ot he hC.apart (fun p hp k hk hk' => by have := hC.lt (allq_foot hp hk'); have := hf k hk; omega))
  refine ⟨_, _, h1, ?_, h2, h3⟩
  rw [plane_upd]
  congr 1
  simp [Sd.ms, Sd.q, msAdd, planeOf]
set_option maxRecDepth 20000 in
set_option maxHeartbeats 1000000 in
theorem write_put0 (hC : CMem w c depth N S V) (hN : N ≤ 1000000) (ho : (S 0).op = true) (hp : (S 1).op = true) (m : Msg) (hf : m.fits) (hw : ∀ t ∈ (S 1).ws, t.tx ≠ m.tx) (hq : (S 1).ms.q.length < depth) (vd vh : Value) (hd : RdB w vd m.d) (hh : RdI w vh m.h) :
    Calls Try.prog 36 #[.pointer (some ⟨c, 0, none⟩), .int .i64 0, .agg #[.int .i64 m.tx, vd, vh]] w fun x w' => x = .returned (.tuple #[.int .i64 (-1), .int .i64 0]) ∧ Made w w' c depth (N + 1) S V (updN (planeOf S) 1 (msAdd (planeOf S 1) m)) := by
  have HC := Lib.hid (fun W (t : Turn NoBlock w W) => show Calls Try.prog 48 #[.pointer (some ⟨c, 0, none⟩), .int .i64 0] W _ from right_yes (hC.past t) (e := 0) (by omega) ho)
  have f0 : w.cell? ⟨c, 5, none⟩ = some (.bool (S 1).op) := (hC.s 1 (by omega)).c0
  rw [hp] at f0
  have d0 := hC.c0
  have cl := (hC.s 0 (by omega)).typ.lt
  have hln := hC.len 1 (by omega)
  have CO := Lib.hid (fun w => show Calls Try.prog 52 #[.int .i64 0] w fun x w' => x = .returned (.int .i64 1) ∧ w = w' from other_any 0 (by omega) w)
  have hfi : FirstAt (fun t => t.tx == m.tx) (S 1).ws (S 1).ws.length := ⟨Nat.le_refl _, fun j t _ ht => beq_eq_false_iff_ne.2 (hw t (List.mem_of_getElem? ht)), fun t ht => by have := (List.getElem?_eq_some_iff.1 ht).1; omega⟩
  have hhit : hitAt (S 1).ws.length (S 1).ws.length = -1 := by unfold hitAt; rw [if_neg (Nat.lt_irrefl _)]
  have CF := Lib.hid (fun W (t : Turn NoBlock w W) (B : Nat) (hB : W.cell? ⟨B, 0, none⟩ = some (.int .i64 m.tx)) => show Calls Try.prog 63 #[.pointer (some ⟨c, 5, none⟩), .func (.func 64) #[] #[.pointer (some ⟨B, 0, none⟩)]] W (fun e w' => e = .returned (.int .i64 (-1)) ∧ Turn NoBlock W w') by
    have := findW ((hC.past t).s 1 (by omega)) B m.tx _ hB hfi (by omega)
    rw [hhit] at this
    exact this)
  have CN := Lib.hid (fun W (t : Turn NoBlock w W) => show Calls Try.prog 51 #[.pointer (some ⟨c, 5, none⟩)] W _ from count_any ((hC.past t).s 1 (by omega)) (by omega) (by omega))
  have D0 := Lib.hid (fun W (t : Turn NoBlock w W) => t.cell d0 (fun h => h))
  have HM := Lib.hid (And.intro hC (And.intro hp hf))
  obtain ⟨po, co, hvo⟩ := (hC.s 1 (by omega)).rowO.sl
  have o2 : w.cell? ⟨c, 5 + 2, none⟩ = some (V 1).o := (hC.s 1 (by omega)).c2
  rw [hvo] at o2
  simp only [Nat.reduceAdd] at o2
  have HO2 := Lib.hid (And.intro hvo (And.intro o2 ((hC.s 1 (by omega)).f 5)))
  have ROW := Lib.hid (fun W (t : Turn NoBlock w W) => show WRow W 49 3 (.slice po (S 1).ot.length co) (S 1).ot.length (qcells (S 1).ot) by have := ((hC.past t).s 1 (by omega)).rowO; rw [hvo] at this; exact this)
  have TYC := Lib.hid (fun W (t : Turn NoBlock w W) => ((hC.past t).s 1 (by omega)).typ)
  obtain ⟨iM, hiM, hzM, hsM, hbM⟩ := info_parts infoM
  obtain ⟨p1, c1, rfl⟩ := hd.sl
  obtain ⟨p2, c2, rfl⟩ := hh.sl
  have CP := Lib.hid (fun W (t : Turn NoBlock w W) => copied_any W m _ _ (hd.past t) (hh.past t) hf)
  have h3 : (m.d.length : Int) ≤ 4096 := by have := hf.1; omega
  have h4 : (m.h.length : Int) ≤ 64 := by have := hf.2; omega
  have h1 : ¬ (4096 : Int) < m.d.length := by omega
  have h2 : ¬ (64 : Int) < m.h.length := by omega
  have hn1 : (S 1).ms.q.length ≤ 2000000 := by rw [ms_len]; omega
  have dd := hC.d2
  have HLN := Lib.hid hln
  have HNN := Lib.hid hN
  generalize (S 1).ms.q.length = n at *
  have hnd : (n : Int) < depth := by omega
  have hnd2 : (depth : Int) ≤ 65536 := by omega
  have cF := CF.out ((w.alloc (.cells #[.int .i64 m.tx, .slice p1 m.d.length c1, .slice p2 m.h.length c2] 49)).drew) (((Turn.refl _ w).alloc _).drew) w.heap.size (by simp)
  have BX := Lib.hid (show ((w.alloc (.cells #[.int .i64 m.tx, .slice p1 m.d.length c1, .slice p2 m.h.length c2] 49)).drew).heap[w.heap.size]? = some (.cells #[.int .i64 m.tx, .slice p1 m.d.length c1, .slice p2 m.h.length c2] 49 (0, 0)) from heap_alloc_new w _)
  clear hC ho hp hf hw hfi hhit hln hN hq d0 CF o2 hvo hd hh
  go_enter Try.func36, Try.ntmps36
  go_wp2_with (go_at_call 48; (with_reducible refine (HC.out _ ((Turn.refl _ _).alloc _)).mono ?_); rintro x w' ⟨rfl, rfl⟩)
  go_region_held3 (fun _ => True) (trivial) (first | (go_at_call 52; (with_reducible refine (CO.out _).mono ?_); rintro x w2 ⟨rfl, rfl⟩))
  go_wp2_with (go_at_call 63; (with_reducible refine cF.mono ?_); rintro x w3 ⟨rfl, t3⟩; have T3 := Lib.hid (show Turn NoBlock w w3 from TT (((Turn.refl _ w).alloc _).drew) t3); have B3 := Lib.hid (t3.heap BX.out (fun h => h)); have d3 := D0.out _ T3.out; clear t3)
  go_region_held3 (fun w' => w'.cell? ⟨c, 0, none⟩ = some (.int .i64 depth)) (first | exact d3) (first | (go_at_call 51; (with_reducible refine (CN.out _ T3.out.drew).mono ?_); rintro x w4 ⟨rfl, n4, rfl⟩))
  go_wp2
  have T5 := Lib.hid (show Turn NoBlock w (w3.drewN (1 + n4)) from T3.out.drewN _)
  have b5 := (T5.out.cell HO2.out.2.1 (fun h => h))
  have x5 := box3 (show (w3.drewN (1 + n4)).heap[w.heap.size]? = _ from B3.out)
  have h5 : (w3.drewN (1 + n4)).heap[w.heap.size]? = some (.cells #[.int .i64 m.tx, .slice p1 m.d.length c1, .slice p2 m.h.length c2] 49 (0, 0)) := B3.out
  have H5 := Lib.hid h5
  generalize w3.drewN (1 + n4) = W5 at *
  obtain ⟨x50, x51, x52⟩ := x5
  clear h5 d3
  have LB := Lib.hid (And.intro (show (S 1).ot.length + 1 ≤ maxLen by unfold maxLen; have := HLN.out; have := HNN.out; omega) (show ((S 1).ot.length + 1) * 56 ≤ 140737488355328 by have := HLN.out; have := HNN.out; omega))
  go_region_law (first
    | (refine step_append_w rfl (.tmp 85) (.tmp 88) 42 42 rfl (ROW.out _ ((TT T5.out (by first | exact KQ.out.2.2 | exact TT (Turn.refl NoBlock _).drew KQ.out.2.2)).alloc _)) iM _ 56 msgsT hiM hzM hsM hbM (by rfl) (by rfl) (by rfl) (Rd.src (rd_new W6 49 3 #[.int .i64 qm.tx, .slice p3 qm.d.length c3, .slice p4 qm.h.length c4] rfl) 42 49 msgsT (fun u hu => KQ.out.1.one u hu)) LB.out.1 LB.out.2 ?_; intro v7 W7 r7 t7 k7; obtain ⟨p7, c7, rfl⟩ := r7.sl; have hcc := blk_typed (ROW.out w (Turn.refl _ _)) (TYC.out w (Turn.refl _ _)) (by decide); have t67 := (TT T5.out (show Turn NoBlock W5 W6 by first | exact KQ.out.2.2 | exact TT (Turn.refl NoBlock W5).drew KQ.out.2.2)).alloc (.cells #[.int .i64 qm.tx, .slice p3 qm.d.length c3, .slice p4 qm.h.length c4] 49); have b7 := t7.cell (t67.cell HO2.out.2.1 (fun h => h)) hcc; have f7 := ((TYC.out _ t67).kept t7 hcc).free (5 + 2); simp only [Nat.reduceAdd] at f7; have R7 := Lib.hid (And.intro r7 (And.intro t7 (And.intro k7 t67))); clear r7 t7 k7 hcc t67)
    | (go_simp; go_at_call 50; (with_reducible refine (CP.out _ (by first | exact T5.out.drew | exact T5.out)).mono ?_); rintro x W6 ⟨⟨qm, qd, qh⟩, hqm, rfl, hqk, hqf, t6⟩; dsimp only at hqm; subst hqm; obtain ⟨p3, c3, h10⟩ := hqk.d.sl; obtain ⟨p4, c4, h11⟩ := hqk.h.sl; dsimp only at h10 h11; subst h10 h11; unfold QM.agg; have b6 := t6.cell b5 (fun h => h); have l6 := World.block_lt_of_cell? _ _ b6; simp only at l6; have KQ := Lib.hid (And.intro hqk (And.intro hqf t6)); clear hqk hqf t6))
  all_goals
    go_wp2
    go_ret2
    have hws := T5.out.size
    have hwd : W5.drew.heap.size = W5.heap.size := rfl
    have t6s := R7.out.2.2.2.size
    have hqf : ∀ k, (⟨qm, .slice p3 qm.d.length c3, .slice p4 qm.h.length c4⟩ : QM).F k → w.heap.size ≤ k := fun k hk => by have := KQ.out.2.1 k hk; omega
    have hlo : ∀ k, Blk (.slice po (S 1).ot.length co) k → k < w.heap.size := fun k hk => (ROW.out w (Turn.refl _ _)).lt hk
    refine ⟨rfl, made_ot HM.out.1 R7.out.2.2.2 (e := 1) (by omega) HM.out.2.1 (q := ⟨qm, .slice p3 qm.d.length c3, .slice p4 qm.h.length c4⟩) R7.out.1 (by rw [HO2.out.1]; exact R7.out.2.1) (fun k hk => ?_) ?_ hqf⟩
    · rw [HO2.out.1]
      rcases R7.out.2.2.1 k hk with h | h
      · exact .inl h
      · right; omega
    · exact (KQ.out.1.kept ((Turn.refl NoBlock W6).alloc _) (fun _ _ h => h)).kept R7.out.2.1 (fun k hk hh => by have := hqf k hk; have := hlo k hh; omega)
set_option maxRecDepth 20000 in
set_option maxHeartbeats 1000000 in
theorem write_put1 (hC : CMem w c depth N S V) (hN : N ≤ 1000000) (ho : (S 1).op = true) (hp : (S 0).op = true) (m : Msg) (hf : m.fits) (hw : ∀ t ∈ (S 0).ws, t.tx ≠ m.tx) (hq : (S 0).ms.q.length < depth) (vd vh : Value) (hd : RdB w vd m.d) (hh : RdI w vh m.h) :
    Calls Try.prog 36 #[.pointer (some ⟨c, 0, none⟩), .int .i64 1, .agg #[.int .i64 m.tx, vd, vh]] w fun x w' => x = .returned (.tuple #[.int .i64 (-1), .int .i64 0]) ∧ Made w w' c depth (N + 1) S V (updN (planeOf S) 0 (msAdd (planeOf S 0) m)) := by
  have HC := Lib.hid (fun W (t : Turn NoBlock w W) => show Calls Try.prog 48 #[.pointer (some ⟨c, 0, none⟩), .int .i64 1] W _ from right_yes (hC.past t) (e := 1) (by omega) ho)
  have f0 : w.cell? ⟨c, 1, none⟩ = some (.bool (S 0).op) := (hC.s 0 (by omega)).c0
  rw [hp] at f0
  have d0 := hC.c0
  have cl := (hC.s 0 (by omega)).typ.lt
  have hln := hC.len 0 (by omega)
  have CO := Lib.hid (fun w => show Calls Try.prog 52 #[.int .i64 1] w fun x w' => x = .returned (.int .i64 0) ∧ w = w' from other_any 1 (by omega) w)
  have hfi : FirstAt (fun t => t.tx == m.tx) (S 0).ws (S 0).ws.length := ⟨Nat.le_refl _, fun j t _ ht => beq_eq_false_iff_ne.2 (hw t (List.mem_of_getElem? ht)), fun t ht => by have := (List.getElem?_eq_some_iff.1 ht).1; omega⟩
  have hhit : hitAt (S 0).ws.length (S 0).ws.length = -1 := by unfold hitAt; rw [if_neg (Nat.lt_irrefl _)]
  have CF := Lib.hid (fun W (t : Turn NoBlock w W) (B : Nat) (hB : W.cell? ⟨B, 0, none⟩ = some (.int .i64 m.tx)) => show Calls Try.prog 63 #[.pointer (some ⟨c, 1, none⟩), .func (.func 64) #[] #[.pointer (some ⟨B, 0, none⟩)]] W (fun e w' => e = .returned (.int .i64 (-1)) ∧ Turn NoBlock W w') by
    have := findW ((hC.past t).s 0 (by omega)) B m.tx _ hB hfi (by omega)
    rw [hhit] at this
    exact this)
  have CN := Lib.hid (fun W (t : Turn NoBlock w W) => show Calls Try.prog 51 #[.pointer (some ⟨c, 1, none⟩)] W _ from count_any ((hC.past t).s 0 (by omega)) (by omega) (by omega))
  have D0 := Lib.hid (fun W (t : Turn NoBlock w W) => t.cell d0 (fun h => h))
  have HM := Lib.hid (And.intro hC (And.intro hp hf))
  obtain ⟨po, co, hvo⟩ := (hC.s 0 (by omega)).rowO.sl
  have o2 : w.cell? ⟨c, 1 + 2, none⟩ = some (V 0).o := (hC.s 0 (by omega)).c2
  rw [hvo] at o2
  simp only [Nat.reduceAdd] at o2
  have HO2 := Lib.hid (And.intro hvo (And.intro o2 ((hC.s 0 (by omega)).f 1)))
  have ROW := Lib.hid (fun W (t : Turn NoBlock w W) => show WRow W 49 3 (.slice po (S 0).ot.length co) (S 0).ot.length (qcells (S 0).ot) by have := ((hC.past t).s 0 (by omega)).rowO; rw [hvo] at this; exact this)
  have TYC := Lib.hid (fun W (t : Turn NoBlock w W) => ((hC.past t).s 0 (by omega)).typ)
  obtain ⟨iM, hiM, hzM, hsM, hbM⟩ := info_parts infoM
  obtain ⟨p1, c1, rfl⟩ := hd.sl
  obtain ⟨p2, c2, rfl⟩ := hh.sl
  have CP := Lib.hid (fun W (t : Turn NoBlock w W) => copied_any W m _ _ (hd.past t) (hh.past t) hf)
  have h3 : (m.d.length : Int) ≤ 4096 := by have := hf.1; omega
  have h4 : (m.h.length : Int) ≤ 64 := by have := hf.2; omega
  have h1 : ¬ (4096 : Int) < m.d.length := by omega
  have h2 : ¬ (64 : Int) < m.h.length := by omega
  have hn1 : (S 0).ms.q.length ≤ 2000000 := by rw [ms_len]; omega
  have dd := hC.d2
  have HLN := Lib.hid hln
  have HNN := Lib.hid hN
  generalize (S 0).ms.q.length = n at *
  have hnd : (n : Int) < depth := by omega
  have hnd2 : (depth : Int) ≤ 65536 := by omega
  have cF := CF.out ((w.alloc (.cells #[.int .i64 m.tx, .slice p1 m.d.length c1, .slice p2 m.h.length c2] 49)).drew) (((Turn.refl _ w).alloc _).drew) w.heap.size (by simp)
  have BX := Lib.hid (show ((w.alloc (.cells #[.int .i64 m.tx, .slice p1 m.d.length c1, .slice p2 m.h.length c2] 49)).drew).heap[w.heap.size]? = some (.cells #[.int .i64 m.tx, .slice p1 m.d.length c1, .slice p2 m.h.length c2] 49 (0, 0)) from heap_alloc_new w _)
  clear hC ho hp hf hw hfi hhit hln hN hq d0 CF o2 hvo hd hh
  go_enter Try.func36, Try.ntmps36
  go_wp2_with (go_at_call 48; (with_reducible refine (HC.out _ ((Turn.refl _ _).alloc _)).mono ?_); rintro x w' ⟨rfl, rfl⟩)
  go_region_held3 (fun _ => True) (trivial) (first | (go_at_call 52; (with_reducible refine (CO.out _).mono ?_); rintro x w2 ⟨rfl, rfl⟩))
  go_wp2_with (go_at_call 63; (with_reducible refine cF.mono ?_); rintro x w3 ⟨rfl, t3⟩; have T3 := Lib.hid (show Turn NoBlock w w3 from TT (((Turn.refl _ w).alloc _).drew) t3); have B3 := Lib.hid (t3.heap BX.out (fun h => h)); have d3 := D0.out _ T3.out; clear t3)
  go_region_held3 (fun w' => w'.cell? ⟨c, 0, none⟩ = some (.int .i64 depth)) (first | exact d3) (first | (go_at_call 51; (with_reducible refine (CN.out _ T3.out.drew).mono ?_); rintro x w4 ⟨rfl, n4, rfl⟩))
  go_wp2
  have T5 := Lib.hid (show Turn NoBlock w (w3.drewN (1 + n4)) from T3.out.drewN _)
  have b5 := (T5.out.cell HO2.out.2.1 (fun h => h))
  have x5 := box3 (show (w3.drewN (1 + n4)).heap[w.heap.size]? = _ from B3.out)
  have h5 : (w3.drewN (1 + n4)).heap[w.heap.size]? = some (.cells #[.int .i64 m.tx, .slice p1 m.d.length c1, .slice p2 m.h.length c2] 49 (0, 0)) := B3.out
  have H5 := Lib.hid h5
  generalize w3.drewN (1 + n4) = W5 at *
  obtain ⟨x50, x51, x52⟩ := x5
  clear h5 d3
  have LB := Lib.hid (And.intro (show (S 0).ot.length + 1 ≤ maxLen by unfold maxLen; have := HLN.out; have := HNN.out; omega) (show ((S 0).ot.length + 1) * 56 ≤ 140737488355328 by have := HLN.out; have := HNN.out; omega))
  go_region_law (first
    | (refine step_append_w rfl (.tmp 85) (.tmp 88) 42 42 rfl (ROW.out _ ((TT T5.out (by first | exact KQ.out.2.2 | exact TT (Turn.refl NoBlock _).drew KQ.out.2.2)).alloc _)) iM _ 56 msgsT hiM hzM hsM hbM (by rfl) (by rfl) (by rfl) (Rd.src (rd_new W6 49 3 #[.int .i64 qm.tx, .slice p3 qm.d.length c3, .slice p4 qm.h.length c4] rfl) 42 49 msgsT (fun u hu => KQ.out.1.one u hu)) LB.out.1 LB.out.2 ?_; intro v7 W7 r7 t7 k7; obtain ⟨p7, c7, rfl⟩ := r7.sl; have hcc := blk_typed (ROW.out w (Turn.refl _ _)) (TYC.out w (Turn.refl _ _)) (by decide); have t67 := (TT T5.out (show Turn NoBlock W5 W6 by first | exact KQ.out.2.2 | exact TT (Turn.refl NoBlock W5).drew KQ.out.2.2)).alloc (.cells #[.int .i64 qm.tx, .slice p3 qm.d.length c3, .slice p4 qm.h.length c4] 49); have b7 := t7.cell (t67.cell HO2.out.2.1 (fun h => h)) hcc; have f7 := ((TYC.out _ t67).kept t7 hcc).free (1 + 2); simp only [Nat.reduceAdd] at f7; have R7 := Lib.hid (And.intro r7 (And.intro t7 (And.intro k7 t67))); clear r7 t7 k7 hcc t67)
    | (go_simp; go_at_call 50; (with_reducible refine (CP.out _ (by first | exact T5.out.drew | exact T5.out)).mono ?_); rintro x W6 ⟨⟨qm, qd, qh⟩, hqm, rfl, hqk, hqf, t6⟩; dsimp only at hqm; subst hqm; obtain ⟨p3, c3, h10⟩ := hqk.d.sl; obtain ⟨p4, c4, h11⟩ := hqk.h.sl; dsimp only at h10 h11; subst h10 h11; unfold QM.agg; have b6 := t6.cell b5 (fun h => h); have l6 := World.block_lt_of_cell? _ _ b6; simp only at l6; have KQ := Lib.hid (And.intro hqk (And.intro hqf t6)); clear hqk hqf t6))
  all_goals
    go_wp2
    go_ret2
    have hws := T5.out.size
    have hwd : W5.drew.heap.size = W5.heap.size := rfl
    have t6s := R7.out.2.2.2.size
    have hqf : ∀ k, (⟨qm, .slice p3 qm.d.length c3, .slice p4 qm.h.length c4⟩ : QM).F k → w.heap.size ≤ k := fun k hk => by have := KQ.out.2.1 k hk; omega
    have hlo : ∀ k, Blk (.slice po (S 0).ot.length co) k → k < w.heap.size := fun k hk => (ROW.out w (Turn.refl _ _)).lt hk
    refine ⟨rfl, made_ot HM.out.1 R7.out.2.2.2 (e := 0) (by omega) HM.out.2.1 (q := ⟨qm, .slice p3 qm.d.length c3, .slice p4 qm.h.length c4⟩) R7.out.1 (by rw [HO2.out.1]; exact R7.out.2.1) (fun k hk => ?_) ?_ hqf⟩
    · rw [HO2.out.1]
      rcases R7.out.2.2.1 k hk with h | h
      · exact .inl h
      · right; omega
    · exact (KQ.out.1.kept ((Turn.refl NoBlock W6).alloc _) (fun _ _ h => h)).kept R7.out.2.1 (fun k hk hh => by have := hqf k hk; have := hlo k hh; omega)
end
end Go.Proofs.Ytcbphfpfdfgehaa
