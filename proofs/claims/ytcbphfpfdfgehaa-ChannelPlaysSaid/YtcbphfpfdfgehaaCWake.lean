/-
  What Write makes of the channel where the message wakes a caller. No conditions but that the channel is one that calls can make, and that the message can be read and lies apart from it.
-/
import Derived.Test.YtcbphfpfdfgehaaCWrite2
namespace Go.Proofs.Ytcbphfpfdfgehaa
open Go.ChangeShapes Go.WideShapes Go.ChangeAt Go.RowKit

theorem Rd.kept {w w' : World} {F : Nat → Prop} {size : Nat} {v : Value} {n : Nat} {xs : List Value} (h : Rd w size v n xs) (t : Turn F w w') (hF : ∀ k, Blk v k → ¬ F k) : Rd w' size v n xs := by
  refine ⟨h.len, ?_⟩
  obtain ⟨p, c, rfl, h0, hc⟩ := h.form
  refine ⟨p, c, rfl, h0, fun a ha => ?_⟩
  obtain ⟨g, o, rfl, hj⟩ := hc a ha
  refine ⟨g, o, rfl, fun j hjn => ?_⟩
  have e := hj j hjn
  rw [← e]
  have hlt : j < xs.length := by rw [h.len]; exact hjn
  rw [List.getElem?_eq_getElem hlt] at e
  subst ha
  exact (t.cell e (hF g (by simp [Blk, Value.ownBlock]))).trans e.symm

section
variable {w : World} {c depth N : Nat} {S : Nat → Sd} {V : Nat → SV}
/-- One step behind another. -/
theorem Made.after {W w' : World} {M : Nat} {S1 : Nat → Sd} {V1 : Nat → SV} {K' : Nat → MS} (ht : Turn (CFoot c S V) w W) (hf : ∀ k, CFoot c S1 V1 k → CFoot c S V k ∨ w.heap.size ≤ k) (h : Made W w' c depth M S1 V1 K') : Made w w' c depth M S V K' := by
  obtain ⟨S', V', h1, h2, h3, h4⟩ := h
  exact ⟨S', V', h1, h2, ht.trans h3 hf, fun k hk => by
    rcases h4 k hk with h5 | h5
    · exact hf k h5
    · right; have := ht.size; omega⟩
/-- An answer more. -/
theorem made_an {W W1 : World} (hC : CMem w c depth N S V) (t : Turn NoBlock w W) {e : Nat} (he : e < 2) (ho : (S e).op = true) {q : QM} {va : Value} (hrow : WRow W1 49 3 va ((S e).an.length + 1) (qcells (S e).an ++ q.cells)) (ht : Turn (Blk (V e).a) W W1)
    (hb : ∀ k, Blk va k → Blk (V e).a k ∨ w.heap.size ≤ k) (hq : q.Ok W1) (hf : ∀ k, q.F k → w.heap.size ≤ k) : Made w (W1.setCell ⟨c, plc e + 1, none⟩ va) c depth (N + 1) S V (updN (planeOf S) e ⟨(planeOf S e).op, q.m :: (planeOf S e).q, (planeOf S e).ws⟩) := by
  have hs := hC.s e he
  have t' : Turn (Blk (V e).a) w W1 := (TU t).trans ht (fun k hk => .inl hk)
  have st := hs.putA (an := (S e).an ++ [q]) t' (by rw [List.length_append, qcells_app]; simpa [qcells] using hrow) hb (fun p hp => by
    rcases List.mem_append.1 hp with h1 | h1
    · exact .inl (.inl h1)
    · simp at h1; subst h1; exact .inr ⟨hq, hf⟩)
  have hln := hC.len e he
  obtain ⟨h1, h2, h3⟩ := hC.step he st (M := N + 1) (by omega) ⟨by show ((S e).an ++ [q]).length ≤ N + 1; rw [List.length_append]; simp; omega, by show (S e).ot.length ≤ N + 1; omega, by show (S e).ws.length ≤ N + 1; omega⟩ (fun h => by rw [show ({ S e with an := (S e).an ++ [q] } : Sd).op = (S e).op from rfl, ho] at h; cases h)
    (allq_an he hC.apart (fun p hp k hk hk' => by have := hC.lt (allq_foot hp hk'); have := hf k hk; omega))
  refine ⟨_, _, h1, ?_, h2, h3⟩
  rw [plane_upd]
  congr 1
  simp [Sd.ms, Sd.q, planeOf]
/-- A waiter less. -/
theorem made_ws {W W1 : World} (hC : CMem w c depth N S V) (t : Turn NoBlock w W) {e : Nat} (he : e < 2) (ho : (S e).op = true) {ws : List Wt} {vw : Value} (hrow : WRow W1 126 2 vw ws.length (wcells ws)) (ht : Turn (Blk (V e).w) W W1)
    (hb : ∀ k, Blk vw k → Blk (V e).w k ∨ w.heap.size ≤ k) {M : Nat} (hM : N ≤ M) (hl : ws.length ≤ M) : CMem (W1.setCell ⟨c, plc e + 3, none⟩ vw) c depth M (updN S e { S e with ws := ws }) (updN V e { V e with w := vw }) ∧ Turn (CFoot c S V) w (W1.setCell ⟨c, plc e + 3, none⟩ vw) ∧
      (∀ k, CFoot c (updN S e { S e with ws := ws }) (updN V e { V e with w := vw }) k → CFoot c S V k ∨ w.heap.size ≤ k) := by
  have hs := hC.s e he
  have t' : Turn (Blk (V e).w) w W1 := (TU t).trans ht (fun k hk => .inl hk)
  have st := hs.putW (ws := ws) t' hrow hb
  have hln := hC.len e he
  refine hC.step he st hM ⟨by show (S e).an.length ≤ M; omega, by show (S e).ot.length ≤ M; omega, hl⟩ (fun h => by rw [show ({ S e with ws := ws } : Sd).op = (S e).op from rfl, ho] at h; cases h) (allq_less he hC.apart (List.Sublist.refl _) (List.Sublist.refl _))
set_option maxRecDepth 20000 in
set_option maxHeartbeats 1000000 in
theorem write_wake0 (hC : CMem w c depth N S V) (hN : N ≤ 1000000) (ho : (S 0).op = true) (hp : (S 1).op = true) (m : Msg) (hf : m.fits) (k : Nat) (t : Wt) (hk : FirstAt (fun t => t.tx == m.tx) (S 1).ws k) (hkt : (S 1).ws[k]? = some t) (vd vh : Value) (hd : RdB w vd m.d) (hh : RdI w vh m.h) (hA : ∀ j, (Blk vd j ∨ Blk vh j) → ¬ CFoot c S V j) :
    Calls Try.prog 36 #[.pointer (some ⟨c, 0, none⟩), .int .i64 0, .agg #[.int .i64 m.tx, vd, vh]] w fun x w' => x = .returned (.tuple #[.int .i64 t.who, .int .i64 0]) ∧ Made w w' c depth (N + 1) S V (updN (planeOf S) 1 (msAns (planeOf S 1) k m)) := by
  have hkl := (List.getElem?_eq_some_iff.1 hkt).1
  have HC := Lib.hid (fun W (t : Turn NoBlock w W) => show Calls Try.prog 48 #[.pointer (some ⟨c, 0, none⟩), .int .i64 0] W _ from right_yes (hC.past t) (e := 0) (by omega) ho)
  have f0 : w.cell? ⟨c, 5, none⟩ = some (.bool (S 1).op) := (hC.s 1 (by omega)).c0
  rw [hp] at f0
  have cl := (hC.s 0 (by omega)).typ.lt
  have hln := hC.len 1 (by omega)
  have CO := Lib.hid (fun w => show Calls Try.prog 52 #[.int .i64 0] w fun x w' => x = .returned (.int .i64 1) ∧ w = w' from other_any 0 (by omega) w)
  have hhit : hitAt k (S 1).ws.length = (k : Int) := by unfold hitAt; rw [if_pos hkl]
  have CF := Lib.hid (fun W (t : Turn NoBlock w W) (B : Nat) (hB : W.cell? ⟨B, 0, none⟩ = some (.int .i64 m.tx)) => show Calls Try.prog 63 #[.pointer (some ⟨c, 5, none⟩), .func (.func 64) #[] #[.pointer (some ⟨B, 0, none⟩)]] W (fun e w' => e = .returned (.int .i64 (k : Int)) ∧ Turn NoBlock W w') by
    have := findW ((hC.past t).s 1 (by omega)) B m.tx _ hB hk (by omega)
    rw [hhit] at this
    exact this)
  obtain ⟨gw, ow, cw, hvw, hnc, hcm, htw, -, -⟩ := (hC.s 1 (by omega)).rowW.shape (by omega)
  have DEL := Lib.hid (fun W (t : Turn NoBlock w W) => delete_one W (V 1).w (S 1).ws k ((hC.past t).s 1 (by omega)).rowW hkl (by omega))
  have o3 : w.cell? ⟨c, 8, none⟩ = some (V 1).w := (hC.s 1 (by omega)).c3
  have hrw := (hC.s 1 (by omega)).rowW
  rw [hvw] at o3 hrw
  obtain ⟨u0, u1⟩ := wrow_two hrw hkt
  have ncw : ¬ Blk (.slice (some ⟨gw, ow, none⟩) (S 1).ws.length cw) c := blk_typed hrw (hC.s 1 (by omega)).typ (by decide)
  have hcell := And.intro o3 (And.intro u0 (And.intro ((hC.s 1 (by omega)).f (5 + 3)) ((hC.s 1 (by omega)).f (5 + 1))))
  simp only [Nat.reduceAdd] at hcell
  have HO3 := Lib.hid (And.intro hvw (And.intro hcell (And.intro hkl ncw)))
  have TYC := Lib.hid (hC.s 1 (by omega)).typ
  have HM := Lib.hid (And.intro hC (And.intro hp (And.intro hf (And.intro hN hA))))
  obtain ⟨p1, c1, rfl⟩ := hd.sl
  obtain ⟨p2, c2, rfl⟩ := hh.sl
  have HDD := Lib.hid (And.intro hd hh)
  have h3 : (m.d.length : Int) ≤ 4096 := by have := hf.1; omega
  have h4 : (m.h.length : Int) ≤ 64 := by have := hf.2; omega
  have h1 : ¬ (4096 : Int) < m.d.length := by omega
  have h2 : ¬ (64 : Int) < m.h.length := by omega
  have HLN := Lib.hid hln
  have cF := CF.out ((w.alloc (.cells #[.int .i64 m.tx, .slice p1 m.d.length c1, .slice p2 m.h.length c2] 49)).drew) (((Turn.refl _ w).alloc _).drew) w.heap.size (by simp)
  have BX := Lib.hid (show ((w.alloc (.cells #[.int .i64 m.tx, .slice p1 m.d.length c1, .slice p2 m.h.length c2] 49)).drew).heap[w.heap.size]? = some (.cells #[.int .i64 m.tx, .slice p1 m.d.length c1, .slice p2 m.h.length c2] 49 (0, 0)) from heap_alloc_new w _)
  obtain ⟨iM, hiM, hzM, hsM, hbM⟩ := info_parts infoM
  rw [hvw] at DEL
  have hki : (0 : Int) ≤ k := by omega
  have hkn : (k : Int) < ((S 1).ws.length : Int) := by omega
  have hwn : ((S 1).ws.length : Int) ≤ 1000000 := by omega
  clear hC ho hp hf hk hhit hln hN CF o3 hvw hd hh hA hnc hcm htw hrw u0 u1 ncw hcell hkl hkt
  generalize hwl : (S 1).ws.length = wl at *
  have HWL := Lib.hid hwl
  clear hwl
  go_enter Try.func36, Try.ntmps36
  go_wp2_with (go_at_call 48; (with_reducible refine (HC.out _ ((Turn.refl _ _).alloc _)).mono ?_); rintro x w' ⟨rfl, rfl⟩)
  go_region_held3 (fun _ => True) (trivial) (first | (go_at_call 52; (with_reducible refine (CO.out _).mono ?_); rintro x w2 ⟨rfl, rfl⟩))
  go_wp2_with (first
    | (go_at_call 63; (with_reducible refine cF.mono ?_); rintro x w3 ⟨rfl, t3⟩; have T3 := Lib.hid (show Turn NoBlock w w3 from TT (((Turn.refl _ w).alloc _).drew) t3); have B3 := Lib.hid (t3.heap BX.out (fun h => h)); have e3 := T3.out.cell HO3.out.2.1.1 (fun h => h); have e4 := T3.out.cell HO3.out.2.1.2.1 (fun h => h); clear t3)
    | (go_at_call 65; (with_reducible refine (DEL.out _ T3.out).mono ?_); rintro x w4 ⟨v4, rfl, r4, t4, k4⟩; obtain ⟨p4, c4, rfl⟩ := r4.sl; have g3 := t4.cell (T3.out.cell HO3.out.2.1.1 (fun h => h)) HO3.out.2.2.2; have z4 := ((TYC.out.kept T3.out (fun h => h)).kept t4 HO3.out.2.2.2).free (5 + 3); simp only [Nat.reduceAdd] at z4; have R4 := Lib.hid (And.intro r4 (And.intro t4 k4)); clear r4 t4 k4))
  obtain ⟨C4, F4, G4⟩ := made_ws HM.out.1 T3.out (e := 1) (by omega) HM.out.2.1 (ws := (S 1).ws.eraseIdx k) (vw := .slice p4 ((S 1).ws.eraseIdx k).length c4) R4.out.1 (by rw [HO3.out.1]; exact R4.out.2.1) (fun j hj => by rw [HO3.out.1]; exact .inl (R4.out.2.2 j hj)) (M := N) (Nat.le_refl _) (by have := HLN.out.2.2; have := HWL.out; have := List.length_eraseIdx_le (S 1).ws k; omega)
  simp only [plc, Nat.reduceMul, Nat.reduceAdd] at C4 F4 G4
  have t34 := (TU (F := fun j => Blk (.slice (some ⟨gw, ow, none⟩) wl cw) j) T3.out).trans R4.out.2.1 (fun j hj => .inl hj)
  have h5 : (w4.setCell ⟨c, 8, none⟩ (.slice p4 ((S 1).ws.eraseIdx k).length c4)).heap[w.heap.size]? = some (.cells #[.int .i64 m.tx, .slice p1 m.d.length c1, .slice p2 m.h.length c2] 49 (0, 0)) := by
    have hb : w.heap.size < w3.heap.size := lt_of_block B3.out
    refine set_past (R4.out.2.1.heap B3.out (fun hh => ?_)) (p := ⟨c, 8, none⟩) (show w.heap.size ≠ c by omega) _
    have h9 := (HM.out.1.s 1 (by omega)).lt (k := w.heap.size) (.inr (.inl (.inr (.inr (by rw [HO3.out.1]; exact hh)))))
    omega
  have hdd : ∀ j, (Blk (.slice p1 m.d.length c1) j ∨ Blk (.slice p2 m.h.length c2) j) → ¬ CFoot c S V j := HM.out.2.2.2.2
  have CP := Lib.hid (fun W (tt : Turn NoBlock (w4.setCell ⟨c, 8, none⟩ (.slice p4 ((S 1).ws.eraseIdx k).length c4)) W) => copied_any W m _ _ (Rd.past (Rd.kept HDD.out.1 F4 (fun j hj => hdd j (.inl hj))) tt) (Rd.past (Rd.kept HDD.out.2 F4 (fun j hj => hdd j (.inr hj))) tt) HM.out.2.2.1)
  have hs4 : updN S 1 { S 1 with ws := (S 1).ws.eraseIdx k } 1 = { S 1 with ws := (S 1).ws.eraseIdx k } := updN_same _ _ _
  have hv4 : (updN V 1 { V 1 with w := .slice p4 ((S 1).ws.eraseIdx k).length c4 } 1).a = (V 1).a := by rw [updN_same]
  have s4 := C4.s 1 (by omega)
  rw [hs4] at s4
  obtain ⟨po, co, hvo⟩ := s4.rowA.sl
  have o2 : (w4.setCell ⟨c, 8, none⟩ (.slice p4 ((S 1).ws.eraseIdx k).length c4)).cell? ⟨c, 6, none⟩ = some _ := s4.c1
  rw [hvo] at o2
  have ROW := Lib.hid (fun W (tt : Turn NoBlock (w4.setCell ⟨c, 8, none⟩ (.slice p4 ((S 1).ws.eraseIdx k).length c4)) W) => show WRow W 49 3 (.slice po (S 1).an.length co) (S 1).an.length (qcells (S 1).an) by have := (s4.past tt).rowA; rw [hvo] at this; exact this)
  have TY4 := Lib.hid s4.typ
  have HS4 := Lib.hid (And.intro C4 (And.intro F4 (And.intro G4 (And.intro hs4 hvo))))
  have HSZ := Lib.hid F4.size
  clear s4 hs4 hv4 hvo C4 F4 G4 hdd t34 g3 z4 e3 e4
  generalize w4.setCell ⟨c, 8, none⟩ (.slice p4 ((S 1).ws.eraseIdx k).length c4) = W5 at *
  have T5 := Lib.hid (Turn.refl NoBlock W5)
  have b5 := o2
  have H5 := Lib.hid h5
  obtain ⟨x50, x51, x52⟩ := box3 h5
  clear h5
  have LB := Lib.hid (And.intro (show (S 1).an.length + 1 ≤ maxLen by unfold maxLen; have := HLN.out; have := HM.out.2.2.2.1; omega) (show ((S 1).an.length + 1) * 56 ≤ 140737488355328 by have := HLN.out; have := HM.out.2.2.2.1; omega))
  go_region_law (first
    | (refine step_append_w rfl (.tmp 66) (.tmp 69) 42 42 rfl (ROW.out _ ((TT T5.out (by first | exact KQ.out.2.2 | exact TT (Turn.refl NoBlock _).drew KQ.out.2.2)).alloc _)) iM _ 56 msgsT hiM hzM hsM hbM (by rfl) (by rfl) (by rfl) (Rd.src (rd_new W6 49 3 #[.int .i64 qm.tx, .slice p3 qm.d.length c3, .slice p4' qm.h.length c4'] rfl) 42 49 msgsT (fun u hu => KQ.out.1.one u hu)) LB.out.1 LB.out.2 ?_; intro v7 W7 r7 t7 k7; obtain ⟨p7, c7, rfl⟩ := r7.sl; have hcc := blk_typed (ROW.out W5 (Turn.refl _ _)) TY4.out (by decide); have t67 := (TT T5.out (show Turn NoBlock W5 W6 by first | exact KQ.out.2.2 | exact TT (Turn.refl NoBlock W5).drew KQ.out.2.2)).alloc (.cells #[.int .i64 qm.tx, .slice p3 qm.d.length c3, .slice p4' qm.h.length c4'] 49); have b7 := t7.cell (t67.cell o2 (fun h => h)) hcc; have f7 := ((TY4.out.kept t67 (fun h => h)).kept t7 hcc).free (5 + 1); simp only [Nat.reduceAdd] at f7; have R7 := Lib.hid (And.intro r7 (And.intro t7 (And.intro k7 t67))); clear r7 t7 k7 hcc t67)
    | (go_simp; go_at_call 50; (with_reducible refine (CP.out _ (by first | exact T5.out.drew | exact T5.out)).mono ?_); rintro x W6 ⟨⟨qm, qd, qh⟩, hqm, rfl, hqk, hqf, t6⟩; dsimp only at hqm; subst hqm; obtain ⟨p3, c3, h10⟩ := hqk.d.sl; obtain ⟨p4', c4', h11⟩ := hqk.h.sl; dsimp only at h10 h11; subst h10 h11; unfold QM.agg; have b6 := t6.cell b5 (fun h => h); have l6 := World.block_lt_of_cell? _ _ b6; simp only at l6; have KQ := Lib.hid (And.intro hqk (And.intro hqf t6)); clear hqk hqf t6))
  all_goals
    go_wp2
    go_ret2
    have hwd : W5.drew.heap.size = W5.heap.size := rfl
    have t6s := R7.out.2.2.2.size
    have hqf : ∀ j, (⟨qm, .slice p3 qm.d.length c3, .slice p4' qm.h.length c4'⟩ : QM).F j → W5.heap.size ≤ j := fun j hj => by have := KQ.out.2.1 j hj; omega
    have hlo : ∀ j, Blk (.slice po (S 1).an.length co) j → j < W5.heap.size := fun j hj => (ROW.out W5 (Turn.refl _ _)).lt hj
    refine ⟨rfl, ?_⟩
    have hm := made_an HS4.out.1 R7.out.2.2.2 (e := 1) (by omega) (by rw [HS4.out.2.2.2.1]; exact HM.out.2.1) (q := ⟨qm, .slice p3 qm.d.length c3, .slice p4' qm.h.length c4'⟩) (va := .slice p7 ((S 1).an.length + 1) c7) (by rw [HS4.out.2.2.2.1]; exact R7.out.1) (by rw [HS4.out.2.2.2.2]; exact R7.out.2.1) (fun j hj => by
      rw [HS4.out.2.2.2.2]
      rcases R7.out.2.2.1 j hj with h | h
      · exact .inl h
      · right; omega) ((KQ.out.1.kept ((Turn.refl NoBlock W6).alloc _) (fun _ _ h => h)).kept R7.out.2.1 (fun j hj hh => by have := hqf j hj; have := hlo j hh; omega)) hqf
    have hmm := hm.after HS4.out.2.1 HS4.out.2.2.1
    have e1 : updN (planeOf (updN S 1 { S 1 with ws := (S 1).ws.eraseIdx k })) 1 ⟨(planeOf (updN S 1 { S 1 with ws := (S 1).ws.eraseIdx k }) 1).op, qm :: (planeOf (updN S 1 { S 1 with ws := (S 1).ws.eraseIdx k }) 1).q, (planeOf (updN S 1 { S 1 with ws := (S 1).ws.eraseIdx k }) 1).ws⟩ = updN (planeOf S) 1 (msAns (planeOf S 1) k qm) := by
      rw [plane_upd, updN_same]
      funext i
      unfold updN
      split <;> rfl
    rw [← e1]
    exact hmm
set_option maxRecDepth 20000 in
set_option maxHeartbeats 1000000 in
theorem write_wake1 (hC : CMem w c depth N S V) (hN : N ≤ 1000000) (ho : (S 1).op = true) (hp : (S 0).op = true) (m : Msg) (hf : m.fits) (k : Nat) (t : Wt) (hk : FirstAt (fun t => t.tx == m.tx) (S 0).ws k) (hkt : (S 0).ws[k]? = some t) (vd vh : Value) (hd : RdB w vd m.d) (hh : RdI w vh m.h) (hA : ∀ j, (Blk vd j ∨ Blk vh j) → ¬ CFoot c S V j) :
    Calls Try.prog 36 #[.pointer (some ⟨c, 0, none⟩), .int .i64 1, .agg #[.int .i64 m.tx, vd, vh]] w fun x w' => x = .returned (.tuple #[.int .i64 t.who, .int .i64 0]) ∧ Made w w' c depth (N + 1) S V (updN (planeOf S) 0 (msAns (planeOf S 0) k m)) := by
  have hkl := (List.getElem?_eq_some_iff.1 hkt).1
  have HC := Lib.hid (fun W (t : Turn NoBlock w W) => show Calls Try.prog 48 #[.pointer (some ⟨c, 0, none⟩), .int .i64 1] W _ from right_yes (hC.past t) (e := 1) (by omega) ho)
  have f0 : w.cell? ⟨c, 1, none⟩ = some (.bool (S 0).op) := (hC.s 0 (by omega)).c0
  rw [hp] at f0
  have cl := (hC.s 0 (by omega)).typ.lt
  have hln := hC.len 0 (by omega)
  have CO := Lib.hid (fun w => show Calls Try.prog 52 #[.int .i64 1] w fun x w' => x = .returned (.int .i64 0) ∧ w = w' from other_any 1 (by omega) w)
  have hhit : hitAt k (S 0).ws.length = (k : Int) := by unfold hitAt; rw [if_pos hkl]
  have CF := Lib.hid (fun W (t : Turn NoBlock w W) (B : Nat) (hB : W.cell? ⟨B, 0, none⟩ = some (.int .i64 m.tx)) => show Calls Try.prog 63 #[.pointer (some ⟨c, 1, none⟩), .func (.func 64) #[] #[.pointer (some ⟨B, 0, none⟩)]] W (fun e w' => e = .returned (.int .i64 (k : Int)) ∧ Turn NoBlock W w') by
    have := findW ((hC.past t).s 0 (by omega)) B m.tx _ hB hk (by omega)
    rw [hhit] at this
    exact this)
  obtain ⟨gw, ow, cw, hvw, hnc, hcm, htw, -, -⟩ := (hC.s 0 (by omega)).rowW.shape (by omega)
  have DEL := Lib.hid (fun W (t : Turn NoBlock w W) => delete_one W (V 0).w (S 0).ws k ((hC.past t).s 0 (by omega)).rowW hkl (by omega))
  have o3 : w.cell? ⟨c, 4, none⟩ = some (V 0).w := (hC.s 0 (by omega)).c3
  have hrw := (hC.s 0 (by omega)).rowW
  rw [hvw] at o3 hrw
  obtain ⟨u0, u1⟩ := wrow_two hrw hkt
  have ncw : ¬ Blk (.slice (some ⟨gw, ow, none⟩) (S 0).ws.length cw) c := blk_typed hrw (hC.s 0 (by omega)).typ (by decide)
  have hcell := And.intro o3 (And.intro u0 (And.intro ((hC.s 0 (by omega)).f (1 + 3)) ((hC.s 0 (by omega)).f (1 + 1))))
  simp only [Nat.reduceAdd] at hcell
  have HO3 := Lib.hid (And.intro hvw (And.intro hcell (And.intro hkl ncw)))
  have TYC := Lib.hid (hC.s 0 (by omega)).typ
  have HM := Lib.hid (And.intro hC (And.intro hp (And.intro hf (And.intro hN hA))))
  obtain ⟨p1, c1, rfl⟩ := hd.sl
  obtain ⟨p2, c2, rfl⟩ := hh.sl
  have HDD := Lib.hid (And.intro hd hh)
  have h3 : (m.d.length : Int) ≤ 4096 := by have := hf.1; omega
  have h4 : (m.h.length : Int) ≤ 64 := by have := hf.2; omega
  have h1 : ¬ (4096 : Int) < m.d.length := by omega
  have h2 : ¬ (64 : Int) < m.h.length := by omega
  have HLN := Lib.hid hln
  have cF := CF.out ((w.alloc (.cells #[.int .i64 m.tx, .slice p1 m.d.length c1, .slice p2 m.h.length c2] 49)).drew) (((Turn.refl _ w).alloc _).drew) w.heap.size (by simp)
  have BX := Lib.hid (show ((w.alloc (.cells #[.int .i64 m.tx, .slice p1 m.d.length c1, .slice p2 m.h.length c2] 49)).drew).heap[w.heap.size]? = some (.cells #[.int .i64 m.tx, .slice p1 m.d.length c1, .slice p2 m.h.length c2] 49 (0, 0)) from heap_alloc_new w _)
  obtain ⟨iM, hiM, hzM, hsM, hbM⟩ := info_parts infoM
  rw [hvw] at DEL
  have hki : (0 : Int) ≤ k := by omega
  have hkn : (k : Int) < ((S 0).ws.length : Int) := by omega
  have hwn : ((S 0).ws.length : Int) ≤ 1000000 := by omega
  clear hC ho hp hf hk hhit hln hN CF o3 hvw hd hh hA hnc hcm htw hrw u0 u1 ncw hcell hkl hkt
  generalize hwl : (S 0).ws.length = wl at *
  have HWL := Lib.hid hwl
  clear hwl
  go_enter Try.func36, Try.ntmps36
  go_wp2_with (go_at_call 48; (with_reducible refine (HC.out _ ((Turn.refl _ _).alloc _)).mono ?_); rintro x w' ⟨rfl, rfl⟩)
  go_region_held3 (fun _ => True) (trivial) (first | (go_at_call 52; (with_reducible refine (CO.out _).mono ?_); rintro x w2 ⟨rfl, rfl⟩))
  go_wp2_with (first
    | (go_at_call 63; (with_reducible refine cF.mono ?_); rintro x w3 ⟨rfl, t3⟩; have T3 := Lib.hid (show Turn NoBlock w w3 from TT (((Turn.refl _ w).alloc _).drew) t3); have B3 := Lib.hid (t3.heap BX.out (fun h => h)); have e3 := T3.out.cell HO3.out.2.1.1 (fun h => h); have e4 := T3.out.cell HO3.out.2.1.2.1 (fun h => h); clear t3)
    | (go_at_call 65; (with_reducible refine (DEL.out _ T3.out).mono ?_); rintro x w4 ⟨v4, rfl, r4, t4, k4⟩; obtain ⟨p4, c4, rfl⟩ := r4.sl; have g3 := t4.cell (T3.out.cell HO3.out.2.1.1 (fun h => h)) HO3.out.2.2.2; have z4 := ((TYC.out.kept T3.out (fun h => h)).kept t4 HO3.out.2.2.2).free (1 + 3); simp only [Nat.reduceAdd] at z4; have R4 := Lib.hid (And.intro r4 (And.intro t4 k4)); clear r4 t4 k4))
  obtain ⟨C4, F4, G4⟩ := made_ws HM.out.1 T3.out (e := 0) (by omega) HM.out.2.1 (ws := (S 0).ws.eraseIdx k) (vw := .slice p4 ((S 0).ws.eraseIdx k).length c4) R4.out.1 (by rw [HO3.out.1]; exact R4.out.2.1) (fun j hj => by rw [HO3.out.1]; exact .inl (R4.out.2.2 j hj)) (M := N) (Nat.le_refl _) (by have := HLN.out.2.2; have := HWL.out; have := List.length_eraseIdx_le (S 0).ws k; omega)
  simp only [plc, Nat.reduceMul, Nat.reduceAdd] at C4 F4 G4
  have t34 := (TU (F := fun j => Blk (.slice (some ⟨gw, ow, none⟩) wl cw) j) T3.out).trans R4.out.2.1 (fun j hj => .inl hj)
  have h5 : (w4.setCell ⟨c, 4, none⟩ (.slice p4 ((S 0).ws.eraseIdx k).length c4)).heap[w.heap.size]? = some (.cells #[.int .i64 m.tx, .slice p1 m.d.length c1, .slice p2 m.h.length c2] 49 (0, 0)) := by
    have hb : w.heap.size < w3.heap.size := lt_of_block B3.out
    refine set_past (R4.out.2.1.heap B3.out (fun hh => ?_)) (p := ⟨c, 4, none⟩) (show w.heap.size ≠ c by omega) _
    have h9 := (HM.out.1.s 0 (by omega)).lt (k := w.heap.size) (.inr (.inl (.inr (.inr (by rw [HO3.out.1]; exact hh)))))
    omega
  have hdd : ∀ j, (Blk (.slice p1 m.d.length c1) j ∨ Blk (.slice p2 m.h.length c2) j) → ¬ CFoot c S V j := HM.out.2.2.2.2
  have CP := Lib.hid (fun W (tt : Turn NoBlock (w4.setCell ⟨c, 4, none⟩ (.slice p4 ((S 0).ws.eraseIdx k).length c4)) W) => copied_any W m _ _ (Rd.past (Rd.kept HDD.out.1 F4 (fun j hj => hdd j (.inl hj))) tt) (Rd.past (Rd.kept HDD.out.2 F4 (fun j hj => hdd j (.inr hj))) tt) HM.out.2.2.1)
  have hs4 : updN S 0 { S 0 with ws := (S 0).ws.eraseIdx k } 0 = { S 0 with ws := (S 0).ws.eraseIdx k } := updN_same _ _ _
  have hv4 : (updN V 0 { V 0 with w := .slice p4 ((S 0).ws.eraseIdx k).length c4 } 0).a = (V 0).a := by rw [updN_same]
  have s4 := C4.s 0 (by omega)
  rw [hs4] at s4
  obtain ⟨po, co, hvo⟩ := s4.rowA.sl
  have o2 : (w4.setCell ⟨c, 4, none⟩ (.slice p4 ((S 0).ws.eraseIdx k).length c4)).cell? ⟨c, 2, none⟩ = some _ := s4.c1
  rw [hvo] at o2
  have ROW := Lib.hid (fun W (tt : Turn NoBlock (w4.setCell ⟨c, 4, none⟩ (.slice p4 ((S 0).ws.eraseIdx k).length c4)) W) => show WRow W 49 3 (.slice po (S 0).an.length co) (S 0).an.length (qcells (S 0).an) by have := (s4.past tt).rowA; rw [hvo] at this; exact this)
  have TY4 := Lib.hid s4.typ
  have HS4 := Lib.hid (And.intro C4 (And.intro F4 (And.intro G4 (And.intro hs4 hvo))))
  have HSZ := Lib.hid F4.size
  clear s4 hs4 hv4 hvo C4 F4 G4 hdd t34 g3 z4 e3 e4
  generalize w4.setCell ⟨c, 4, none⟩ (.slice p4 ((S 0).ws.eraseIdx k).length c4) = W5 at *
  have T5 := Lib.hid (Turn.refl NoBlock W5)
  have b5 := o2
  have H5 := Lib.hid h5
  obtain ⟨x50, x51, x52⟩ := box3 h5
  clear h5
  have LB := Lib.hid (And.intro (show (S 0).an.length + 1 ≤ maxLen by unfold maxLen; have := HLN.out; have := HM.out.2.2.2.1; omega) (show ((S 0).an.length + 1) * 56 ≤ 140737488355328 by have := HLN.out; have := HM.out.2.2.2.1; omega))
  go_region_law (first
    | (refine step_append_w rfl (.tmp 66) (.tmp 69) 42 42 rfl (ROW.out _ ((TT T5.out (by first | exact KQ.out.2.2 | exact TT (Turn.refl NoBlock _).drew KQ.out.2.2)).alloc _)) iM _ 56 msgsT hiM hzM hsM hbM (by rfl) (by rfl) (by rfl) (Rd.src (rd_new W6 49 3 #[.int .i64 qm.tx, .slice p3 qm.d.length c3, .slice p4' qm.h.length c4'] rfl) 42 49 msgsT (fun u hu => KQ.out.1.one u hu)) LB.out.1 LB.out.2 ?_; intro v7 W7 r7 t7 k7; obtain ⟨p7, c7, rfl⟩ := r7.sl; have hcc := blk_typed (ROW.out W5 (Turn.refl _ _)) TY4.out (by decide); have t67 := (TT T5.out (show Turn NoBlock W5 W6 by first | exact KQ.out.2.2 | exact TT (Turn.refl NoBlock W5).drew KQ.out.2.2)).alloc (.cells #[.int .i64 qm.tx, .slice p3 qm.d.length c3, .slice p4' qm.h.length c4'] 49); have b7 := t7.cell (t67.cell o2 (fun h => h)) hcc; have f7 := ((TY4.out.kept t67 (fun h => h)).kept t7 hcc).free (1 + 1); simp only [Nat.reduceAdd] at f7; have R7 := Lib.hid (And.intro r7 (And.intro t7 (And.intro k7 t67))); clear r7 t7 k7 hcc t67)
    | (go_simp; go_at_call 50; (with_reducible refine (CP.out _ (by first | exact T5.out.drew | exact T5.out)).mono ?_); rintro x W6 ⟨⟨qm, qd, qh⟩, hqm, rfl, hqk, hqf, t6⟩; dsimp only at hqm; subst hqm; obtain ⟨p3, c3, h10⟩ := hqk.d.sl; obtain ⟨p4', c4', h11⟩ := hqk.h.sl; dsimp only at h10 h11; subst h10 h11; unfold QM.agg; have b6 := t6.cell b5 (fun h => h); have l6 := World.block_lt_of_cell? _ _ b6; simp only at l6; have KQ := Lib.hid (And.intro hqk (And.intro hqf t6)); clear hqk hqf t6))
  all_goals
    go_wp2
    go_ret2
    have hwd : W5.drew.heap.size = W5.heap.size := rfl
    have t6s := R7.out.2.2.2.size
    have hqf : ∀ j, (⟨qm, .slice p3 qm.d.length c3, .slice p4' qm.h.length c4'⟩ : QM).F j → W5.heap.size ≤ j := fun j hj => by have := KQ.out.2.1 j hj; omega
    have hlo : ∀ j, Blk (.slice po (S 0).an.length co) j → j < W5.heap.size := fun j hj => (ROW.out W5 (Turn.refl _ _)).lt hj
    refine ⟨rfl, ?_⟩
    have hm := made_an HS4.out.1 R7.out.2.2.2 (e := 0) (by omega) (by rw [HS4.out.2.2.2.1]; exact HM.out.2.1) (q := ⟨qm, .slice p3 qm.d.length c3, .slice p4' qm.h.length c4'⟩) (va := .slice p7 ((S 0).an.length + 1) c7) (by rw [HS4.out.2.2.2.1]; exact R7.out.1) (by rw [HS4.out.2.2.2.2]; exact R7.out.2.1) (fun j hj => by
      rw [HS4.out.2.2.2.2]
      rcases R7.out.2.2.1 j hj with h | h
      · exact .inl h
      · right; omega) ((KQ.out.1.kept ((Turn.refl NoBlock W6).alloc _) (fun _ _ h => h)).kept R7.out.2.1 (fun j hj hh => by have := hqf j hj; have := hlo j hh; omega)) hqf
    have hmm := hm.after HS4.out.2.1 HS4.out.2.2.1
    have e1 : updN (planeOf (updN S 0 { S 0 with ws := (S 0).ws.eraseIdx k })) 0 ⟨(planeOf (updN S 0 { S 0 with ws := (S 0).ws.eraseIdx k }) 0).op, qm :: (planeOf (updN S 0 { S 0 with ws := (S 0).ws.eraseIdx k }) 0).q, (planeOf (updN S 0 { S 0 with ws := (S 0).ws.eraseIdx k }) 0).ws⟩ = updN (planeOf S) 0 (msAns (planeOf S 0) k qm) := by
      rw [plane_upd, updN_same]
      funext i
      unfold updN
      split <;> rfl
    rw [← e1]
    exact hmm
end
end Go.Proofs.Ytcbphfpfdfgehaa
