/-
  What blank tells: as many bytes and handles as a message has, all of them 0, in new memory. No conditions but that the message's lists are no longer than a message's.
-/
import Derived.Test.YtcbphfpfdfgehaaCCopy
import Derived.Laws.OwnMore
namespace Go.Proofs.Ytcbphfpfdfgehaa
open Go.ChangeShapes Go.WideShapes Go.ChangeAt Go.RowKit

def Msg.blank (m : Msg) : Msg := ⟨0, List.replicate m.d.length 0, List.replicate m.h.length 0⟩
theorem turn_grown {w w' : World} (h : w.grownBy w' none) : Turn NoBlock w w' := (Turn.refl NoBlock w).grown h (fun k e => by cases e)
theorem made_bytes {w' : World} {g n : Nat} (h : w'.ownsRow 0 5 1 (.slice (some ⟨g, 0, none⟩) n n) n (madeCells (Value.int .u8 0).cells (n * 1)).toList) : Byts (.slice (some ⟨g, 0, none⟩) n n) (List.replicate n 0) w' := by
  have e : (madeCells (Value.int .u8 0).cells (n * 1)).toList = bcells (List.replicate n 0) := by
    show (madeCells #[Value.int .u8 0] (n * 1)).toList = _
    rw [toList_madeCells_one, Nat.mul_one]
    simp [bcells]
  rw [e] at h
  unfold Byts
  rw [List.length_replicate]
  exact WRow.of_own h
theorem made_nums {w' : World} {g n : Nat} (h : w'.ownsRow 0 3 1 (.slice (some ⟨g, 0, none⟩) n n) n (madeCells (Value.int .i64 0).cells (n * 1)).toList) : Nums (.slice (some ⟨g, 0, none⟩) n n) (List.replicate n 0) w' := by
  have e : (madeCells (Value.int .i64 0).cells (n * 1)).toList = icells (List.replicate n 0) := by
    show (madeCells #[Value.int .i64 0] (n * 1)).toList = _
    rw [toList_madeCells_one, Nat.mul_one]
    simp [icells]
  rw [e] at h
  unfold Nums
  rw [List.length_replicate]
  exact WRow.of_own h

set_option maxRecDepth 20000 in
set_option maxHeartbeats 1000000 in
theorem blank_any (w : World) (m : Msg) (vd vh : Value) (hd : ∃ p c, vd = .slice p m.d.length c) (hh : ∃ p c, vh = .slice p m.h.length c) (hf : m.fits) :
    Calls Try.prog 66 #[.agg #[.int .i64 m.tx, vd, vh]] w fun e w' => ∃ q : QM, q.m = m.blank ∧ e = .returned q.agg ∧ q.Ok w' ∧ (∀ k, q.F k → w.heap.size ≤ k) ∧ Turn NoBlock w w' := by
  obtain ⟨i5, hi5, hz5, hs5, hb5⟩ := info_parts infoB
  obtain ⟨i3, hi3, hz3, hs3, hb3⟩ := info_parts infoI
  obtain ⟨p, pc, rfl⟩ := hd
  obtain ⟨r, rc, rfl⟩ := hh
  have HF := Lib.hid hf
  have n1 := hf.1
  have n2 := hf.2
  have e1 : Msg.blank m = ⟨0, List.replicate m.d.length 0, List.replicate m.h.length 0⟩ := rfl
  have hbf : (Msg.blank m).fits := by rw [e1]; exact ⟨by simpa using n1, by simpa using n2⟩
  rw [e1] at hbf ⊢
  have HBF := Lib.hid hbf
  clear e1 hbf hf
  generalize m.d.length = x at *
  generalize m.h.length = y at *
  generalize m.tx = tx at *
  go_enter Try.func66, Try.ntmps66
  go_wp2_with fail
  have T0 := Lib.hid (show Turn NoBlock w ((w.alloc (.cells #[.int .i64 tx, .slice p x pc, .slice r y rc] 49)).alloc (.cells #[.int .i64 0, .slice none 0 0, .slice none 0 0] 49)) from ((Turn.refl _ w).alloc _).alloc _)
  have b0 : ((w.alloc (.cells #[.int .i64 tx, .slice p x pc, .slice r y rc] 49)).alloc (.cells #[.int .i64 0, .slice none 0 0, .slice none 0 0] 49)).heap[w.heap.size]? = some (.cells #[.int .i64 tx, .slice p x pc, .slice r y rc] 49 (0, 0)) := (Below.heap_alloc _ _ _ (by simp)).trans (heap_alloc_new w _)
  have r0 : ((w.alloc (.cells #[.int .i64 tx, .slice p x pc, .slice r y rc] 49)).alloc (.cells #[.int .i64 0, .slice none 0 0, .slice none 0 0] 49)).heap[w.heap.size + 1]? = some (.cells #[.int .i64 0, .slice none 0 0, .slice none 0 0] 49 (0, 0)) := by
    have := heap_alloc_new (w.alloc (.cells #[.int .i64 tx, .slice p x pc, .slice r y rc] 49)) (.cells #[.int .i64 0, .slice none 0 0, .slice none 0 0] 49)
    rwa [World.size_alloc] at this
  generalize hW : (w.alloc (.cells #[.int .i64 tx, .slice p x pc, .slice r y rc] 49)).alloc (.cells #[.int .i64 0, .slice none 0 0, .slice none 0 0] 49) = W at *
  have hsz : W.heap.size = w.heap.size + 2 := by rw [← hW]; simp
  obtain ⟨W1, hm1, ho1, hg1⟩ := run_make_full (P := Try.prog) W.drew 0 35 5 i5 _ 1 bytesT hi5 hz5 hs5 .i64 .i64 x (by rw [hb5]; omega) (by unfold maxLen; omega) (Nat.zero_le _)
  obtain ⟨W2, hm2, ho2, hg2⟩ := run_make_full (P := Try.prog) W1 0 36 3 i3 _ 1 intsT hi3 hz3 hs3 .i64 .i64 y (by rw [hb3]; omega) (by unfold maxLen; omega) (Nat.zero_le _)
  obtain ⟨V1, jm1, jo1, jg1⟩ := run_make_full (P := Try.prog) W.drew 0 36 3 i3 _ 1 intsT hi3 hz3 hs3 .i64 .i64 y (by rw [hb3]; omega) (by unfold maxLen; omega) (Nat.zero_le _)
  obtain ⟨V2, jm2, jo2, jg2⟩ := run_make_full (P := Try.prog) V1 0 35 5 i5 _ 1 bytesT hi5 hz5 hs5 .i64 .i64 x (by rw [hb5]; omega) (by unfold maxLen; omega) (Nat.zero_le _)
  have u1 : Turn NoBlock W W1 := TT (Turn.refl NoBlock W).drew (turn_grown hg1)
  have u2 : Turn NoBlock W W2 := TT u1 (turn_grown hg2)
  have v1 : Turn NoBlock W V1 := TT (Turn.refl NoBlock W).drew (turn_grown jg1)
  have v2 : Turn NoBlock W V2 := TT v1 (turn_grown jg2)
  have s0 := box3 b0
  have s1 := box3 (u1.heap b0 (fun h => h))
  have s2 := box3 (u2.heap b0 (fun h => h))
  have s3 := box3 (v1.heap b0 (fun h => h))
  have s4 := box3 (v2.heap b0 (fun h => h))
  obtain ⟨x0, x1, x3⟩ := box3 (u2.heap r0 (fun h => h))
  obtain ⟨y0, y1, y3⟩ := box3 (v2.heap r0 (fun h => h))
  have f0 := free_at (u2.heap r0 (fun h => h)) 0
  have f1 := free_at (u2.heap r0 (fun h => h)) 1
  have f2 := free_at (u2.heap r0 (fun h => h)) 2
  have k0 := free_at (v2.heap r0 (fun h => h)) 0
  have k1 := free_at (v2.heap r0 (fun h => h)) 1
  have k2 := free_at (v2.heap r0 (fun h => h)) 2
  have HB := Lib.hid (fun W' (t : Turn (fun k => k = w.heap.size + 1) W W') => box3 (t.heap b0 (fun h => by omega)))
  have hgs : W.drew.heap.size = w.heap.size + 2 := hsz
  have X := Lib.hid (And.intro (Byts.past (made_bytes ho1) (turn_grown hg2)) (And.intro (made_nums ho2) (And.intro u2 (And.intro u1.size hsz))))
  have Y := Lib.hid (And.intro (made_bytes jo2) (And.intro (Nums.past (made_nums jo1) (turn_grown jg2)) (And.intro v2 (And.intro v1.size hsz))))
  clear hW hsz b0 r0 ho1 ho2 hg1 hg2 u1 u2 jo1 jo2 jg1 jg2 v1 v2
  have HG := Lib.hid hgs
  clear hgs
  go_region_held3 (fun w' => (w'.cell? ⟨w.heap.size, 0, none⟩ = some (.int .i64 tx) ∧ w'.cell? ⟨w.heap.size, 1, none⟩ = some (.slice p x pc) ∧ w'.cell? ⟨w.heap.size, 2, none⟩ = some (.slice r y rc)))
    (first | exact s0 | exact s1 | exact s2 | exact s3 | exact s4 | exact HB.out _ (turn_set3 X.out.2.2.1) | exact HB.out _ (turn_set3 Y.out.2.2.1))
    (fail)
  · go_wp2
    have q1 := X.out.2.2.2
    have q2 := HG.out
    refine bodyPost_ret (v := .agg #[.int .i64 0, .slice (some ⟨W.drew.heap.size, 0, none⟩) x x, .slice (some ⟨W1.heap.size, 0, none⟩) y y]) (by simp [results, Try.results66, go_sem, x0, x1, x3]) rfl ⟨⟨_, _, _⟩, rfl, rfl, ?_, ?_, ?_⟩
    · refine ⟨X.out.1.kept (turn_set3 (R := w.heap.size + 1) (Turn.refl _ _)) (fun k hk => ?_), X.out.2.1.kept (turn_set3 (R := w.heap.size + 1) (Turn.refl _ _)) (fun k hk => ?_), HBF.out⟩
      all_goals (simp [Blk, Value.ownBlock] at hk; omega)
    · intro k hk
      rcases hk with hk | hk
      all_goals (simp [Blk, Value.ownBlock] at hk; omega)
    · exact (TT T0.out X.out.2.2.1).trans (turn_set3 (R := w.heap.size + 1) (Turn.refl _ _)) (fun k hk => .inr (by omega))
  · go_wp2
    have q1 := Y.out.2.2.2
    have q2 := HG.out
    refine bodyPost_ret (v := .agg #[.int .i64 0, .slice (some ⟨V1.heap.size, 0, none⟩) x x, .slice (some ⟨W.drew.heap.size, 0, none⟩) y y]) (by simp [results, Try.results66, go_sem, y0, y1, y3]) rfl ⟨⟨_, _, _⟩, rfl, rfl, ?_, ?_, ?_⟩
    · refine ⟨Y.out.1.kept (turn_set3 (R := w.heap.size + 1) (Turn.refl _ _)) (fun k hk => ?_), Y.out.2.1.kept (turn_set3 (R := w.heap.size + 1) (Turn.refl _ _)) (fun k hk => ?_), HBF.out⟩
      all_goals (simp [Blk, Value.ownBlock] at hk; omega)
    · intro k hk
      rcases hk with hk | hk
      all_goals (simp [Blk, Value.ownBlock] at hk; omega)
    · exact (TT T0.out Y.out.2.2.1).trans (turn_set3 (R := w.heap.size + 1) (Turn.refl _ _)) (fun k hk => .inr (by omega))
end Go.Proofs.Ytcbphfpfdfgehaa
