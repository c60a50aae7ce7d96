/-
  What copied tells: a message like m, in memory of its own. No conditions but that m's lists can be read, and are no longer than a message's.
-/
import Derived.Test.YtcbphfpfdfgehaaCApp
import Derived.Deep.RegionHeld3
namespace Go.Proofs.Ytcbphfpfdfgehaa
open Go.ChangeShapes Go.WideShapes Go.ChangeAt Go.RowKit


theorem TT {A B C : World} (h : Turn NoBlock A B) (k : Turn NoBlock B C) : Turn NoBlock A C := h.trans k (fun _ h => .inl h)
theorem TU {A B : World} {F : Nat → Prop} (h : Turn NoBlock A B) : Turn F A B := h.mono (fun _ h => h.elim)
theorem turn_set3 {W X : World} {R : Nat} {u1 u2 u3 : Value} (h : Turn NoBlock W X) : Turn (fun k => k = R) W (((X.setCell ⟨R, 0, none⟩ u1).setCell ⟨R, 1, none⟩ u2).setCell ⟨R, 2, none⟩ u3) :=
  (((TU (F := fun k => k = R) h).setCell (p := ⟨R, 0, none⟩) (.inl rfl) _).setCell (p := ⟨R, 1, none⟩) (.inl rfl) _).setCell (p := ⟨R, 2, none⟩) (.inl rfl) _
theorem nil_turn {A B : World} (h : Turn (Blk (.slice none 0 0)) A B) : Turn NoBlock A B := h.mono (fun k hk => (blk_nil k hk).elim)
theorem box3 {w : World} {a : Nat} {x y z : Value} {t : TypeId} (h : w.heap[a]? = some (.cells #[x, y, z] t (0, 0))) : w.cell? ⟨a, 0, none⟩ = some x ∧ w.cell? ⟨a, 1, none⟩ = some y ∧ w.cell? ⟨a, 2, none⟩ = some z :=
  ⟨by rw [cell_at h]; rfl, by rw [cell_at h]; rfl, by rw [cell_at h]; rfl⟩

set_option maxRecDepth 20000 in
set_option maxHeartbeats 1000000 in
theorem copied_any (w : World) (m : Msg) (vd vh : Value) (hd : RdB w vd m.d) (hh : RdI w vh m.h) (hf : m.fits) :
    Calls Try.prog 50 #[.agg #[.int .i64 m.tx, vd, vh]] w fun e w' => ∃ q : QM, q.m = m ∧ e = .returned q.agg ∧ q.Ok w' ∧ (∀ k, q.F k → w.heap.size ≤ k) ∧ Turn NoBlock w w' := by
  obtain ⟨i5, hi5, hz5, hs5, hb5⟩ := info_parts infoB
  obtain ⟨i3, hi3, hz3, hs3, hb3⟩ := info_parts infoI
  obtain ⟨p, pc, hp⟩ := hd.sl
  obtain ⟨r, rc, hr⟩ := hh.sl
  have HD := Lib.hid (fun W (t : Turn NoBlock w W) => Rd.src (Rd.past hd t) 35 5 bytesT (bcells_one _))
  have HH := Lib.hid (fun W (t : Turn NoBlock w W) => Rd.src (Rd.past hh t) 36 3 intsT (icells_one _))
  have HF := Lib.hid hf
  subst hp hr
  clear hd hh
  have f1 : 0 + m.d.length ≤ maxLen := by unfold maxLen; have := hf.1; omega
  have f2 : (0 + m.d.length) * 1 ≤ 140737488355328 := by have := hf.1; omega
  have f3 : 0 + m.h.length ≤ maxLen := by unfold maxLen; have := hf.2; omega
  have f4 : (0 + m.h.length) * 8 ≤ 140737488355328 := by have := hf.2; omega
  have F1 := Lib.hid (And.intro f1 (And.intro f2 (And.intro f3 f4)))
  clear f1 f2 f3 f4 hf
  go_enter Try.func50, Try.ntmps50
  go_wp2_with fail
  have T0 := Lib.hid (show Turn NoBlock w ((w.alloc (.cells #[.int .i64 m.tx, .slice p m.d.length pc, .slice r m.h.length rc] 49)).alloc (.cells #[.int .i64 0, .slice none 0 0, .slice none 0 0] 49)) from ((Turn.refl _ w).alloc _).alloc _)
  have b0 : ((w.alloc (.cells #[.int .i64 m.tx, .slice p m.d.length pc, .slice r m.h.length rc] 49)).alloc (.cells #[.int .i64 0, .slice none 0 0, .slice none 0 0] 49)).heap[w.heap.size]? = some (.cells #[.int .i64 m.tx, .slice p m.d.length pc, .slice r m.h.length rc] 49 (0, 0)) := (Below.heap_alloc _ _ _ (by simp)).trans (heap_alloc_new w _)
  have r0 : ((w.alloc (.cells #[.int .i64 m.tx, .slice p m.d.length pc, .slice r m.h.length rc] 49)).alloc (.cells #[.int .i64 0, .slice none 0 0, .slice none 0 0] 49)).heap[w.heap.size + 1]? = some (.cells #[.int .i64 0, .slice none 0 0, .slice none 0 0] 49 (0, 0)) := by
    have := heap_alloc_new (w.alloc (.cells #[.int .i64 m.tx, .slice p m.d.length pc, .slice r m.h.length rc] 49)) (.cells #[.int .i64 0, .slice none 0 0, .slice none 0 0] 49)
    rwa [World.size_alloc] at this
  generalize hW : (w.alloc (.cells #[.int .i64 m.tx, .slice p m.d.length pc, .slice r m.h.length rc] 49)).alloc (.cells #[.int .i64 0, .slice none 0 0, .slice none 0 0] 49) = W at *
  have hsz : W.heap.size = w.heap.size + 2 := by rw [← hW]; simp
  have HB := Lib.hid (fun W' (t : Turn (fun k => k = w.heap.size + 1) W W') => box3 (t.heap b0 (fun h => by omega)))
  have HQ := Lib.hid (fun W' (t : Turn NoBlock W W') => (And.intro (box3 (t.heap r0 (fun h => h))) (And.intro (free_at (t.heap r0 (fun h => h)) 0) (And.intro (free_at (t.heap r0 (fun h => h)) 1) (free_at (t.heap r0 (fun h => h)) 2)))))
  have HR := Lib.hid (fun W' (t : Turn NoBlock W W') => t.heap r0 (fun h => h))
  have HS := Lib.hid hsz
  clear hW hsz b0 r0
  have s0 := HB.out W (Turn.refl _ _)
  go_region_held3 (fun w' => (w'.cell? ⟨w.heap.size, 0, none⟩ = some (.int .i64 m.tx) ∧ w'.cell? ⟨w.heap.size, 1, none⟩ = some (.slice p m.d.length pc) ∧ w'.cell? ⟨w.heap.size, 2, none⟩ = some (.slice r m.h.length rc)))
    (first | exact s0 | exact HB.out _ (TU UD.out) | exact HB.out _ (TU UH.out) | exact HB.out _ (turn_set3 UH.out) | exact HB.out _ (turn_set3 UD.out))
    (first
      | (refine step_append_w (by rfl) (.const (.slice none 0 0)) (.tmp 6) 35 35 (by rfl) (wrow_nil _ 5 1) i5 _ 1 bytesT hi5 hz5 hs5 hb5 rfl (by rfl) (by rfl) (HD.out _ (by first | exact T0.out | exact T0.out.drew | exact TT T0.out UH.out | exact TT T0.out UH.out.drew)) F1.out.1 F1.out.2.1 ?_; intro vD WD hD tD kD; rw [Nat.zero_add, List.nil_append] at hD; obtain ⟨pD, cD, rfl⟩ := hD.sl; have UD := Lib.hid (show Turn NoBlock W WD by first | exact nil_turn tD | exact TT UH.out (nil_turn tD) | exact TT ((Turn.refl NoBlock W).drew) (nil_turn tD) | exact TT (UH.out.drew) (nil_turn tD)); obtain ⟨⟨x0, x1, x2⟩, x3, x4, x5⟩ := HQ.out _ UD.out; have KD := Lib.hid (And.intro hD (And.intro tD kD)); clear hD tD kD)
      | (refine step_append_w (by rfl) (.const (.slice none 0 0)) (.tmp 9) 36 36 (by rfl) (wrow_nil _ 3 1) i3 _ 8 intsT hi3 hz3 hs3 hb3 rfl (by rfl) (by rfl) (HH.out _ (by first | exact T0.out | exact T0.out.drew | exact TT T0.out UD.out | exact TT T0.out UD.out.drew)) F1.out.2.2.1 F1.out.2.2.2 ?_; intro vH WH hH tH kH; rw [Nat.zero_add, List.nil_append] at hH; obtain ⟨pH, cH, rfl⟩ := hH.sl; have UH := Lib.hid (show Turn NoBlock W WH by first | exact nil_turn tH | exact TT UD.out (nil_turn tH) | exact TT ((Turn.refl NoBlock W).drew) (nil_turn tH) | exact TT (UD.out.drew) (nil_turn tH)); obtain ⟨⟨x0, x1, x2⟩, x3, x4, x5⟩ := HQ.out _ UH.out; have KH := Lib.hid (And.intro hH (And.intro tH kH)); clear hH tH kH))
  all_goals
    go_wp2
    refine bodyPost_ret (v := .agg #[.int .i64 m.tx, .slice pD m.d.length cD, .slice pH m.h.length cH]) (by simp [results, Try.results50, go_sem, x0, x1, x2]) rfl ⟨⟨m, _, _⟩, rfl, rfl, ?_, ?_, ?_⟩
    · have e1 : ∀ k, Blk (.slice pD m.d.length cD) k → ¬ k = w.heap.size + 1 := fun k hk => by
        rcases KD.out.2.2 k hk with h | h
        · exact (blk_nil k h).elim
        · have := HS.out; have := h.1; simp at this; omega
      have e2 : ∀ k, Blk (.slice pH m.h.length cH) k → ¬ k = w.heap.size + 1 := fun k hk => by
        rcases KH.out.2.2 k hk with h | h
        · exact (blk_nil k h).elim
        · have := HS.out; have := UD.out.size; omega
      exact ⟨(Byts.past KD.out.1 (nil_turn KH.out.2.1)).kept (turn_set3 (Turn.refl _ _)) e1, Nums.kept KH.out.1 (turn_set3 (Turn.refl _ _)) e2, HF.out⟩
    · intro k hk
      rcases hk with hk | hk
      · rcases KD.out.2.2 k hk with h | h
        · exact (blk_nil k h).elim
        · have := HS.out; have := h.1; simp at this; omega
      · rcases KH.out.2.2 k hk with h | h
        · exact (blk_nil k h).elim
        · have := HS.out; have := UD.out.size; omega
    · exact (TT T0.out UH.out).trans (turn_set3 (R := w.heap.size + 1) (Turn.refl _ _)) (fun k hk => .inr (by omega))
end Go.Proofs.Ytcbphfpfdfgehaa
