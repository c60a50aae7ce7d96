/-
  What the reference's put makes of its socket: one piece more. No conditions but that the reference's socket is one that calls can make.
-/
import Derived.Test.YtocaebcbmfejbaaRKCalls
namespace Go.Proofs.Ytocaebcbmfejbaa
open Go.ChangeShapes Go.WideShapes Go.ChangeAt Go.RowKit

theorem rd_new_at2 (w : World) (t size : Nat) (cs : Array Value) (hs : cs.size = size) {B : Nat} (hB : w.heap.size = B) : Rd (w.alloc (.cells cs t)) size (.slice (some ⟨B, 0, none⟩) 1 1) 1 cs.toList := by
  subst hB
  exact rd_new w t size cs hs
theorem pv_one (l : Pcs) (h : ∀ q ∈ l, ∃ p n c, q.1 = .slice p n c) : ∀ u ∈ pv l, u.oneCell' = true := by
  intro u hu
  obtain ⟨q, hq, rfl⟩ := List.mem_map.1 hu
  obtain ⟨p, n, c, he⟩ := h q hq
  rw [he]
  rfl
theorem rd_heap {w : World} {g size : Nat} {cs : Array Value} {t : TypeId} (h : w.heap[g]? = some (.cells cs t (0, 0))) (hs : cs.size = size) : Rd w size (.slice (some ⟨g, 0, none⟩) 1 1) 1 cs.toList := by
  refine ⟨by rw [Array.length_toList, hs, Nat.one_mul], _, 1, rfl, (fun h => by cases h), fun a ha => ?_⟩
  cases ha
  exact ⟨_, 0, rfl, fun j hj => by rw [Nat.zero_add, cell_at h]; simp⟩
theorem arm_new {w X W : World} {v : Value} (t : Turn NoBlock w X) (t7 : Turn (Blk (.slice none 0 0)) X W) (k7 : ∀ k, Blk v k → Blk (.slice none 0 0) k ∨ (k = X.heap.size ∧ k < W.heap.size)) : Turn NoBlock w W ∧ ∀ k, Blk v k → w.heap.size ≤ k := by
  refine ⟨TT t (nil_turn t7), fun k hk => ?_⟩
  rcases k7 k hk with h | h
  · exact (blk_nil k h).elim
  · have := t.size; omega
theorem arm_more {w X W : World} {v v' : Value} (t : Turn NoBlock w X) (hv : ∀ k, Blk v k → w.heap.size ≤ k) (t8 : Turn (Blk v) X W) (k8 : ∀ k, Blk v' k → Blk v k ∨ (k = X.heap.size ∧ k < W.heap.size)) : Turn NoBlock w W ∧ ∀ k, Blk v' k → w.heap.size ≤ k := by
  refine ⟨t.trans t8 (fun k hk => .inr (hv k hk)), fun k hk => ?_⟩
  rcases k8 k hk with h | h
  · exact hv k h
  · have := t.size; omega
theorem rput_made {w W : World} {x room e : Nat} {dg : Bool} {C M D : Nat → Bool} {U : Nat → Value} {Q : Nat → Pcs} (h : RAt w x dg room C M D U Q) (he : e < 2) {vb v : Value} {b : List UInt8} (hb : Byts vb b w) (t : Turn NoBlock w W) (hk : ∀ k, Blk v k → w.heap.size ≤ k) (hr : WRow W 35 1 v ((Q e).length + 1) (pv (Q e) ++ [vb])) : RMadeQ w (W.setCell ⟨x, e, none⟩ v) x dg room C M D U Q (Blk vb) (updN Q e (Q e ++ [(vb, b)])) := by
  have hs := h.setQ (l := Q e ++ [(vb, b)]) he t (by rw [List.length_append, show pv (Q e ++ [(vb, b)]) = pv (Q e) ++ [vb] by simp [pv]]; exact hr) (fun q hq => by
    rcases List.mem_append.1 hq with h1 | h1
    · exact (h.rd e he q h1).past t
    · simp at h1; subst h1; exact hb.past t)
  refine ⟨_, hs, (TU (F := fun k => k = x) t).setCell (p := ⟨x, e, none⟩) (.inl rfl) _, fun k hk2 => ?_⟩
  have hlt : ∀ k, Blk v k → k < (W.setCell ⟨x, e, none⟩ v).heap.size := fun k h1 => by have := hr.lt h1; simp [World.setCell]; exact this
  rcases hk2 with h1 | ⟨i, hi, h1⟩ | ⟨i, hi, q, hq, h1⟩
  · exact .inl (.inl h1)
  · by_cases hie : i = e
    · subst hie
      rw [updN_same] at h1
      exact .inr (.inr ⟨hk k h1, hlt k h1⟩)
    · rw [updN_other _ _ hie] at h1
      exact .inl (.inr (.inl ⟨i, hi, h1⟩))
  · by_cases hie : i = e
    · subst hie
      rw [updN_same] at hq
      rcases List.mem_append.1 hq with h2 | h2
      · exact .inl (.inr (.inr ⟨i, hi, q, h2, h1⟩))
      · simp at h2; subst h2; exact .inr (.inl h1)
    · rw [updN_other _ _ hie] at hq
      exact .inl (.inr (.inr ⟨i, hi, q, hq, h1⟩))
section
variable {w : World} {x room : Nat} {dg : Bool} {C M D : Nat → Bool} {U : Nat → Value} {Q : Nat → Pcs}
set_option maxRecDepth 20000 in
set_option maxHeartbeats 2000000 in
theorem rput0 (h : RAt w x dg room C M D U Q) (hq : (Q 0).length ≤ 2000000) (vb : Value) (b : List UInt8) (hb : Byts vb b w) :
    Calls Try.prog 76 #[.pointer (some ⟨x, 0, none⟩), .int .i64 0, vb] w fun y w' => (∃ u, y = .returned u) ∧ RMadeQ w w' x dg room C M D U Q (Blk vb) (updN Q 0 (Q 0 ++ [(vb, b)])) := by
  obtain ⟨iS, hiS, hzS, hsS, hbS⟩ := info_parts infoS2
  have c0 : w.cell? ⟨x, 0, none⟩ = some (U 0) := h.cw 0 (by omega)
  have hr := h.row 0 (by omega)
  obtain ⟨p, pc, hv⟩ := hr.sl
  obtain ⟨pvb, cvb, hvb⟩ := WRow.sl hb
  rw [hv] at c0 hr
  have ONE := Lib.hid (pv_one (Q 0) (fun q hq => ⟨_, _, WRow.sl (h.rd 0 (by omega) q hq) |>.choose_spec⟩))
  have HR := Lib.hid (fun W (t : Turn NoBlock w W) => WRow.src (hr.past t) 57 bytess2 ONE.out)
  have HM := Lib.hid (And.intro h (And.intro hb hv))
  have TYX := Lib.hid (fun W (t : Turn NoBlock w W) => h.typ.kept t (fun h => h))
  have HC := Lib.hid c0
  have f0 := h.f 0
  have lx := h.typ.lt
  have LB := Lib.hid (show 0 + (Q 0).length ≤ maxLen ∧ (0 + (Q 0).length) * 24 ≤ 140737488355328 ∧ (Q 0).length + 1 ≤ maxLen ∧ ((Q 0).length + 1) * 24 ≤ 140737488355328 by unfold maxLen; omega)
  have PVL := Lib.hid (show pv (Q 0 ++ [(vb, b)]) = pv (Q 0) ++ [vb] by simp [pv])
  generalize hl : Q 0 = l at *
  have HL := Lib.hid hl
  subst hvb
  clear h hr hv hb hq hl ONE
  go_enter Try.func76, Try.ntmps76
  go_wp2
  go_region_law (first
    | (refine step_append_r rfl (.tmp 16) (.tmp 18) 57 57 rfl (WRow.past R7.out (show Turn NoBlock W7 _ from (by (repeat (first | with_reducible exact Turn.refl _ _ | with_reducible refine Turn.drew ?_ | with_reducible refine Turn.alloc ?_ _))))) iS _ 24 bytess2 hiS hzS hsS hbS (by rfl) (by rfl) (by rfl) (Rd.src (rd_heap (cs := #[.slice pvb b.length cvb]) (t := 35) (by first | exact B7.out | exact heap_alloc_new W7 _) rfl) 57 35 bytess2 (fun u hu => by simp at hu; subst hu; rfl)) LB.out.2.2.1 LB.out.2.2.2 ?_; intro v8 W8 z8 r8 t8 k8; clear z8; obtain ⟨p8, c8, rfl⟩ := r8.sl; have U8 := Lib.hid (arm_more (show Turn NoBlock w _ from (by (repeat (first | with_reducible exact U7.out.1 | with_reducible refine Turn.drew ?_ | with_reducible refine Turn.alloc ?_ _)))) U7.out.2 t8 k8); have c8x := U8.out.1.cell HC.out (fun h => h); have f8 := (TYX.out _ U8.out.1).free 0; have l8 := (TYX.out _ U8.out.1).lt; have R8 := Lib.hid r8; clear r8 t8 k8)
    | (refine step_append_r rfl (.tmp 9) (.tmp 15) 57 57 rfl (wrow_nil _ 35 1) iS _ 24 bytess2 hiS hzS hsS hbS (by rfl) (by rfl) (by rfl) (HR.out _ (by (repeat (first | with_reducible exact Turn.refl _ _ | with_reducible refine Turn.drew ?_ | with_reducible refine Turn.alloc ?_ _)))) LB.out.1 LB.out.2.1 ?_; intro v7 W7 z7 r7 t7 k7; clear z7; rw [Nat.zero_add, List.nil_append] at r7; obtain ⟨p7, c7, rfl⟩ := r7.sl; have U7 := Lib.hid (arm_new (show Turn NoBlock w _ from (by (repeat (first | with_reducible exact Turn.refl _ _ | with_reducible refine Turn.drew ?_ | with_reducible refine Turn.alloc ?_ _)))) t7 k7); (first | have B7 := Lib.hid (show W7.heap[w.heap.size]? = some (.cells #[.slice pvb b.length cvb] 35 (0, 0)) from (nil_turn t7).heap (heap_alloc_new w _) (fun h => h)) | skip); have c7 := U7.out.1.cell HC.out (fun h => h); have f7 := (TYX.out _ U7.out.1).free 0; have l7 := (TYX.out _ U7.out.1).lt; have R7 := Lib.hid r7; clear r7 t7 k7))
  all_goals
    go_wp2
    go_end0
    refine ⟨⟨_, rfl⟩, ?_⟩
    have hll := HL.out
    subst hll
    exact rput_made HM.out.1 (e := 0) (by omega) HM.out.2.1 U8.out.1 U8.out.2 R8.out
set_option maxRecDepth 20000 in
set_option maxHeartbeats 2000000 in
theorem rput1 (h : RAt w x dg room C M D U Q) (hq : (Q 1).length ≤ 2000000) (vb : Value) (b : List UInt8) (hb : Byts vb b w) :
    Calls Try.prog 76 #[.pointer (some ⟨x, 0, none⟩), .int .i64 1, vb] w fun y w' => (∃ u, y = .returned u) ∧ RMadeQ w w' x dg room C M D U Q (Blk vb) (updN Q 1 (Q 1 ++ [(vb, b)])) := by
  obtain ⟨iS, hiS, hzS, hsS, hbS⟩ := info_parts infoS2
  have c0 : w.cell? ⟨x, 1, none⟩ = some (U 1) := h.cw 1 (by omega)
  have hr := h.row 1 (by omega)
  obtain ⟨p, pc, hv⟩ := hr.sl
  obtain ⟨pvb, cvb, hvb⟩ := WRow.sl hb
  rw [hv] at c0 hr
  have ONE := Lib.hid (pv_one (Q 1) (fun q hq => ⟨_, _, WRow.sl (h.rd 1 (by omega) q hq) |>.choose_spec⟩))
  have HR := Lib.hid (fun W (t : Turn NoBlock w W) => WRow.src (hr.past t) 57 bytess2 ONE.out)
  have HM := Lib.hid (And.intro h (And.intro hb hv))
  have TYX := Lib.hid (fun W (t : Turn NoBlock w W) => h.typ.kept t (fun h => h))
  have HC := Lib.hid c0
  have f0 := h.f 1
  have lx := h.typ.lt
  have LB := Lib.hid (show 0 + (Q 1).length ≤ maxLen ∧ (0 + (Q 1).length) * 24 ≤ 140737488355328 ∧ (Q 1).length + 1 ≤ maxLen ∧ ((Q 1).length + 1) * 24 ≤ 140737488355328 by unfold maxLen; omega)
  have PVL := Lib.hid (show pv (Q 1 ++ [(vb, b)]) = pv (Q 1) ++ [vb] by simp [pv])
  generalize hl : Q 1 = l at *
  have HL := Lib.hid hl
  subst hvb
  clear h hr hv hb hq hl ONE
  go_enter Try.func76, Try.ntmps76
  go_wp2
  go_region_law (first
    | (refine step_append_r rfl (.tmp 16) (.tmp 18) 57 57 rfl (WRow.past R7.out (show Turn NoBlock W7 _ from (by (repeat (first | with_reducible exact Turn.refl _ _ | with_reducible refine Turn.drew ?_ | with_reducible refine Turn.alloc ?_ _))))) iS _ 24 bytess2 hiS hzS hsS hbS (by rfl) (by rfl) (by rfl) (Rd.src (rd_heap (cs := #[.slice pvb b.length cvb]) (t := 35) (by first | exact B7.out | exact heap_alloc_new W7 _) rfl) 57 35 bytess2 (fun u hu => by simp at hu; subst hu; rfl)) LB.out.2.2.1 LB.out.2.2.2 ?_; intro v8 W8 z8 r8 t8 k8; clear z8; obtain ⟨p8, c8, rfl⟩ := r8.sl; have U8 := Lib.hid (arm_more (show Turn NoBlock w _ from (by (repeat (first | with_reducible exact U7.out.1 | with_reducible refine Turn.drew ?_ | with_reducible refine Turn.alloc ?_ _)))) U7.out.2 t8 k8); have c8x := U8.out.1.cell HC.out (fun h => h); have f8 := (TYX.out _ U8.out.1).free 1; have l8 := (TYX.out _ U8.out.1).lt; have R8 := Lib.hid r8; clear r8 t8 k8)
    | (refine step_append_r rfl (.tmp 9) (.tmp 15) 57 57 rfl (wrow_nil _ 35 1) iS _ 24 bytess2 hiS hzS hsS hbS (by rfl) (by rfl) (by rfl) (HR.out _ (by (repeat (first | with_reducible exact Turn.refl _ _ | with_reducible refine Turn.drew ?_ | with_reducible refine Turn.alloc ?_ _)))) LB.out.1 LB.out.2.1 ?_; intro v7 W7 z7 r7 t7 k7; clear z7; rw [Nat.zero_add, List.nil_append] at r7; obtain ⟨p7, c7, rfl⟩ := r7.sl; have U7 := Lib.hid (arm_new (show Turn NoBlock w _ from (by (repeat (first | with_reducible exact Turn.refl _ _ | with_reducible refine Turn.drew ?_ | with_reducible refine Turn.alloc ?_ _)))) t7 k7); (first | have B7 := Lib.hid (show W7.heap[w.heap.size]? = some (.cells #[.slice pvb b.length cvb] 35 (0, 0)) from (nil_turn t7).heap (heap_alloc_new w _) (fun h => h)) | skip); have c7 := U7.out.1.cell HC.out (fun h => h); have f7 := (TYX.out _ U7.out.1).free 1; have l7 := (TYX.out _ U7.out.1).lt; have R7 := Lib.hid r7; clear r7 t7 k7))
  all_goals
    go_wp2
    go_end0
    refine ⟨⟨_, rfl⟩, ?_⟩
    have hll := HL.out
    subst hll
    exact rput_made HM.out.1 (e := 1) (by omega) HM.out.2.1 U8.out.1 U8.out.2 R8.out
end
end Go.Proofs.Ytocaebcbmfejbaa
