/-
  What drop makes of an end: the first message of its queue is gone. No conditions but that there is one.
-/
import Derived.Test.YtcbphfpfdfgehaaCStep
namespace Go.Proofs.Ytcbphfpfdfgehaa
open Go.ChangeShapes Go.WideShapes Go.ChangeAt Go.RowKit

theorem some_set {w : World} {a b : Addr} {u : Value} (h : (w.cell? a).isSome = true) : ((w.setCell b u).cell? a).isSome = true := by
  by_cases e : a = b
  · subst e; rw [World.cell?_setCell_same' _ _ _ h]; rfl
  · rw [World.cell?_setCell_other w b a u (fun h' => e h'.symm)]; exact h
theorem cell_set_ne {w : World} {g i j : Nat} {u : Value} (h : i ≠ j) : (w.setCell ⟨g, i, none⟩ u).cell? ⟨g, j, none⟩ = w.cell? ⟨g, j, none⟩ := cell_set_other h
/-- Three cells of one block. -/
def set3 (w : World) (g j : Nat) (x y z : Value) : World := ((w.setCell ⟨g, j, none⟩ x).setCell ⟨g, j + 1, none⟩ y).setCell ⟨g, j + 2, none⟩ z
theorem set3_some {w : World} {g j : Nat} {x y z : Value} {a : Addr} (h : (w.cell? a).isSome = true) : ((set3 w g j x y z).cell? a).isSome = true := some_set (some_set (some_set h))
theorem set3_ne {w : World} {g j i : Nat} {x y z : Value} (h : i < j ∨ j + 3 ≤ i) : (set3 w g j x y z).cell? ⟨g, i, none⟩ = w.cell? ⟨g, i, none⟩ := by
  unfold set3
  rw [cell_set_ne (by omega), cell_set_ne (by omega), cell_set_ne (by omega)]
theorem set3_typed {w : World} {g j : Nat} {x y z : Value} {e : TypeId} (h : TBlk w g e) : TBlk (set3 w g j x y z) g e := ((h.set _ _ _).set _ _ _).set _ _ _
theorem set3_turn {w : World} {g j : Nat} {x y z : Value} {F : Nat → Prop} (hF : F g) : Turn F w (set3 w g j x y z) :=
  (((Turn.refl F w).setCell (p := ⟨g, j, none⟩) (.inl hF) x).setCell (p := ⟨g, j + 1, none⟩) (.inl hF) y).setCell (p := ⟨g, j + 2, none⟩) (.inl hF) z
theorem wrow_cell {w : World} {e size g o n c : Nat} {xs : List Value} (h : WRow w e size (.slice (some ⟨g, o, none⟩) n c) n xs) {j : Nat} (hj : j < n * size) : w.cell? ⟨g, o + j, none⟩ = xs[j]? := by
  have hn : 0 < n := Nat.pos_of_ne_zero (fun e => by subst e; simp at hj)
  obtain ⟨g', o', c', he, -, -, -, hc, -⟩ := h.shape hn
  simp only [Value.slice.injEq, Option.some.injEq, Addr.mk.injEq, and_true] at he
  obtain ⟨⟨rfl, rfl⟩, -, rfl⟩ := he
  exact hc j hj
theorem wrow_three {w : World} {g o n c : Nat} {l : List QM} (h : WRow w 49 3 (.slice (some ⟨g, o, none⟩) n c) l.length (qcells l)) {j : Nat} {q : QM} (hq : l[j]? = some q) :
    w.cell? ⟨g, o + j * 3, none⟩ = some (.int .i64 q.m.tx) ∧ w.cell? ⟨g, o + j * 3 + 1, none⟩ = some q.vd ∧ w.cell? ⟨g, o + j * 3 + 2, none⟩ = some q.vh := by
  have hlt := (List.getElem?_eq_some_iff.1 hq).1
  obtain ⟨_, _, he⟩ := h.sl
  simp only [Value.slice.injEq] at he
  obtain ⟨-, rfl, -⟩ := he
  refine ⟨?_, ?_, ?_⟩
  · rw [wrow_cell h (show j * 3 < l.length * 3 by omega)]; exact qcells_at l j q hq 0 (by omega)
  · rw [Nat.add_assoc, wrow_cell h (show j * 3 + 1 < l.length * 3 by omega)]; exact qcells_at l j q hq 1 (by omega)
  · rw [Nat.add_assoc, wrow_cell h (show j * 3 + 2 < l.length * 3 by omega)]; exact qcells_at l j q hq 2 (by omega)
theorem qcells_take (l : List QM) (k : Nat) : (qcells l).take (k * 3) = qcells (l.take k) := by
  induction l generalizing k with
  | nil => simp [qcells]
  | cons p l ih =>
    have ht : p.cells.length = 3 := rfl
    cases k with
    | zero => simp [qcells]
    | succ k => rw [qcells_cons, List.take_succ_cons, qcells_cons, List.take_append, ht, show (k + 1) * 3 - 3 = k * 3 by omega, ih, List.take_of_length_le (by rw [ht]; omega)]
/-- The last is cleared and left off. -/
theorem row_last {w : World} {g o c : Nat} {pre : List QM} {x : QM} (h : WRow w 49 3 (.slice (some ⟨g, o, none⟩) (pre.length + 1) c) (pre.length + 1) (qcells (pre ++ [x]))) (a b d : Value) :
    WRow (set3 w g (o + pre.length * 3) a b d) 49 3 (.slice (some ⟨g, o, none⟩) pre.length c) pre.length (qcells pre) := by
  obtain ⟨g', o', c', he, h1, h2, h3, h4, h5⟩ := h.shape (by omega)
  simp only [Value.slice.injEq, Option.some.injEq, Addr.mk.injEq, and_true, true_and] at he
  obtain ⟨⟨rfl, rfl⟩, rfl⟩ := he
  refine ⟨qcells_len _, .inr ⟨g, o, c, rfl, by omega, h2, set3_typed h3, fun j hj => ?_, fun j hj => set3_some (h5 j hj)⟩⟩
  rw [set3_ne (by omega), h4 j (by omega), qcells_app, List.getElem?_append_left (by rw [qcells_len]; exact hj)]
/-- The first is cleared and left off. -/
theorem row_first {w : World} {g o c : Nat} {x : QM} {rest : List QM} (h : WRow w 49 3 (.slice (some ⟨g, o, none⟩) (rest.length + 1) c) (rest.length + 1) (qcells (x :: rest))) (a b d : Value) {D : Option Addr} (hD1 : 1 < c → D = some ⟨g, o + 1 * 3, none⟩) (hD2 : c = 1 → D = some ⟨g, o, none⟩) :
    WRow (set3 w g o a b d) 49 3 (.slice D rest.length (c - 1)) rest.length (qcells rest) ∧ (∀ k, Blk (.slice D rest.length (c - 1)) k → k = g) := by
  obtain ⟨g', o', c', he, h1, h2, h3, h4, h5⟩ := h.shape (by omega)
  simp only [Value.slice.injEq, Option.some.injEq, Addr.mk.injEq, and_true, true_and] at he
  obtain ⟨⟨rfl, rfl⟩, rfl⟩ := he
  by_cases hc : c = 1
  · have hr : rest.length = 0 := by omega
    rw [hD2 hc, hr, hc]
    refine ⟨⟨by rw [qcells_len, hr], .inr ⟨g, o, 0, rfl, by omega, by unfold maxLen; omega, set3_typed h3, fun j hj => by omega, fun j hj => by omega⟩⟩, fun k hk => by simp [Blk, Value.ownBlock] at hk; exact hk.symm⟩
  · rw [hD1 (by omega)]
    refine ⟨⟨qcells_len _, .inr ⟨g, o + 1 * 3, c - 1, rfl, by omega, by omega, set3_typed h3, fun j hj => ?_, fun j hj => ?_⟩⟩, fun k hk => by simp [Blk, Value.ownBlock] at hk; exact hk.symm⟩
    · rw [set3_ne (by omega), Nat.add_assoc, h4 _ (by omega), qcells_cons, List.getElem?_append_right (by show 3 ≤ _; omega)]
      congr 1
      show 1 * 3 + j - 3 = j
      omega
    · rw [Nat.add_assoc]
      exact set3_some (h5 _ (by omega))

theorem Apart.symm {p q : QM} (h : Apart p q) : Apart q p := fun k h1 h2 => h k h2 h1
theorem allq_less {S : Nat → Sd} {e : Nat} {s : Sd} (he : e < 2) (h : (allQ S).Pairwise Apart) (ha : s.an.Sublist (S e).an) (ho : s.ot.Sublist (S e).ot) : (allQ (updN S e s)).Pairwise Apart := by
  refine h.sublist ?_
  have h2 : e = 0 ∨ e = 1 := by omega
  rcases h2 with rfl | rfl
  · unfold allQ
    rw [updN_same, updN_other _ _ (by omega)]
    exact ha.append (ho.append (List.Sublist.refl _))
  · unfold allQ
    rw [updN_same, updN_other _ _ (by omega)]
    exact (List.Sublist.refl _).append ((List.Sublist.refl _).append (ha.append ho))
theorem pair_add {l1 l2 : List QM} {q : QM} (h : (l1 ++ l2).Pairwise Apart) (hq : ∀ p ∈ l1 ++ l2, Apart q p) : (l1 ++ q :: l2).Pairwise Apart := by
  have h1 : (q :: (l1 ++ l2)).Pairwise Apart := List.pairwise_cons.2 ⟨hq, h⟩
  exact h1.perm List.perm_middle.symm (fun h => h.symm)

/-- What drop leaves. -/
structure Dropped (w w' : World) (c o : Nat) (s : Sd) (v : SV) (x : QM) (q : List QM) : Prop where
  ex : ∃ s' v', SStep w w' c o s v s' v' ∧ s'.op = s.op ∧ s'.ws = s.ws ∧ s'.q = q ∧ s'.an.Sublist s.an ∧ s'.ot.Sublist s.ot ∧ ((s.an = s'.an ++ [x] ∧ s'.ot = s.ot) ∨ (s'.an = s.an ∧ s.ot = x :: s'.ot))

set_option maxRecDepth 20000 in
set_option maxHeartbeats 1000000 in
theorem drop_an {w : World} {c o : Nat} {s : Sd} {v : SV} (h : SAt w c o s v) {pre : List QM} {x : QM} (hq : s.an = pre ++ [x]) (hn : s.an.length ≤ 1000000000) :
    Calls Try.prog 67 #[.pointer (some ⟨c, o, none⟩)] w fun e w' => (∃ u, e = .returned u) ∧ Dropped w w' c o s v x (pre.reverse ++ s.ot) := by
  have hr := h.rowA
  have hl : s.an.length = pre.length + 1 := by rw [hq]; simp
  rw [hl, hq] at hr
  rw [hl] at hn
  obtain ⟨g, p, ca, hv, hnc, hcm, hty, -, hso⟩ := hr.shape (by omega)
  have c1 := h.c1
  rw [hv] at hr c1
  obtain ⟨d0, d1, d2⟩ := wrow_three (l := pre ++ [x]) (by rw [List.length_append]; exact hr) (show (pre ++ [x])[pre.length]? = some x by simp)
  have f0 := hty.free (p + pre.length * 3)
  have f1 := hty.free (p + pre.length * 3 + 1)
  have f2 := hty.free (p + pre.length * 3 + 2)
  have f3 := h.f (o + 1)
  have hs1 := sl_hi 42 3 elem_msgs size_msgs g p (pre.length + 1) ca pre.length (by omega)
  have hcg : c ≠ g := fun e => blk_typed h.rowA h.typ (by decide) (by rw [hv, e]; simp [Blk, Value.ownBlock])
  have hvd : ∃ a b, x.vd = .slice a x.m.d.length b := (h.ok x (.inl (by rw [hq]; simp))).d.sl
  have hvh : ∃ a b, x.vh = .slice a x.m.h.length b := (h.ok x (.inl (by rw [hq]; simp))).h.sl
  obtain ⟨a1, b1, hvd⟩ := hvd
  obtain ⟨a2, b2, hvh⟩ := hvh
  rw [hvd] at d1
  rw [hvh] at d2
  have h1 := row_last hr (.int .i64 0) (.slice none 0 0) (.slice none 0 0)
  have hstep := Lib.hid (h.putA (w1 := set3 w g (p + pre.length * 3) (.int .i64 0) (.slice none 0 0) (.slice none 0 0)) (an := pre) (set3_turn (by rw [hv]; simp [Blk, Value.ownBlock])) h1 (fun k hk => .inl (by rw [hv]; simpa [Blk, Value.ownBlock] using hk)) (fun q hq' => .inl (.inl (by rw [hq]; simp [hq']))))
  have HQ := Lib.hid hq
  have hci := Lib.hid hcg
  clear hnc hcm hso
  generalize pre.length = l at *
  have hcast : ((l + 1 : Nat) : Int) - 1 = (l : Int) := by omega
  have hl1 : (l : Int) < ((l + 1 : Nat) : Int) := by omega
  have hl2 : ((l + 1 : Nat) : Int) ≤ 1000000001 := by omega
  clear h hr hl hq hv hty h1 hvd hvh
  unfold set3 at hstep
  go_enter Try.func67, Try.ntmps67
  go_wp2
  refine bodyPost_ret (results_none rfl _ _ _) rfl ⟨⟨_, rfl⟩, ⟨_, _, hstep.out, rfl, rfl, ?_, ?_, List.Sublist.refl _, .inl ⟨HQ.out, rfl⟩⟩⟩
  · rfl
  · rw [HQ.out]; exact List.sublist_append_left _ _

set_option maxRecDepth 20000 in
set_option maxHeartbeats 1000000 in
theorem drop_ot {w : World} {c o : Nat} {s : Sd} {v : SV} (h : SAt w c o s v) {rest : List QM} {x : QM} (h0 : s.an = []) (hq : s.ot = x :: rest) (hn : s.ot.length ≤ 1000000000) :
    Calls Try.prog 67 #[.pointer (some ⟨c, o, none⟩)] w fun e w' => (∃ u, e = .returned u) ∧ Dropped w w' c o s v x rest := by
  have hr := h.rowO
  have hl : s.ot.length = rest.length + 1 := by rw [hq]; simp
  rw [hl, hq] at hr
  rw [hl] at hn
  obtain ⟨pa, pc, hva⟩ := h.rowA.sl
  rw [h0] at hva
  have c1 := h.c1
  rw [hva] at c1
  obtain ⟨g, p, ca, hv, hnc, hcm, hty, -, hso⟩ := hr.shape (by omega)
  have c2 := h.c2
  rw [hv] at hr c2
  obtain ⟨d0, d1, d2⟩ := wrow_three (l := x :: rest) (j := 0) (by rw [List.length_cons]; exact hr) rfl
  rw [Nat.zero_mul, Nat.add_zero] at d0 d1 d2
  have f0 := hty.free p
  have f1 := hty.free (p + 1)
  have f2 := hty.free (p + 2)
  have f3 := h.f (o + 2)
  obtain ⟨D, hs1, hD1, hD2⟩ := sl_lo 42 3 elem_msgs size_msgs g p (rest.length + 1) ca 1 (by omega) (by omega)
  have hcg : c ≠ g := fun e => blk_typed h.rowO h.typ (by decide) (by rw [hv, e]; simp [Blk, Value.ownBlock])
  have hvd : ∃ a b, x.vd = .slice a x.m.d.length b := (h.ok x (.inr (by rw [hq]; simp))).d.sl
  have hvh : ∃ a b, x.vh = .slice a x.m.h.length b := (h.ok x (.inr (by rw [hq]; simp))).h.sl
  obtain ⟨a1, b1, hvd⟩ := hvd
  obtain ⟨a2, b2, hvh⟩ := hvh
  rw [hvd] at d1
  rw [hvh] at d2
  obtain ⟨h1, h2⟩ := row_first hr (.int .i64 0) (.slice none 0 0) (.slice none 0 0) hD1 hD2
  have hstep := Lib.hid (h.putO (w1 := set3 w g p (.int .i64 0) (.slice none 0 0) (.slice none 0 0)) (ot := rest) (set3_turn (by rw [hv]; simp [Blk, Value.ownBlock])) h1 (fun k hk => .inl (by rw [h2 k hk, hv]; simp [Blk, Value.ownBlock])) (fun q hq' => .inl (.inr (by rw [hq]; simp [hq']))))
  have HQ := Lib.hid (And.intro h0 hq)
  rw [show rest.length + 1 - 1 = rest.length by omega] at hs1
  have hs2 : ∀ w, Sem.run Try.prog (Instr.slice 42 (.slice (some ⟨g, p, none⟩) (rest.length + 1) ca) (some (.int .i64 1)) none none) w = .ok (.slice D rest.length (ca - 1)) w := hs1
  clear hnc hcm hso hs1
  generalize rest.length = l at *
  have hl2 : ((l + 1 : Nat) : Int) ≤ 1000000001 := by omega
  clear h hr hl h0 hq hv hty h1 h2 hvd hvh hva hD1 hD2
  unfold set3 at hstep
  simp only [List.length_nil] at c1
  go_enter Try.func67, Try.ntmps67
  go_wp2
  go_end0
  refine ⟨⟨_, rfl⟩, ⟨_, _, hstep.out, rfl, rfl, ?_, List.Sublist.refl _, ?_, .inr ⟨rfl, HQ.out.2⟩⟩⟩
  · show s.an.reverse ++ rest = rest
    rw [HQ.out.1]; rfl
  · rw [HQ.out.2]; exact List.sublist_cons_self _ _
end Go.Proofs.Ytcbphfpfdfgehaa
