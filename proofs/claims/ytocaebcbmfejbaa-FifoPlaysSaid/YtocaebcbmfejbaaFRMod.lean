/-
  The reference's fifo in memory. No walk, no conditions.
-/
import Derived.Test.YtocaebcbmfejbaaFSeg
import Derived.Test.YtocaebcbmfejbaaFElem
namespace Go.Proofs.Ytocaebcbmfejbaa
open Go.RowKit

theorem infoS2 : (Try.prog.info? 35).map (fun i => (i.zero, i.size, i.bytes)) = some (some (.slice none 0 0), 1, 24) := by kernel_rfl
theorem bytess2 : Try.prog.underlying 57 = some (.slice 35) := by kernel_rfl
theorem elem_bytess : Try.prog.underlying 57 = some (.slice (Try.prog.elem 57)) := by kernel_rfl
theorem size_bytess : ∀ w, (Go.sizeOf (Try.prog.elem 57)).run Try.prog w = .ok 1 w := fun w => by kernel_rfl
/-- What waits at the reference's end: slices of bytes. -/
abbrev Pcs := List (Value × List UInt8)
def pv (l : Pcs) : List Value := l.map (·.1)
def pb (l : Pcs) : List UInt8 := (l.map (·.2)).flatten
theorem pb_app (l m : Pcs) : pb (l ++ m) = pb l ++ pb m := by simp [pb]
theorem pb_len {l : Pcs} {size : Nat} (h : ∀ q ∈ l, q.2.length = size) : (pb l).length = l.length * size := by
  induction l with
  | nil => simp [pb]
  | cons q l ih =>
    have h1 := h q (by simp)
    have h2 := ih (fun q hq => h q (by simp [hq]))
    have : pb (q :: l) = q.2 ++ pb l := rfl
    rw [this, List.length_append, h1, h2, List.length_cons, Nat.add_mul, Nat.one_mul, Nat.add_comm]
theorem pb_take {l : Pcs} {size : Nat} (h : ∀ q ∈ l, q.2.length = size) (k : Nat) : pb (l.take k) = (pb l).take (k * size) ∧ pb (l.drop k) = (pb l).drop (k * size) := by
  have e : pb l = pb (l.take k) ++ pb (l.drop k) := by rw [← pb_app, List.take_append_drop]
  by_cases hk : k ≤ l.length
  · have hl : (pb (l.take k)).length = k * size := by rw [pb_len (fun q hq => h q (List.mem_of_mem_take hq)), List.length_take, Nat.min_eq_left hk]
    rw [e]
    generalize pb (l.take k) = A at *
    generalize pb (l.drop k) = B at *
    rw [List.take_append_of_le_length (by omega), List.take_of_length_le (by omega), List.drop_append_of_le_length (by omega), List.drop_eq_nil_of_le (by omega), List.nil_append]
    exact ⟨rfl, rfl⟩
  · have hl := pb_len h
    have h2 : l.length * size ≤ k * size := Nat.mul_le_mul_right _ (by omega)
    have e1 : l.take k = l := List.take_of_length_le (by omega)
    have e2 : l.drop k = [] := List.drop_eq_nil_of_le (by omega)
    rw [e1, e2]
    generalize pb l = A at *
    rw [List.take_of_length_le (by omega), List.drop_eq_nil_of_le (by omega)]
    exact ⟨rfl, rfl⟩
structure QAt (w : World) (x count size : Nat) (C : Nat → Bool) (U : Nat → Value) (Q : Nat → Pcs) : Prop where
  typ : TBlk w x 83
  cw : ∀ e, e < 2 → w.cell? ⟨x, e, none⟩ = some (U e)
  cc : ∀ e, e < 2 → w.cell? ⟨x, 2 + e, none⟩ = some (.bool (C e))
  c4 : w.cell? ⟨x, 4, none⟩ = some (.int .i64 (count : Int))
  c5 : w.cell? ⟨x, 5, none⟩ = some (.int .i64 (size : Int))
  row : ∀ e, e < 2 → WRow w 35 1 (U e) (Q e).length (pv (Q e))
  rd : ∀ e, e < 2 → ∀ q ∈ Q e, Byts q.1 q.2 w
  du : ∀ k, Blk (U 0) k → ¬ Blk (U 1) k
/-- All blocks of the reference's fifo. -/
def QF (x : Nat) (U : Nat → Value) (Q : Nat → Pcs) (k : Nat) : Prop := k = x ∨ (∃ e, e < 2 ∧ Blk (U e) k) ∨ ∃ e, e < 2 ∧ ∃ q ∈ Q e, Blk q.1 k
section
variable {w w' : World} {x count size : Nat} {C : Nat → Bool} {U : Nat → Value} {Q : Nat → Pcs}
theorem QAt.lt (h : QAt w x count size C U Q) {k : Nat} (hk : QF x U Q k) : k < w.heap.size := by
  rcases hk with rfl | ⟨e, he, hk⟩ | ⟨e, he, q, hq, hk⟩
  · exact h.typ.lt
  · exact (h.row e he).lt hk
  · exact WRow.lt (h.rd e he q hq) hk
theorem QAt.kept {F : Nat → Prop} (h : QAt w x count size C U Q) (t : Turn F w w') (hF : ∀ k, QF x U Q k → ¬ F k) : QAt w' x count size C U Q :=
  ⟨h.typ.kept t (hF x (.inl rfl)), fun e he => t.cell (h.cw e he) (hF x (.inl rfl)), fun e he => t.cell (h.cc e he) (hF x (.inl rfl)), t.cell h.c4 (hF x (.inl rfl)), t.cell h.c5 (hF x (.inl rfl)),
    fun e he => (h.row e he).kept t (fun k hk => hF k (.inr (.inl ⟨e, he, hk⟩))), fun e he q hq => (h.rd e he q hq).kept t (fun k hk => hF k (.inr (.inr ⟨e, he, q, hq, hk⟩))), h.du⟩
theorem QAt.past (h : QAt w x count size C U Q) (t : Turn NoBlock w w') : QAt w' x count size C U Q := h.kept t (fun _ _ h => h)
theorem QAt.nu (h : QAt w x count size C U Q) {e : Nat} (he : e < 2) : ¬ Blk (U e) x := blk_typed (h.row e he) h.typ (by decide)
theorem QAt.nq (h : QAt w x count size C U Q) {e : Nat} (he : e < 2) {q : Value × List UInt8} (hq : q ∈ Q e) : ¬ Blk q.1 x := blk_typed (h.rd e he q hq) h.typ (by decide)
theorem QAt.f (h : QAt w x count size C U Q) (j : Nat) : w.frozen? ⟨x, j, none⟩ = false := h.typ.free j
theorem QAt.uu (h : QAt w x count size C U Q) {e i : Nat} (he : e < 2) (hi : i < 2) (hne : i ≠ e) : ∀ k, Blk (U i) k → ¬ Blk (U e) k := by
  have : (e = 0 ∧ i = 1) ∨ (e = 1 ∧ i = 0) := by omega
  rcases this with ⟨rfl, rfl⟩ | ⟨rfl, rfl⟩
  · exact fun k h1 h2 => h.du k h2 h1
  · exact h.du
/-- The pieces that wait at an end are others; its row may have turned. -/
theorem QAt.setQ {w1 : World} (h : QAt w x count size C U Q) {e : Nat} (he : e < 2) (t : Turn (Blk (U e)) w w1) {u : Value} {l : Pcs} (hr : WRow w1 35 1 u l.length (pv l)) (hq : ∀ q ∈ l, Byts q.1 q.2 w1) (hb : ∀ k, Blk u k → Blk (U e) k ∨ w.heap.size ≤ k) : QAt (w1.setCell ⟨x, e, none⟩ u) x count size C (updN U e u) (updN Q e l) := by
  have hx := h.nu he
  have ty := h.typ.kept t hx
  have t2 : Turn (fun k => k = x) w1 (w1.setCell ⟨x, e, none⟩ u) := (Turn.refl (fun k => k = x) _).setCell (p := ⟨x, e, none⟩) (.inl rfl) _
  have hce : ∀ j, w1.cell? ⟨x, j, none⟩ = w.cell? ⟨x, j, none⟩ := fun j => World.cell?_of_block (a := ⟨x, j, none⟩) (t.block x h.typ.lt hx)
  refine ⟨ty.set _ _ _, fun i hi => ?_, fun i hi => ?_, ?_, ?_, fun i hi => ?_, fun i hi => ?_, ?_⟩
  · by_cases hie : i = e
    · subst hie; rw [updN_same]; exact World.cell?_setCell_same' _ _ _ (by rw [hce, h.cw i hi]; rfl)
    · rw [updN_other _ _ hie, cell_set_other (fun e1 => hie e1.symm), hce]; exact h.cw i hi
  · rw [cell_set_other (by omega), hce]; exact h.cc i hi
  · rw [cell_set_other (by omega), hce]; exact h.c4
  · rw [cell_set_other (by omega), hce]; exact h.c5
  · by_cases hie : i = e
    · subst hie; rw [updN_same, updN_same]; exact WRow.setC hr ty (by decide)
    · rw [updN_other _ _ hie, updN_other _ _ hie]
      exact WRow.setC ((h.row i hi).kept t (h.uu he hi hie)) ty (by decide)
  · by_cases hie : i = e
    · subst hie; rw [updN_same]; exact fun q h => WRow.setC (hq q h) ty (by decide)
    · rw [updN_other _ _ hie]
      exact fun q hq2 => WRow.setC ((h.rd i hi q hq2).kept t (fun k hk hk' => blks_typed (h.rd i hi q hq2) (h.row e he) (by decide) k hk hk')) ty (by decide)
  · intro k h0 h1
    have h01 : e = 0 ∨ e = 1 := by omega
    rcases h01 with rfl | rfl
    · rw [updN_same] at h0
      rw [updN_other _ _ (by omega)] at h1
      rcases hb k h0 with h2 | h2
      · exact h.du k h2 h1
      · have := (h.row 1 (by omega)).lt h1; omega
    · rw [updN_same] at h1
      rw [updN_other _ _ (by omega)] at h0
      rcases hb k h1 with h2 | h2
      · exact h.du k h0 h2
      · have := (h.row 0 (by omega)).lt h0; omega
theorem QAt.setC (h : QAt w x count size C U Q) {e : Nat} (he : e < 2) (b : Bool) : QAt (w.setCell ⟨x, 2 + e, none⟩ (.bool b)) x count size (updN C e b) U Q := by
  have t2 : Turn (fun k => k = x) w (w.setCell ⟨x, 2 + e, none⟩ (.bool b)) := (Turn.refl (fun k => k = x) _).setCell (p := ⟨x, 2 + e, none⟩) (.inl rfl) _
  refine ⟨h.typ.set _ _ _, fun i hi => ?_, fun i hi => ?_, ?_, ?_, fun i hi => (h.row i hi).kept t2 (fun _ hk e1 => h.nu hi (e1 ▸ hk)), fun i hi q hq => (h.rd i hi q hq).kept t2 (fun _ hk e1 => h.nq hi hq (e1 ▸ hk)), h.du⟩
  · rw [cell_set_other (by omega)]; exact h.cw i hi
  · by_cases hie : i = e
    · subst hie; rw [updN_same]; exact World.cell?_setCell_same' _ _ _ (by rw [h.cc i hi]; rfl)
    · rw [updN_other _ _ hie, cell_set_other (by omega)]; exact h.cc i hi
  · rw [cell_set_other (by omega)]; exact h.c4
  · rw [cell_set_other (by omega)]; exact h.c5
end
/-- A reference's fifo that a call has made of another one: its own blocks, and new ones. -/
def QMade (w w' : World) (x count size : Nat) (C : Nat → Bool) (U : Nat → Value) (Q : Nat → Pcs) (Q' : Nat → Pcs) : Prop :=
  ∃ U', QAt w' x count size C U' Q' ∧ Turn (QF x U Q) w w' ∧ ∀ k, QF x U' Q' k → QF x U Q k ∨ (w.heap.size ≤ k ∧ k < w'.heap.size)
section
variable {w w1 w2 : World} {x count size : Nat} {C : Nat → Bool} {U : Nat → Value} {Q Q1 Q2 : Nat → Pcs}
theorem QMade.refl (h : QAt w x count size C U Q) (t : Turn NoBlock w w1) : QMade w w1 x count size C U Q Q := ⟨U, h.past t, TU t, fun _ hk => .inl hk⟩
theorem QMade.trans (h : QMade w w1 x count size C U Q Q1) (k : ∀ U1, QAt w1 x count size C U1 Q1 → QMade w1 w2 x count size C U1 Q1 Q2) : QMade w w2 x count size C U Q Q2 := by
  obtain ⟨U1, a1, t1, f1⟩ := h
  obtain ⟨U2, a2, t2, f2⟩ := k U1 a1
  have hs1 := t1.size
  have hs2 := t2.size
  refine ⟨U2, a2, t1.trans t2 (fun k hk => (f1 k hk).imp id (fun h => h.1)), fun k hk => ?_⟩
  rcases f2 k hk with h | h
  · rcases f1 k h with h | h
    · exact .inl h
    · exact .inr ⟨h.1, by omega⟩
  · exact .inr ⟨by omega, h.2⟩
/-- The row of an end is another one. -/
theorem QAt.made (h : QAt w x count size C U Q) {e : Nat} (he : e < 2) (t : Turn (Blk (U e)) w w1) {u : Value} {l : Pcs} (hr : WRow w1 35 1 u l.length (pv l)) (hq : ∀ q ∈ l, Byts q.1 q.2 w1 ∧ ∀ k, Blk q.1 k → (∃ q' ∈ Q e, Blk q'.1 k) ∨ (w.heap.size ≤ k ∧ k < w1.heap.size)) (hb : ∀ k, Blk u k → Blk (U e) k ∨ (w.heap.size ≤ k ∧ k < w1.heap.size)) : QMade w (w1.setCell ⟨x, e, none⟩ u) x count size C U Q (updN Q e l) := by
  have hsz : (w1.setCell ⟨x, e, none⟩ u).heap.size = w1.heap.size := by simp [World.setCell]
  refine ⟨_, h.setQ he t hr (fun q hq1 => (hq q hq1).1) (fun k hk => (hb k hk).imp id (fun h => h.1)), (t.mono (fun k hk => .inl (.inr (.inl ⟨e, he, hk⟩)))).setCell (p := ⟨x, e, none⟩) (.inl (.inl rfl)) _, fun k hk => ?_⟩
  rw [hsz]
  rcases hk with h1 | ⟨i, hi, h1⟩ | ⟨i, hi, q, hq1, h1⟩
  · exact .inl (.inl h1)
  · by_cases hie : i = e
    · subst hie
      rw [updN_same] at h1
      rcases hb k h1 with h2 | h2
      · exact .inl (.inr (.inl ⟨i, hi, h2⟩))
      · exact .inr h2
    · rw [updN_other _ _ hie] at h1
      exact .inl (.inr (.inl ⟨i, hi, h1⟩))
  · by_cases hie : i = e
    · subst hie
      rw [updN_same] at hq1
      rcases (hq q hq1).2 k h1 with ⟨q', h2, h3⟩ | h2
      · exact .inl (.inr (.inr ⟨i, hi, q', h2, h3⟩))
      · exact .inr h2
    · rw [updN_other _ _ hie] at hq1
      exact .inl (.inr (.inr ⟨i, hi, q, hq1, h1⟩))
end
end Go.Proofs.Ytocaebcbmfejbaa
