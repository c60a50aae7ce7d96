/-
  The reference's channel in memory. No walk, no conditions.
-/
import Derived.Test.YtcbphfpfdfgehaaCMsg
namespace Go.Proofs.Ytcbphfpfdfgehaa
open Go.RowKit

theorem rmsgs2 : Try.prog.underlying 28 = some (.slice 38) := by kernel_rfl
theorem rws2 : Try.prog.underlying 30 = some (.slice 131) := by kernel_rfl
theorem infoRM : (Try.prog.info? 38).map (fun i => (i.zero, i.size, i.bytes)) = some (some (.agg #[.int .i64 0, .slice none 0 0, .slice none 0 0]), 3, 56) := by kernel_rfl
theorem infoRW : (Try.prog.info? 131).map (fun i => (i.zero, i.size, i.bytes)) = some (some (.agg #[.int .i64 0, .int .i64 0]), 2, 16) := by kernel_rfl
theorem elem_rmsgs : Try.prog.underlying 28 = some (.slice (Try.prog.elem 28)) := by kernel_rfl
theorem size_rmsgs : ∀ w, (Go.sizeOf (Try.prog.elem 28)).run Try.prog w = .ok 3 w := fun w => by kernel_rfl
/-- A message that came in, and fits. -/
structure QIn (w : World) (q : QM) : Prop where
  d : RzB w q.vd q.m.d
  h : RzI w q.vh q.m.h
  fits : q.m.fits
theorem QIn.past {w w' : World} {q : QM} (h : QIn w q) (t : Turn NoBlock w w') : QIn w' q := ⟨h.d.past t, h.h.past t, h.fits⟩
theorem QIn.one {w : World} {q : QM} (h : QIn w q) : ∀ u ∈ q.cells, u.oneCell' = true := by
  obtain ⟨p, c, h1⟩ := h.d.sl
  obtain ⟨p', c', h2⟩ := h.h.sl
  intro u hu
  simp [QM.cells] at hu
  rcases hu with rfl | rfl | rfl
  · rfl
  · rw [h1]; rfl
  · rw [h2]; rfl
structure RC (w0 w : World) (x depth : Nat) (S : Nat → MS) (U V : Nat → Value) (Q : Nat → List QM) : Prop where
  typ : TBlk w x 34
  cu : ∀ e, e < 2 → w.cell? ⟨x, e, none⟩ = some (U e)
  cv : ∀ e, e < 2 → w.cell? ⟨x, 2 + e, none⟩ = some (V e)
  cc : ∀ e, e < 2 → w.cell? ⟨x, 4 + e, none⟩ = some (.bool (!(S e).op))
  c6 : w.cell? ⟨x, 6, none⟩ = some (.int .i64 (depth : Int))
  ru : ∀ e, e < 2 → WRow w 38 3 (U e) (Q e).length (qcells (Q e))
  rv : ∀ e, e < 2 → WRow w 131 2 (V e) (S e).ws.length (wcells (S e).ws)
  rd : ∀ e, e < 2 → ∀ q ∈ Q e, QIn w0 q
  mp : ∀ e, e < 2 → (Q e).map (·.m) = (S e).q
  nz : ∀ e, e < 2 → ∀ t ∈ (S e).ws, t.tx ≠ 0
/-- All blocks of the reference's channel. -/
def RF (x : Nat) (U V : Nat → Value) (k : Nat) : Prop := k = x ∨ ∃ e, e < 2 ∧ (Blk (U e) k ∨ Blk (V e) k)
section
variable {w0 w w' w1 : World} {x depth : Nat} {S S' : Nat → MS} {U V : Nat → Value} {Q : Nat → List QM}
theorem RC.lt (h : RC w0 w x depth S U V Q) {k : Nat} (hk : RF x U V k) : k < w.heap.size := by
  rcases hk with rfl | ⟨e, he, hk | hk⟩
  · exact h.typ.lt
  · exact (h.ru e he).lt hk
  · exact (h.rv e he).lt hk
theorem RC.kept {F : Nat → Prop} (h : RC w0 w x depth S U V Q) (t : Turn F w w') (hF : ∀ k, RF x U V k → ¬ F k) : RC w0 w' x depth S U V Q :=
  ⟨h.typ.kept t (hF x (.inl rfl)), fun e he => t.cell (h.cu e he) (hF x (.inl rfl)), fun e he => t.cell (h.cv e he) (hF x (.inl rfl)), fun e he => t.cell (h.cc e he) (hF x (.inl rfl)), t.cell h.c6 (hF x (.inl rfl)),
    fun e he => (h.ru e he).kept t (fun k hk => hF k (.inr ⟨e, he, .inl hk⟩)), fun e he => (h.rv e he).kept t (fun k hk => hF k (.inr ⟨e, he, .inr hk⟩)), h.rd, h.mp, h.nz⟩
theorem RC.past (h : RC w0 w x depth S U V Q) (t : Turn NoBlock w w') : RC w0 w' x depth S U V Q := h.kept t (fun _ _ h => h)
theorem RC.nu (h : RC w0 w x depth S U V Q) {e : Nat} (he : e < 2) : ¬ Blk (U e) x := blk_typed (h.ru e he) h.typ (by decide)
theorem RC.nv (h : RC w0 w x depth S U V Q) {e : Nat} (he : e < 2) : ¬ Blk (V e) x := blk_typed (h.rv e he) h.typ (by decide)
theorem RC.f (h : RC w0 w x depth S U V Q) (j : Nat) : w.frozen? ⟨x, j, none⟩ = false := h.typ.free j
theorem RC.same (h : RC w0 w x depth S U V Q) (hs : S = S') : RC w0 w x depth S' U V Q := hs ▸ h
/-- The channel's own block alone has turned. -/
theorem RC.turnX (h : RC w0 w x depth S U V Q) (t : Turn (fun k => k = x) w w') : (∀ e, e < 2 → WRow w' 38 3 (U e) (Q e).length (qcells (Q e))) ∧ ∀ e, e < 2 → WRow w' 131 2 (V e) (S e).ws.length (wcells (S e).ws) :=
  ⟨fun e he => (h.ru e he).kept t (fun _ hk e1 => h.nu he (e1 ▸ hk)), fun e he => (h.rv e he).kept t (fun _ hk e1 => h.nv he (e1 ▸ hk))⟩
/-- An end's queue is another one. -/
theorem RC.setU (h : RC w0 w x depth S U V Q) {e : Nat} (he : e < 2) (t : Turn NoBlock w w1) {u : Value} {l : List QM} (hr : WRow w1 38 3 u l.length (qcells l)) (hq : ∀ q ∈ l, QIn w0 q) : RC w0 (w1.setCell ⟨x, e, none⟩ u) x depth (updN S e ⟨(S e).op, l.map (·.m), (S e).ws⟩) (updN U e u) V (updN Q e l) := by
  have h1 := h.past t
  have t2 : Turn (fun k => k = x) w1 (w1.setCell ⟨x, e, none⟩ u) := (Turn.refl (fun k => k = x) _).setCell (p := ⟨x, e, none⟩) (.inl rfl) _
  obtain ⟨g1, g2⟩ := h1.turnX t2
  refine ⟨h1.typ.set _ _ _, fun i hi => ?_, fun i hi => ?_, fun i hi => ?_, ?_, fun i hi => ?_, fun i hi => ?_, fun i hi => ?_, fun i hi => ?_, fun i hi => ?_⟩
  · by_cases hie : i = e
    · subst hie; rw [updN_same]; exact World.cell?_setCell_same' _ _ _ (by rw [h1.cu i hi]; rfl)
    · rw [updN_other _ _ hie, cell_set_other (fun e1 => hie e1.symm)]; exact h1.cu i hi
  · rw [cell_set_other (by omega)]; exact h1.cv i hi
  · rw [cell_set_other (by omega)]
    by_cases hie : i = e
    · subst hie; rw [updN_same]; exact h1.cc i hi
    · rw [updN_other _ _ hie]; exact h1.cc i hi
  · rw [cell_set_other (by omega)]; exact h1.c6
  · by_cases hie : i = e
    · subst hie; rw [updN_same, updN_same]; exact WRow.setC hr h1.typ (by decide)
    · rw [updN_other _ _ hie, updN_other _ _ hie]; exact g1 i hi
  · by_cases hie : i = e
    · subst hie; rw [updN_same]; exact g2 i hi
    · rw [updN_other _ _ hie]; exact g2 i hi
  · by_cases hie : i = e
    · subst hie; rw [updN_same]; exact hq
    · rw [updN_other _ _ hie]; exact h1.rd i hi
  · by_cases hie : i = e
    · subst hie; rw [updN_same, updN_same]
    · rw [updN_other _ _ hie, updN_other _ _ hie]; exact h1.mp i hi
  · by_cases hie : i = e
    · subst hie; rw [updN_same]; exact h1.nz i hi
    · rw [updN_other _ _ hie]; exact h1.nz i hi
/-- Those who wait at an end are others. -/
theorem RC.setV (h : RC w0 w x depth S U V Q) {e : Nat} (he : e < 2) (t : Turn NoBlock w w1) {v : Value} {l : List Wt} (hr : WRow w1 131 2 v l.length (wcells l)) (hnz : ∀ t ∈ l, t.tx ≠ 0) : RC w0 (w1.setCell ⟨x, 2 + e, none⟩ v) x depth (updN S e ⟨(S e).op, (S e).q, l⟩) U (updN V e v) Q := by
  have h1 := h.past t
  have t2 : Turn (fun k => k = x) w1 (w1.setCell ⟨x, 2 + e, none⟩ v) := (Turn.refl (fun k => k = x) _).setCell (p := ⟨x, 2 + e, none⟩) (.inl rfl) _
  obtain ⟨g1, g2⟩ := h1.turnX t2
  refine ⟨h1.typ.set _ _ _, fun i hi => ?_, fun i hi => ?_, fun i hi => ?_, ?_, g1, fun i hi => ?_, h1.rd, fun i hi => ?_, fun i hi => ?_⟩
  · rw [cell_set_other (by omega)]; exact h1.cu i hi
  · by_cases hie : i = e
    · subst hie; rw [updN_same]; exact World.cell?_setCell_same' _ _ _ (by rw [h1.cv i hi]; rfl)
    · rw [updN_other _ _ hie, cell_set_other (by omega)]; exact h1.cv i hi
  · rw [cell_set_other (by omega)]
    by_cases hie : i = e
    · subst hie; rw [updN_same]; exact h1.cc i hi
    · rw [updN_other _ _ hie]; exact h1.cc i hi
  · rw [cell_set_other (by omega)]; exact h1.c6
  · by_cases hie : i = e
    · subst hie; rw [updN_same, updN_same]; exact WRow.setC hr h1.typ (by decide)
    · rw [updN_other _ _ hie, updN_other _ _ hie]; exact g2 i hi
  · by_cases hie : i = e
    · subst hie; rw [updN_same]; exact h1.mp i hi
    · rw [updN_other _ _ hie]; exact h1.mp i hi
  · by_cases hie : i = e
    · subst hie; rw [updN_same]; exact hnz
    · rw [updN_other _ _ hie]; exact h1.nz i hi
/-- An end is shut. -/
theorem RC.setC (h : RC w0 w x depth S U V Q) {e : Nat} (he : e < 2) : RC w0 (w.setCell ⟨x, 4 + e, none⟩ (.bool true)) x depth (updN S e ⟨false, (S e).q, (S e).ws⟩) U V Q := by
  have t2 : Turn (fun k => k = x) w (w.setCell ⟨x, 4 + e, none⟩ (.bool true)) := (Turn.refl (fun k => k = x) _).setCell (p := ⟨x, 4 + e, none⟩) (.inl rfl) _
  obtain ⟨g1, g2⟩ := h.turnX t2
  refine ⟨h.typ.set _ _ _, fun i hi => ?_, fun i hi => ?_, fun i hi => ?_, ?_, g1, fun i hi => ?_, h.rd, fun i hi => ?_, fun i hi => ?_⟩
  · rw [cell_set_other (by omega)]; exact h.cu i hi
  · rw [cell_set_other (by omega)]; exact h.cv i hi
  · by_cases hie : i = e
    · subst hie; rw [updN_same]; exact World.cell?_setCell_same' _ _ _ (by rw [h.cc i hi]; rfl)
    · rw [updN_other _ _ hie, cell_set_other (by omega)]; exact h.cc i hi
  · rw [cell_set_other (by omega)]; exact h.c6
  · by_cases hie : i = e
    · subst hie; rw [updN_same]; exact g2 i hi
    · rw [updN_other _ _ hie]; exact g2 i hi
  · by_cases hie : i = e
    · subst hie; rw [updN_same]; exact h.mp i hi
    · rw [updN_other _ _ hie]; exact h.mp i hi
  · by_cases hie : i = e
    · subst hie; rw [updN_same]; exact h.nz i hi
    · rw [updN_other _ _ hie]; exact h.nz i hi
end
/-- A reference's channel that a call has made of another one: its own block, and new ones. -/
def RMk (w0 w w' : World) (x depth : Nat) (U V : Nat → Value) (S' : Nat → MS) : Prop :=
  ∃ U' V' Q', RC w0 w' x depth S' U' V' Q' ∧ Turn (fun k => k = x) w w' ∧ ∀ k, RF x U' V' k → RF x U V k ∨ (w.heap.size ≤ k ∧ k < w'.heap.size)
section
variable {w0 w w' w1 w2 : World} {x depth : Nat} {S S' S'' : Nat → MS} {U V : Nat → Value} {Q : Nat → List QM}
theorem RMk.refl (h : RC w0 w x depth S U V Q) (t : Turn NoBlock w w1) : RMk w0 w w1 x depth U V S := ⟨U, V, Q, h.past t, TU t, fun _ hk => .inl hk⟩
theorem RMk.same (h : RMk w0 w w1 x depth U V S) (hs : S = S') : RMk w0 w w1 x depth U V S' := hs ▸ h
theorem RMk.past (h : RMk w0 w w1 x depth U V S) (t : Turn NoBlock w1 w2) : RMk w0 w w2 x depth U V S := by
  obtain ⟨U', V', Q', h1, t1, h3⟩ := h
  have := t.size
  exact ⟨U', V', Q', h1.past t, t1.trans t (fun _ h => h.elim), fun k hk => (h3 k hk).imp (fun h => h) (fun h => ⟨h.1, by omega⟩)⟩
theorem RMk.trans (h : RMk w0 w w1 x depth U V S') (k : ∀ U1 V1 Q1, RC w0 w1 x depth S' U1 V1 Q1 → RMk w0 w1 w2 x depth U1 V1 S'') : RMk w0 w w2 x depth U V S'' := by
  obtain ⟨U1, V1, Q1, a1, t1, f1⟩ := h
  obtain ⟨U2, V2, Q2, a2, t2, f2⟩ := k U1 V1 Q1 a1
  have hs1 := t1.size
  have hs2 := t2.size
  refine ⟨U2, V2, Q2, a2, t1.trans t2 (fun k hk => .inl hk), fun k hk => ?_⟩
  rcases f2 k hk with h | h
  · rcases f1 k h with h | h
    · exact .inl h
    · exact .inr ⟨h.1, by omega⟩
  · exact .inr ⟨by omega, h.2⟩
theorem rmk_u (h : RC w0 w x depth S U V Q) {e : Nat} (he : e < 2) (t : Turn NoBlock w w1) {u : Value} {l : List QM} (hr : WRow w1 38 3 u l.length (qcells l)) (hq : ∀ q ∈ l, QIn w0 q) (hb : ∀ k, Blk u k → Blk (U e) k ∨ w.heap.size ≤ k) : RMk w0 w (w1.setCell ⟨x, e, none⟩ u) x depth U V (updN S e ⟨(S e).op, l.map (·.m), (S e).ws⟩) := by
  have hsz : (w1.setCell ⟨x, e, none⟩ u).heap.size = w1.heap.size := by simp [World.setCell]
  refine ⟨_, _, _, h.setU he t hr hq, (TU (F := fun k => k = x) t).setCell (p := ⟨x, e, none⟩) (.inl rfl) _, fun k hk => ?_⟩
  rw [hsz]
  rcases hk with hk | ⟨i, hi, hk | hk⟩
  · exact .inl (.inl hk)
  · by_cases hie : i = e
    · subst hie
      rw [updN_same] at hk
      rcases hb k hk with h1 | h1
      · exact .inl (.inr ⟨i, hi, .inl h1⟩)
      · exact .inr ⟨h1, hr.lt hk⟩
    · rw [updN_other _ _ hie] at hk
      exact .inl (.inr ⟨i, hi, .inl hk⟩)
  · exact .inl (.inr ⟨i, hi, .inr hk⟩)
theorem rmk_v (h : RC w0 w x depth S U V Q) {e : Nat} (he : e < 2) (t : Turn NoBlock w w1) {v : Value} {l : List Wt} (hr : WRow w1 131 2 v l.length (wcells l)) (hnz : ∀ t ∈ l, t.tx ≠ 0) (hb : ∀ k, Blk v k → Blk (V e) k ∨ w.heap.size ≤ k) : RMk w0 w (w1.setCell ⟨x, 2 + e, none⟩ v) x depth U V (updN S e ⟨(S e).op, (S e).q, l⟩) := by
  have hsz : (w1.setCell ⟨x, 2 + e, none⟩ v).heap.size = w1.heap.size := by simp [World.setCell]
  refine ⟨_, _, _, h.setV he t hr hnz, (TU (F := fun k => k = x) t).setCell (p := ⟨x, 2 + e, none⟩) (.inl rfl) _, fun k hk => ?_⟩
  rw [hsz]
  rcases hk with hk | ⟨i, hi, hk | hk⟩
  · exact .inl (.inl hk)
  · exact .inl (.inr ⟨i, hi, .inl hk⟩)
  · by_cases hie : i = e
    · subst hie
      rw [updN_same] at hk
      rcases hb k hk with h1 | h1
      · exact .inl (.inr ⟨i, hi, .inr h1⟩)
      · exact .inr ⟨h1, hr.lt hk⟩
    · rw [updN_other _ _ hie] at hk
      exact .inl (.inr ⟨i, hi, .inr hk⟩)
theorem rmk_c (h : RC w0 w x depth S U V Q) {e : Nat} (he : e < 2) : RMk w0 w (w.setCell ⟨x, 4 + e, none⟩ (.bool true)) x depth U V (updN S e ⟨false, (S e).q, (S e).ws⟩) :=
  ⟨_, _, _, h.setC he, (Turn.refl (fun k => k = x) _).setCell (p := ⟨x, 4 + e, none⟩) (.inl rfl) _, fun _ hk => .inl hk⟩
end
end Go.Proofs.Ytcbphfpfdfgehaa
