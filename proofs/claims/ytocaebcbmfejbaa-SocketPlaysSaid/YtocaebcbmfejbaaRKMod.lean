/-
  The reference's socket in memory. No walk, no conditions.
-/
import Derived.Test.YtocaebcbmfejbaaKLaw
namespace Go.Proofs.Ytocaebcbmfejbaa
open Go.RowKit

theorem infoS2 : (Try.prog.info? 35).map (fun i => (i.zero, i.size, i.bytes)) = some (some (.slice none 0 0), 1, 24) := by kernel_rfl
theorem bytess2 : Try.prog.underlying 57 = some (.slice 35) := by kernel_rfl
theorem elem_bytess : Try.prog.underlying 57 = some (.slice (Try.prog.elem 57)) := by kernel_rfl
theorem size_bytess : ∀ w, (Go.sizeOf (Try.prog.elem 57)).run Try.prog w = .ok 1 w := fun w => by kernel_rfl
/-- What waits at the reference's end: slices of bytes. -/
abbrev Pcs := List (Value × List UInt8)
def pv (l : Pcs) : List Value := l.map (·.1)
def pb (l : Pcs) : List UInt8 := (l.map (·.2)).flatten
def pl (l : Pcs) : List Nat := l.map (·.2.length)
theorem pb_len (l : Pcs) : (pb l).length = (pl l).sum := by
  unfold pb pl
  rw [List.length_flatten, List.map_map]
  rfl
structure RAt (w : World) (x : Nat) (dg : Bool) (room : Nat) (C M D : Nat → Bool) (U : Nat → Value) (Q : Nat → Pcs) : Prop where
  typ : TBlk w x 60
  cw : ∀ e, e < 2 → w.cell? ⟨x, e, none⟩ = some (U e)
  cc : ∀ e, e < 2 → w.cell? ⟨x, 2 + e, none⟩ = some (.bool (C e))
  cm : ∀ e, e < 2 → w.cell? ⟨x, 4 + e, none⟩ = some (.bool (M e))
  cd : ∀ e, e < 2 → w.cell? ⟨x, 6 + e, none⟩ = some (.bool (D e))
  c8 : w.cell? ⟨x, 8, none⟩ = some (.bool dg)
  c9 : w.cell? ⟨x, 9, none⟩ = some (.int .i64 (room : Int))
  row : ∀ e, e < 2 → WRow w 35 1 (U e) (Q e).length (pv (Q e))
  rd : ∀ e, e < 2 → ∀ q ∈ Q e, Byts q.1 q.2 w
/-- All blocks of the reference's socket. -/
def RF (x : Nat) (U : Nat → Value) (Q : Nat → Pcs) (k : Nat) : Prop := k = x ∨ (∃ e, e < 2 ∧ Blk (U e) k) ∨ ∃ e, e < 2 ∧ ∃ q ∈ Q e, Blk q.1 k
section
variable {w w' : World} {x room : Nat} {dg : Bool} {C M D : Nat → Bool} {U : Nat → Value} {Q : Nat → Pcs}
theorem RAt.lt (h : RAt w x dg room C M D U Q) {k : Nat} (hk : RF x U Q k) : k < w.heap.size := by
  rcases hk with rfl | ⟨e, he, hk⟩ | ⟨e, he, q, hq, hk⟩
  · exact h.typ.lt
  · exact (h.row e he).lt hk
  · exact WRow.lt (h.rd e he q hq) hk
theorem RAt.kept {F : Nat → Prop} (h : RAt w x dg room C M D U Q) (t : Turn F w w') (hF : ∀ k, RF x U Q k → ¬ F k) : RAt w' x dg room C M D U Q :=
  ⟨h.typ.kept t (hF x (.inl rfl)), fun e he => t.cell (h.cw e he) (hF x (.inl rfl)), fun e he => t.cell (h.cc e he) (hF x (.inl rfl)), fun e he => t.cell (h.cm e he) (hF x (.inl rfl)), fun e he => t.cell (h.cd e he) (hF x (.inl rfl)), t.cell h.c8 (hF x (.inl rfl)), t.cell h.c9 (hF x (.inl rfl)),
    fun e he => (h.row e he).kept t (fun k hk => hF k (.inr (.inl ⟨e, he, hk⟩))), fun e he q hq => (h.rd e he q hq).kept t (fun k hk => hF k (.inr (.inr ⟨e, he, q, hq, hk⟩)))⟩
theorem RAt.past (h : RAt w x dg room C M D U Q) (t : Turn NoBlock w w') : RAt w' x dg room C M D U Q := h.kept t (fun _ _ h => h)
theorem RAt.nu (h : RAt w x dg room C M D U Q) {e : Nat} (he : e < 2) : ¬ Blk (U e) x := blk_typed (h.row e he) h.typ (by decide)
theorem RAt.nq (h : RAt w x dg room C M D U Q) {e : Nat} (he : e < 2) {q : Value × List UInt8} (hq : q ∈ Q e) : ¬ Blk q.1 x := blk_typed (h.rd e he q hq) h.typ (by decide)
theorem RAt.f (h : RAt w x dg room C M D U Q) (j : Nat) : w.frozen? ⟨x, j, none⟩ = false := h.typ.free j
/-- A block of the socket's own alone has turned. -/
theorem RAt.turnX (h : RAt w x dg room C M D U Q) (t : Turn (fun k => k = x) w w') : (∀ e, e < 2 → WRow w' 35 1 (U e) (Q e).length (pv (Q e))) ∧ ∀ e, e < 2 → ∀ q ∈ Q e, Byts q.1 q.2 w' :=
  ⟨fun e he => (h.row e he).kept t (fun _ hk e1 => h.nu he (e1 ▸ hk)), fun e he q hq => (h.rd e he q hq).kept t (fun _ hk e1 => h.nq he hq (e1 ▸ hk))⟩
/-- The pieces that wait at an end are others. -/
theorem RAt.setQ {w1 : World} (h : RAt w x dg room C M D U Q) {e : Nat} (he : e < 2) (t : Turn NoBlock w w1) {u : Value} {l : Pcs} (hr : WRow w1 35 1 u l.length (pv l)) (hq : ∀ q ∈ l, Byts q.1 q.2 w1) : RAt (w1.setCell ⟨x, e, none⟩ u) x dg room C M D (updN U e u) (updN Q e l) := by
  have h1 := h.past t
  have t2 : Turn (fun k => k = x) w1 (w1.setCell ⟨x, e, none⟩ u) := (Turn.refl (fun k => k = x) _).setCell (p := ⟨x, e, none⟩) (.inl rfl) _
  obtain ⟨g1, g2⟩ := h1.turnX t2
  refine ⟨h1.typ.set _ _ _, fun i hi => ?_, fun i hi => ?_, fun i hi => ?_, fun i hi => ?_, ?_, ?_, fun i hi => ?_, fun i hi => ?_⟩
  · by_cases hie : i = e
    · subst hie; rw [updN_same]; exact World.cell?_setCell_same' _ _ _ (by rw [h1.cw i hi]; rfl)
    · rw [updN_other _ _ hie, cell_set_other (fun e1 => hie e1.symm)]; exact h1.cw i hi
  · rw [cell_set_other (by omega)]; exact h1.cc i hi
  · rw [cell_set_other (by omega)]; exact h1.cm i hi
  · rw [cell_set_other (by omega)]; exact h1.cd i hi
  · rw [cell_set_other (by omega)]; exact h1.c8
  · rw [cell_set_other (by omega)]; exact h1.c9
  · by_cases hie : i = e
    · subst hie; rw [updN_same, updN_same]; exact WRow.setC hr h1.typ (by decide)
    · rw [updN_other _ _ hie, updN_other _ _ hie]; exact g1 i hi
  · by_cases hie : i = e
    · subst hie; rw [updN_same]; exact fun q h => WRow.setC (hq q h) h1.typ (by decide)
    · rw [updN_other _ _ hie]; exact g2 i hi
theorem RAt.setM (h : RAt w x dg room C M D U Q) {e : Nat} (he : e < 2) (b : Bool) : RAt (w.setCell ⟨x, 4 + e, none⟩ (.bool b)) x dg room C (updN M e b) D U Q := by
  have t2 : Turn (fun k => k = x) w (w.setCell ⟨x, 4 + e, none⟩ (.bool b)) := (Turn.refl (fun k => k = x) _).setCell (p := ⟨x, 4 + e, none⟩) (.inl rfl) _
  obtain ⟨g1, g2⟩ := h.turnX t2
  refine ⟨h.typ.set _ _ _, fun i hi => ?_, fun i hi => ?_, fun i hi => ?_, fun i hi => ?_, ?_, ?_, g1, g2⟩
  · rw [cell_set_other (by omega)]; exact h.cw i hi
  · rw [cell_set_other (by omega)]; exact h.cc i hi
  · by_cases hie : i = e
    · subst hie; rw [updN_same]; exact World.cell?_setCell_same' _ _ _ (by rw [h.cm i hi]; rfl)
    · rw [updN_other _ _ hie, cell_set_other (by omega)]; exact h.cm i hi
  · rw [cell_set_other (by omega)]; exact h.cd i hi
  · rw [cell_set_other (by omega)]; exact h.c8
  · rw [cell_set_other (by omega)]; exact h.c9
theorem RAt.setD (h : RAt w x dg room C M D U Q) {e : Nat} (he : e < 2) (b : Bool) : RAt (w.setCell ⟨x, 6 + e, none⟩ (.bool b)) x dg room C M (updN D e b) U Q := by
  have t2 : Turn (fun k => k = x) w (w.setCell ⟨x, 6 + e, none⟩ (.bool b)) := (Turn.refl (fun k => k = x) _).setCell (p := ⟨x, 6 + e, none⟩) (.inl rfl) _
  obtain ⟨g1, g2⟩ := h.turnX t2
  refine ⟨h.typ.set _ _ _, fun i hi => ?_, fun i hi => ?_, fun i hi => ?_, fun i hi => ?_, ?_, ?_, g1, g2⟩
  · rw [cell_set_other (by omega)]; exact h.cw i hi
  · rw [cell_set_other (by omega)]; exact h.cc i hi
  · rw [cell_set_other (by omega)]; exact h.cm i hi
  · by_cases hie : i = e
    · subst hie; rw [updN_same]; exact World.cell?_setCell_same' _ _ _ (by rw [h.cd i hi]; rfl)
    · rw [updN_other _ _ hie, cell_set_other (by omega)]; exact h.cd i hi
  · rw [cell_set_other (by omega)]; exact h.c8
  · rw [cell_set_other (by omega)]; exact h.c9
theorem RAt.setC (h : RAt w x dg room C M D U Q) {e : Nat} (he : e < 2) (b : Bool) : RAt (w.setCell ⟨x, 2 + e, none⟩ (.bool b)) x dg room (updN C e b) M D U Q := by
  have t2 : Turn (fun k => k = x) w (w.setCell ⟨x, 2 + e, none⟩ (.bool b)) := (Turn.refl (fun k => k = x) _).setCell (p := ⟨x, 2 + e, none⟩) (.inl rfl) _
  obtain ⟨g1, g2⟩ := h.turnX t2
  refine ⟨h.typ.set _ _ _, fun i hi => ?_, fun i hi => ?_, fun i hi => ?_, fun i hi => ?_, ?_, ?_, g1, g2⟩
  · rw [cell_set_other (by omega)]; exact h.cw i hi
  · by_cases hie : i = e
    · subst hie; rw [updN_same]; exact World.cell?_setCell_same' _ _ _ (by rw [h.cc i hi]; rfl)
    · rw [updN_other _ _ hie, cell_set_other (by omega)]; exact h.cc i hi
  · rw [cell_set_other (by omega)]; exact h.cm i hi
  · rw [cell_set_other (by omega)]; exact h.cd i hi
  · rw [cell_set_other (by omega)]; exact h.c8
  · rw [cell_set_other (by omega)]; exact h.c9
end
/-- A reference's socket that a call has made of another one: its own block, and new ones. -/
def RMadeQ (w w' : World) (x : Nat) (dg : Bool) (room : Nat) (C M D : Nat → Bool) (U : Nat → Value) (Q : Nat → Pcs) (Y : Nat → Prop) (Q' : Nat → Pcs) : Prop :=
  ∃ U', RAt w' x dg room C M D U' Q' ∧ Turn (fun k => k = x) w w' ∧ ∀ k, RF x U' Q' k → RF x U Q k ∨ Y k ∨ (w.heap.size ≤ k ∧ k < w'.heap.size)
end Go.Proofs.Ytocaebcbmfejbaa
