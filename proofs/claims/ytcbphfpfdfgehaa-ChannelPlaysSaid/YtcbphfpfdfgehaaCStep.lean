/-
  What a change of one end makes of a channel. No walk, no conditions.
-/
import Derived.Test.YtcbphfpfdfgehaaCDelete
namespace Go.Proofs.Ytcbphfpfdfgehaa
open Go.RowKit

theorem blk_typed {w : World} {g : Nat} {v : Value} {e size n : Nat} {xs : List Value} {t : TypeId} (h : WRow w e size v n xs) (hg : TBlk w g t) (hne : t ≠ e) : ¬ Blk v g := fun hk => (hg.unlike (h.typed hk) hne) rfl
theorem blks_typed {w : World} {v v' : Value} {e e' size size' n n' : Nat} {xs xs' : List Value} (h : WRow w e size v n xs) (h' : WRow w e' size' v' n' xs') (hne : e ≠ e') : ∀ k, Blk v k → ¬ Blk v' k := fun _ hk hk' => ((h.typed hk).unlike (h'.typed hk') hne) rfl

/-- One end has changed. -/
structure SStep (w w' : World) (c o : Nat) (s : Sd) (v : SV) (s' : Sd) (v' : SV) : Prop where
  turn : Turn (fun k => k = c ∨ v.F k) w w'
  cells : ∀ j, ¬ (o ≤ j ∧ j < o + 4) → w'.cell? ⟨c, j, none⟩ = w.cell? ⟨c, j, none⟩
  at' : SAt w' c o s' v'
  ba : ∀ k, Blk v'.a k → Blk v.a k ∨ w.heap.size ≤ k
  bo : ∀ k, Blk v'.o k → Blk v.o k ∨ w.heap.size ≤ k
  bw : ∀ k, Blk v'.w k → Blk v.w k ∨ w.heap.size ≤ k
  qs : ∀ q, (q ∈ s'.an ∨ q ∈ s'.ot) → (q ∈ s.an ∨ q ∈ s.ot) ∨ ∀ k, q.F k → w.heap.size ≤ k

theorem cell_set_other {w : World} {c i j : Nat} {u : Value} (h : i ≠ j) : (w.setCell ⟨c, i, none⟩ u).cell? ⟨c, j, none⟩ = w.cell? ⟨c, j, none⟩ :=
  World.cell?_setCell_other w ⟨c, i, none⟩ ⟨c, j, none⟩ u (fun e => h (by simpa using e.symm))
section
variable {w w1 : World} {c o : Nat} {s : Sd} {v : SV}
theorem SAt.apartA (h : SAt w c o s v) : ∀ k, (k = c ∨ Blk v.o k ∨ Blk v.w k ∨ ∃ q, (q ∈ s.an ∨ q ∈ s.ot) ∧ q.F k) → ¬ Blk v.a k := fun k hk => by
  rcases hk with rfl | hk | hk | ⟨q, hq, hk | hk⟩
  · exact blk_typed h.rowA h.typ (by decide)
  · exact fun hh => h.ao k hh hk
  · exact blks_typed h.rowW h.rowA (by decide) k hk
  · exact blks_typed (h.ok q hq).d h.rowA (by decide) k hk
  · exact blks_typed (h.ok q hq).h h.rowA (by decide) k hk
theorem SAt.apartO (h : SAt w c o s v) : ∀ k, (k = c ∨ Blk v.a k ∨ Blk v.w k ∨ ∃ q, (q ∈ s.an ∨ q ∈ s.ot) ∧ q.F k) → ¬ Blk v.o k := fun k hk => by
  rcases hk with rfl | hk | hk | ⟨q, hq, hk | hk⟩
  · exact blk_typed h.rowO h.typ (by decide)
  · exact h.ao k hk
  · exact blks_typed h.rowW h.rowO (by decide) k hk
  · exact blks_typed (h.ok q hq).d h.rowO (by decide) k hk
  · exact blks_typed (h.ok q hq).h h.rowO (by decide) k hk
theorem SAt.apartW (h : SAt w c o s v) : ∀ k, (k = c ∨ Blk v.a k ∨ Blk v.o k ∨ ∃ q, (q ∈ s.an ∨ q ∈ s.ot) ∧ q.F k) → ¬ Blk v.w k := fun k hk => by
  rcases hk with rfl | hk | hk | ⟨q, hq, hk | hk⟩
  · exact blk_typed h.rowW h.typ (by decide)
  · exact blks_typed h.rowA h.rowW (by decide) k hk
  · exact blks_typed h.rowO h.rowW (by decide) k hk
  · exact blks_typed (h.ok q hq).d h.rowW (by decide) k hk
  · exact blks_typed (h.ok q hq).h h.rowW (by decide) k hk
theorem WRow.setC {e size n : Nat} {x : Value} {xs : List Value} {t : TypeId} {j : Nat} {u : Value} (h : WRow w e size x n xs) (hc : TBlk w c t) (hne : t ≠ e) : WRow (w.setCell ⟨c, j, none⟩ u) e size x n xs :=
  h.kept ((Turn.refl (fun k => k = c) w).setCell (p := ⟨c, j, none⟩) (.inl rfl) u) (fun _ hk e => blk_typed h hc hne (e ▸ hk))
theorem QM.Ok.setC {q : QM} {j : Nat} {u : Value} (h : q.Ok w) (hc : TBlk w c 88) : q.Ok (w.setCell ⟨c, j, none⟩ u) :=
  ⟨WRow.setC h.d hc (by decide), WRow.setC h.h hc (by decide), h.fits⟩

/-- The answers' slice is another one. -/
theorem SAt.putA (h : SAt w c o s v) (t : Turn (Blk v.a) w w1) {va : Value} {an : List QM} (hrow : WRow w1 49 3 va an.length (qcells an)) (hb : ∀ k, Blk va k → Blk v.a k ∨ w.heap.size ≤ k)
    (hok : ∀ q ∈ an, (q ∈ s.an ∨ q ∈ s.ot) ∨ (q.Ok w1 ∧ ∀ k, q.F k → w.heap.size ≤ k)) : SStep w (w1.setCell ⟨c, o + 1, none⟩ va) c o s v { s with an := an } { v with a := va } := by
  have hd := h.apartA
  have ty := h.typ.kept t (hd c (.inl rfl))
  have hl := fun k hk => h.lt (k := k) hk
  have hokw : ∀ q, q ∈ s.an ∨ q ∈ s.ot → q.Ok w1 := fun q hq => (h.ok q hq).kept t (fun k hk => hd k (.inr (.inr (.inr ⟨q, hq, hk⟩))))
  refine ⟨?_, fun j hj => ?_, ⟨ty.set _ _ _, ?_, ?_, ?_, ?_, hrow.setC ty (by decide), ?_, ?_, fun k hk hk' => ?_, fun q hq => ?_⟩, hb, fun k hk => .inl hk, fun k hk => .inl hk, fun q hq => ?_⟩
  · exact (t.mono (G := fun k => k = c ∨ v.F k) (fun k hk => .inl (.inr (.inl hk)))).setCell (p := ⟨c, o + 1, none⟩) (.inl (.inl rfl)) _
  · rw [cell_set_other (by omega)]
    exact World.cell?_of_block (a := ⟨c, j, none⟩) (t.block c h.typ.lt (hd c (.inl rfl)))
  · rw [cell_set_other (by omega)]; exact t.cell h.c0 (hd c (.inl rfl))
  · exact World.cell?_setCell_same' _ _ _ (by rw [t.cell h.c1 (hd c (.inl rfl))]; rfl)
  · rw [cell_set_other (by omega)]; exact t.cell h.c2 (hd c (.inl rfl))
  · rw [cell_set_other (by omega)]; exact t.cell h.c3 (hd c (.inl rfl))
  · exact (h.rowO.kept t (fun k hk => hd k (.inr (.inl hk)))).setC ty (by decide)
  · exact (h.rowW.kept t (fun k hk => hd k (.inr (.inr (.inl hk))))).setC ty (by decide)
  · rcases hb k hk with h1 | h1
    · exact h.ao k h1 hk'
    · have := hl k (.inr (.inl (.inr (.inl hk')))); omega
  · rcases hq with hq | hq
    · rcases hok q hq with h1 | h1
      · exact (hokw q h1).setC ty
      · exact h1.1.setC ty
    · exact (hokw q (.inr hq)).setC ty
  · rcases hq with hq | hq
    · rcases hok q hq with h1 | h1
      · exact .inl h1
      · exact .inr h1.2
    · exact .inl (.inr hq)
/-- The others' slice is another one. -/
theorem SAt.putO (h : SAt w c o s v) (t : Turn (Blk v.o) w w1) {vo : Value} {ot : List QM} (hrow : WRow w1 49 3 vo ot.length (qcells ot)) (hb : ∀ k, Blk vo k → Blk v.o k ∨ w.heap.size ≤ k)
    (hok : ∀ q ∈ ot, (q ∈ s.an ∨ q ∈ s.ot) ∨ (q.Ok w1 ∧ ∀ k, q.F k → w.heap.size ≤ k)) : SStep w (w1.setCell ⟨c, o + 2, none⟩ vo) c o s v { s with ot := ot } { v with o := vo } := by
  have hd := h.apartO
  have ty := h.typ.kept t (hd c (.inl rfl))
  have hl := fun k hk => h.lt (k := k) hk
  have hokw : ∀ q, q ∈ s.an ∨ q ∈ s.ot → q.Ok w1 := fun q hq => (h.ok q hq).kept t (fun k hk => hd k (.inr (.inr (.inr ⟨q, hq, hk⟩))))
  refine ⟨?_, fun j hj => ?_, ⟨ty.set _ _ _, ?_, ?_, ?_, ?_, ?_, hrow.setC ty (by decide), ?_, fun k hk hk' => ?_, fun q hq => ?_⟩, fun k hk => .inl hk, hb, fun k hk => .inl hk, fun q hq => ?_⟩
  · exact (t.mono (G := fun k => k = c ∨ v.F k) (fun k hk => .inl (.inr (.inr (.inl hk))))).setCell (p := ⟨c, o + 2, none⟩) (.inl (.inl rfl)) _
  · rw [cell_set_other (by omega)]
    exact World.cell?_of_block (a := ⟨c, j, none⟩) (t.block c h.typ.lt (hd c (.inl rfl)))
  · rw [cell_set_other (by omega)]; exact t.cell h.c0 (hd c (.inl rfl))
  · rw [cell_set_other (by omega)]; exact t.cell h.c1 (hd c (.inl rfl))
  · exact World.cell?_setCell_same' _ _ _ (by rw [t.cell h.c2 (hd c (.inl rfl))]; rfl)
  · rw [cell_set_other (by omega)]; exact t.cell h.c3 (hd c (.inl rfl))
  · exact (h.rowA.kept t (fun k hk => hd k (.inr (.inl hk)))).setC ty (by decide)
  · exact (h.rowW.kept t (fun k hk => hd k (.inr (.inr (.inl hk))))).setC ty (by decide)
  · rcases hb k hk' with h1 | h1
    · exact h.ao k hk h1
    · have := hl k (.inr (.inl (.inl hk))); omega
  · rcases hq with hq | hq
    · exact (hokw q (.inl hq)).setC ty
    · rcases hok q hq with h1 | h1
      · exact (hokw q h1).setC ty
      · exact h1.1.setC ty
  · rcases hq with hq | hq
    · exact .inl (.inl hq)
    · rcases hok q hq with h1 | h1
      · exact .inl h1
      · exact .inr h1.2
/-- The waiters' slice is another one. -/
theorem SAt.putW (h : SAt w c o s v) (t : Turn (Blk v.w) w w1) {vw : Value} {ws : List Wt} (hrow : WRow w1 126 2 vw ws.length (wcells ws)) (hb : ∀ k, Blk vw k → Blk v.w k ∨ w.heap.size ≤ k) :
    SStep w (w1.setCell ⟨c, o + 3, none⟩ vw) c o s v { s with ws := ws } { v with w := vw } := by
  have hd := h.apartW
  have ty := h.typ.kept t (hd c (.inl rfl))
  have hokw : ∀ q, q ∈ s.an ∨ q ∈ s.ot → q.Ok w1 := fun q hq => (h.ok q hq).kept t (fun k hk => hd k (.inr (.inr (.inr ⟨q, hq, hk⟩))))
  refine ⟨?_, fun j hj => ?_, ⟨ty.set _ _ _, ?_, ?_, ?_, ?_, ?_, ?_, hrow.setC ty (by decide), h.ao, fun q hq => (hokw q hq).setC ty⟩, fun k hk => .inl hk, fun k hk => .inl hk, hb, fun q hq => .inl hq⟩
  · exact (t.mono (G := fun k => k = c ∨ v.F k) (fun k hk => .inl (.inr (.inr (.inr hk))))).setCell (p := ⟨c, o + 3, none⟩) (.inl (.inl rfl)) _
  · rw [cell_set_other (by omega)]
    exact World.cell?_of_block (a := ⟨c, j, none⟩) (t.block c h.typ.lt (hd c (.inl rfl)))
  · rw [cell_set_other (by omega)]; exact t.cell h.c0 (hd c (.inl rfl))
  · rw [cell_set_other (by omega)]; exact t.cell h.c1 (hd c (.inl rfl))
  · rw [cell_set_other (by omega)]; exact t.cell h.c2 (hd c (.inl rfl))
  · exact World.cell?_setCell_same' _ _ _ (by rw [t.cell h.c3 (hd c (.inl rfl))]; rfl)
  · exact (h.rowA.kept t (fun k hk => hd k (.inr (.inl hk)))).setC ty (by decide)
  · exact (h.rowO.kept t (fun k hk => hd k (.inr (.inr (.inl hk))))).setC ty (by decide)
end

def updN {A : Type} (f : Nat → A) (e : Nat) (x : A) : Nat → A := fun i => if i = e then x else f i
theorem updN_same {A : Type} (f : Nat → A) (e : Nat) (x : A) : updN f e x e = x := by simp [updN]
theorem updN_other {A : Type} (f : Nat → A) {e i : Nat} (x : A) (h : i ≠ e) : updN f e x i = f i := by simp [updN, h]
theorem plane_upd (S : Nat → Sd) (e : Nat) (s : Sd) : planeOf (updN S e s) = updN (planeOf S) e s.ms := by
  funext i
  unfold planeOf updN
  split <;> rfl

section
variable {w w' : World} {c depth N M : Nat} {S : Nat → Sd} {V : Nat → SV}
/-- What stands at another end. -/
theorem CMem.apart_ends (h : CMem w c depth N S V) {e i : Nat} (he : e < 2) (hi : i < 2) (hne : i ≠ e) : ∀ k, SFt (S i) (V i) k → ¬ (k = c ∨ (V e).F k) := fun k hk hk' => by
  have hse := h.s e he
  have hsi := h.s i hi
  rcases hk' with rfl | hk'
  · rcases hk with (h1 | h1 | h1) | ⟨q, hq, h1 | h1⟩
    · exact blk_typed hsi.rowA hsi.typ (by decide) h1
    · exact blk_typed hsi.rowO hsi.typ (by decide) h1
    · exact blk_typed hsi.rowW hsi.typ (by decide) h1
    · exact blk_typed (hsi.ok q hq).d hsi.typ (by decide) h1
    · exact blk_typed (hsi.ok q hq).h hsi.typ (by decide) h1
  · have dm : ∀ k, (Blk (V i).a k ∨ Blk (V i).o k) → ¬ (Blk (V e).a k ∨ Blk (V e).o k) := by
      have h2 : (i = 0 ∧ e = 1) ∨ (i = 1 ∧ e = 0) := by omega
      rcases h2 with ⟨rfl, rfl⟩ | ⟨rfl, rfl⟩
      · exact h.dm
      · exact fun k h1 h2 => h.dm k h2 h1
    have dw : ∀ k, Blk (V i).w k → ¬ Blk (V e).w k := by
      have h2 : (i = 0 ∧ e = 1) ∨ (i = 1 ∧ e = 0) := by omega
      rcases h2 with ⟨rfl, rfl⟩ | ⟨rfl, rfl⟩
      · exact h.dw
      · exact fun k h1 h2 => h.dw k h2 h1
    rcases hk with (h1 | h1 | h1) | ⟨q, hq, h1 | h1⟩
    · rcases hk' with h2 | h2 | h2
      · exact dm k (.inl h1) (.inl h2)
      · exact dm k (.inl h1) (.inr h2)
      · exact blks_typed hsi.rowA hse.rowW (by decide) k h1 h2
    · rcases hk' with h2 | h2 | h2
      · exact dm k (.inr h1) (.inl h2)
      · exact dm k (.inr h1) (.inr h2)
      · exact blks_typed hsi.rowO hse.rowW (by decide) k h1 h2
    · rcases hk' with h2 | h2 | h2
      · exact blks_typed hsi.rowW hse.rowA (by decide) k h1 h2
      · exact blks_typed hsi.rowW hse.rowO (by decide) k h1 h2
      · exact dw k h1 h2
    · rcases hk' with h2 | h2 | h2
      · exact blks_typed (hsi.ok q hq).d hse.rowA (by decide) k h1 h2
      · exact blks_typed (hsi.ok q hq).d hse.rowO (by decide) k h1 h2
      · exact blks_typed (hsi.ok q hq).d hse.rowW (by decide) k h1 h2
    · rcases hk' with h2 | h2 | h2
      · exact blks_typed (hsi.ok q hq).h hse.rowA (by decide) k h1 h2
      · exact blks_typed (hsi.ok q hq).h hse.rowO (by decide) k h1 h2
      · exact blks_typed (hsi.ok q hq).h hse.rowW (by decide) k h1 h2

/-- One end's change makes a channel again. -/
theorem CMem.step (h : CMem w c depth N S V) {e : Nat} (he : e < 2) {s' : Sd} {v' : SV} (t : SStep w w' c (plc e) (S e) (V e) s' v') (hNM : N ≤ M) (hlen : s'.an.length ≤ M ∧ s'.ot.length ≤ M ∧ s'.ws.length ≤ M) (hcl : s'.op = false → s' = Sd.cl)
    (hap : (allQ (updN S e s')).Pairwise Apart) : CMem w' c depth M (updN S e s') (updN V e v') ∧ Turn (CFoot c S V) w w' ∧ (∀ k, CFoot c (updN S e s') (updN V e v') k → CFoot c S V k ∨ w.heap.size ≤ k) := by
  have hex : e = 0 ∨ e = 1 := by omega
  have hother : ∀ i, i < 2 → i ≠ e → SAt w' c (plc i) (S i) (V i) := fun i hi hne => by
    have hsi := h.s i hi
    have hd := h.apart_ends he hi hne
    have hcell : ∀ j, j < 4 → w'.cell? ⟨c, plc i + j, none⟩ = w.cell? ⟨c, plc i + j, none⟩ := fun j hj => t.cells _ (by unfold plc; omega)
    refine ⟨?_, ?_, ?_, ?_, ?_, ?_, ?_, ?_, hsi.ao, fun q hq => (hsi.ok q hq).kept t.turn (fun k hk => hd k (.inr ⟨q, hq, hk⟩))⟩
    · exact t.at'.typ
    · exact (hcell 0 (by omega)).trans hsi.c0
    · exact (hcell 1 (by omega)).trans hsi.c1
    · exact (hcell 2 (by omega)).trans hsi.c2
    · exact (hcell 3 (by omega)).trans hsi.c3
    · exact hsi.rowA.kept t.turn (fun k hk => hd k (.inl (.inl hk)))
    · exact hsi.rowO.kept t.turn (fun k hk => hd k (.inl (.inr (.inl hk))))
    · exact hsi.rowW.kept t.turn (fun k hk => hd k (.inl (.inr (.inr hk))))
  have hsize : ∀ i, i < 2 → ∀ k, (V i).F k → k < w.heap.size := fun i hi k hk => (h.s i hi).lt (.inr (.inl hk))
  refine ⟨⟨(t.cells 0 (by unfold plc; omega)).trans h.c0, fun i hi => ?_, fun k hk hk' => ?_, fun k hk hk' => ?_, hap, h.d1, h.d2, fun i hi => ?_, fun i hi hop => ?_⟩, t.turn.mono (fun k hk => .inl ?_), fun k hk => ?_⟩
  · by_cases hie : i = e
    · subst hie; rw [updN_same, updN_same]; exact t.at'
    · rw [updN_other _ _ hie, updN_other _ _ hie]; exact hother i hi hie
  · rcases hex with rfl | rfl
    · rw [updN_same] at hk
      rw [updN_other _ _ (by omega)] at hk'
      have hlt : k < w.heap.size := hsize 1 (by omega) k (by rcases hk' with h1 | h1; exact .inl h1; exact .inr (.inl h1))
      rcases hk with h1 | h1
      · rcases t.ba k h1 with h2 | h2
        · exact h.dm k (.inl h2) hk'
        · omega
      · rcases t.bo k h1 with h2 | h2
        · exact h.dm k (.inr h2) hk'
        · omega
    · rw [updN_same] at hk'
      rw [updN_other _ _ (by omega)] at hk
      have hlt : k < w.heap.size := hsize 0 (by omega) k (by rcases hk with h1 | h1; exact .inl h1; exact .inr (.inl h1))
      rcases hk' with h1 | h1
      · rcases t.ba k h1 with h2 | h2
        · exact h.dm k hk (.inl h2)
        · omega
      · rcases t.bo k h1 with h2 | h2
        · exact h.dm k hk (.inr h2)
        · omega
  · rcases hex with rfl | rfl
    · rw [updN_same] at hk
      rw [updN_other _ _ (by omega)] at hk'
      have hlt : k < w.heap.size := hsize 1 (by omega) k (.inr (.inr hk'))
      rcases t.bw k hk with h2 | h2
      · exact h.dw k h2 hk'
      · omega
    · rw [updN_same] at hk'
      rw [updN_other _ _ (by omega)] at hk
      have hlt : k < w.heap.size := hsize 0 (by omega) k (.inr (.inr hk))
      rcases t.bw k hk' with h2 | h2
      · exact h.dw k hk h2
      · omega
  · by_cases hie : i = e
    · subst hie; rw [updN_same]; exact hlen
    · rw [updN_other _ _ hie]; have := h.len i hi; omega
  · by_cases hie : i = e
    · subst hie; rw [updN_same] at hop ⊢; exact hcl hop
    · rw [updN_other _ _ hie] at hop ⊢; exact h.cl i hi hop
  · rcases hk with h1 | h1
    · exact .inl h1
    · exact .inr ⟨e, he, .inl h1⟩
  · rcases hk with h1 | ⟨i, hi, h1⟩
    · exact .inl (.inl h1)
    · by_cases hie : i = e
      · subst hie
        rw [updN_same, updN_same] at h1
        rcases h1 with (h1 | h1 | h1) | ⟨q, hq, h1⟩
        · exact (t.ba k h1).imp (fun h2 => .inr ⟨i, hi, .inl (.inl h2)⟩) id
        · exact (t.bo k h1).imp (fun h2 => .inr ⟨i, hi, .inl (.inr (.inl h2))⟩) id
        · exact (t.bw k h1).imp (fun h2 => .inr ⟨i, hi, .inl (.inr (.inr h2))⟩) id
        · rcases t.qs q hq with h2 | h2
          · exact .inl (.inr ⟨i, hi, .inr ⟨q, h2, h1⟩⟩)
          · exact .inr (h2 k h1)
      · rw [updN_other _ _ hie, updN_other _ _ hie] at h1
        exact .inl (.inr ⟨i, hi, h1⟩)
end
end Go.Proofs.Ytcbphfpfdfgehaa
