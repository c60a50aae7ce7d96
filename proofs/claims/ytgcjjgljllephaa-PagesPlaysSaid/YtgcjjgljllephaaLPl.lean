/-
  What one round of PagesPlays' loop holds at its switch; pieces of its code by the slot that they test. No walk, no conditions.
-/
import Derived.Test.YtgcjjgljllephaaPPl
namespace Go.Proofs.Ytgcjjgljllephaa
open Go.RowKit

def isT (n : Nat) : Operand → Bool
  | .tmp t => t == n
  | _ => false
/-- A piece of a function's code: the test of a slot, with all that hangs on it. -/
def findC (n : Nat) : Code → Option Code
  | .cond t x y => if isT n t = true then some (.cond t x y) else match findC n x with
    | some z => some z
    | none => findC n y
  | .seq x y => match findC n x with
    | some z => some z
    | none => findC n y
  | .loop x => findC n x
  | .block _ x => findC n x
  | .scope x => findC n x
  | _ => none
noncomputable def condP (n : Nat) : Code := (Try.f3.body.bind (findC n)).getD .skip

structure BSt (w W : World) (a x n i ob : Nat) (F G : Nat → Prop) (L : List Pg) : Prop where
  d : DSt w W a x n i F G L
  lt : ob < W.heap.size
  nf : ¬ F ob
  ng : ¬ G ob
section
variable {w W w2 : World} {a x n i ob : Nat} {F G F2 G2 : Nat → Prop} {L L1 L2 L3 : List Pg}
theorem BSt.past (h : BSt w W a x n i ob F G L) (t : Turn NoBlock W w2) : BSt w w2 a x n i ob F G L := ⟨⟨h.d.st.past t, h.d.inv, h.d.len⟩, Nat.lt_of_lt_of_le h.lt t.size, h.nf, h.ng⟩
/-- Two steps, one of each. -/
structure MSt (w W : World) (a x ob : Nat) (F G : Nat → Prop) (L1 L2 : List Pg) : Prop where
  st : PSt w W a x F G L1 L2
  lt : ob < W.heap.size
  nf : ¬ F ob
  ng : ¬ G ob
theorem BSt.m (h : BSt w W a x n i ob F G L) : MSt w W a x ob F G L L := ⟨h.d.st, h.lt, h.nf, h.ng⟩
theorem MSt.past (h : MSt w W a x ob F G L1 L2) (t : Turn NoBlock W w2) : MSt w w2 a x ob F G L1 L2 := ⟨h.st.past t, Nat.lt_of_lt_of_le h.lt t.size, h.nf, h.ng⟩
theorem MSt.step1 (h : MSt w W a x ob F G L1 L2) (h2 : PoolAt w2 a F2 L3) (t : Turn F W w2) (l : ∀ j, F2 j → F j ∨ W.heap.size ≤ j) : MSt w w2 a x ob F2 G L3 L2 :=
  ⟨h.st.step1 h2 t l, Nat.lt_of_lt_of_le h.lt t.size, fun hf => (l _ hf).elim h.nf (fun h3 => by have := h.lt; omega), h.ng⟩
theorem MSt.step2 (h : MSt w W a x ob F G L1 L2) (h2 : RefAt w2 x G2 L3) (t : Turn G W w2) (l : ∀ j, G2 j → G j ∨ W.heap.size ≤ j) : MSt w w2 a x ob F G2 L1 L3 :=
  ⟨h.st.step2 h2 t l, Nat.lt_of_lt_of_le h.lt t.size, h.nf, fun hf => (l _ hf).elim h.ng (fun h3 => by have := h.lt; omega)⟩
theorem MSt.b (h : MSt w W a x ob F G L L) (hi : Inv i L) (hl : L.length = n) : BSt w W a x n i ob F G L := ⟨⟨h.st, hi, hl⟩, h.lt, h.nf, h.ng⟩
theorem MSt.aside (h : MSt w W a x ob F G L1 L2) {H : Nat → Prop} (t : Turn H W w2) (l : ∀ j, H j → w.heap.size ≤ j ∧ ¬ F j ∧ ¬ G j) : MSt w w2 a x ob F G L1 L2 := ⟨h.st.aside t l, Nat.lt_of_lt_of_le h.lt t.size, h.nf, h.ng⟩
end
theorem kept1 {F : Nat → Prop} {w w' : World} (t : Turn F w w') {ob i : Nat} {v : Value} (h : w.cell? ⟨ob, i, none⟩ = some v) (hn : ¬ F ob) : w'.cell? ⟨ob, i, none⟩ = some v := t.cell h hn
end Go.Proofs.Ytgcjjgljllephaa
