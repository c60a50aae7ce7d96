/-
  A table and the reference's, apart from each other and from what a call holds. No walk, no conditions.
-/
import Derived.Test.YtacdhlhkpdlekaaHClear
import Derived.Test.YtacdhlhkpdlekaaHRef6
import Derived.Test.YtacdhlhkpdlekaaHRef7
import Derived.Test.YtacdhlhkpdlekaaHAwake
import Derived.Test.YtacdhlhkpdlekaaHInv
namespace Go.Proofs.Ytacdhlhkpdlekaa
open Go.RowKit

structure PInv (w wr : World) (a : Nat) (F : Nat → Prop) (x : Nat) (G F' G' : Nat → Prop) (L1 L2 : List Pl) (B : Nat → Prop) : Prop where
  tab : TableAt wr a F' L1
  ref : RefAt wr x G' L2
  ap : ∀ j, F' j → ¬ G' j
  turn : Turn (fun j => F j ∨ G j) w wr
  lf : ∀ j, F' j → F j ∨ w.heap.size ≤ j
  lg : ∀ j, G' j → G j ∨ w.heap.size ≤ j
  hold : ∀ j, B j → j < wr.heap.size ∧ ¬ F' j ∧ ¬ G' j
section
variable {w wr w2 : World} {a x : Nat} {F G F' G' F2 G2 B B2 : Nat → Prop} {L1 L2 L3 : List Pl}
theorem PInv.past (h : PInv w wr a F x G F' G' L1 L2 B) (t : Turn NoBlock wr w2) : PInv w w2 a F x G F' G' L1 L2 B :=
  ⟨h.tab.past t, h.ref.past t, h.ap, h.turn.trans t (fun _ h => h.elim), h.lf, h.lg, fun j hj => ⟨Nat.lt_of_lt_of_le (h.hold j hj).1 t.size, (h.hold j hj).2⟩⟩
theorem PInv.step1 (h : PInv w wr a F x G F' G' L1 L2 B) (h2 : TableAt w2 a F2 L3) (t : Turn F' wr w2) (l : ∀ j, F2 j → F' j ∨ wr.heap.size ≤ j) : PInv w w2 a F x G F2 G' L3 L2 B := by
  have hs := h.turn.size
  refine ⟨h2, (ref_own x G' L2).kept _ _ _ h.ref t (fun j hj hf => h.ap j hf hj), fun j hj hg => ?_, h.turn.trans t (fun j hj => (h.lf j hj).imp .inl id), fun j hj => ?_, h.lg, fun j hj => ?_⟩
  · rcases l j hj with h3 | h3
    · exact h.ap j h3 hg
    · have := h.ref.lt hg; omega
  · rcases l j hj with h3 | h3
    · exact h.lf j h3
    · right; omega
  · obtain ⟨h4, h5, h6⟩ := h.hold j hj
    refine ⟨Nat.lt_of_lt_of_le h4 t.size, fun hf => ?_, h6⟩
    rcases l j hf with h3 | h3
    · exact h5 h3
    · omega
theorem PInv.step2 (h : PInv w wr a F x G F' G' L1 L2 B) (h2 : RefAt w2 x G2 L3) (t : Turn G' wr w2) (l : ∀ j, G2 j → G' j ∨ wr.heap.size ≤ j) : PInv w w2 a F x G F' G2 L1 L3 B := by
  have hs := h.turn.size
  refine ⟨(table_own a F' L1).kept _ _ _ h.tab t (fun j hj hg => h.ap j hj hg), h2, fun j hj hg => ?_, h.turn.trans t (fun j hj => (h.lg j hj).imp .inr id), h.lf, fun j hj => ?_, fun j hj => ?_⟩
  · rcases l j hg with h3 | h3
    · exact h.ap j hj h3
    · have := h.tab.lt hj; omega
  · rcases l j hj with h3 | h3
    · exact h.lg j h3
    · right; omega
  · obtain ⟨h4, h5, h6⟩ := h.hold j hj
    refine ⟨Nat.lt_of_lt_of_le h4 t.size, h5, fun hg => ?_⟩
    rcases l j hg with h3 | h3
    · exact h6 h3
    · omega
/-- More is held: what was made just now. -/
theorem PInv.holds (h : PInv w wr a F x G F' G' L1 L2 B) (h2 : ∀ j, B2 j → B j ∨ (j < wr.heap.size ∧ ¬ F' j ∧ ¬ G' j)) : PInv w wr a F x G F' G' L1 L2 B2 :=
  ⟨h.tab, h.ref, h.ap, h.turn, h.lf, h.lg, fun j hj => (h2 j hj).elim (h.hold j) id⟩
theorem PInv.old (h : PInv w wr a F x G F' G' L1 L2 B) {j : Nat} (hj : wr.heap.size ≤ j) : ¬ F' j ∧ ¬ G' j :=
  ⟨fun hf => by have := h.tab.lt hf; omega, fun hg => by have := h.ref.lt hg; omega⟩
end

/-- The value that is meant. -/
def pickV (xs : List Int) (v nth : Int) : Int := if 0 ≤ nth ∧ nth < xs.length then xs.getD nth.toNat 0 else v
def pickN (xs : List Int) (n : Int) : Int := if 0 ≤ n ∧ n < 100 ∧ n < xs.length then xs.getD n.toNat 0 else n
theorem pickV_fit {xs : List Int} {v nth : Int} (h : ∀ x ∈ xs, fit x) (hv : fit v) : fit (pickV xs v nth) := by
  unfold pickV
  split
  · rename_i hn
    have hlt : nth.toNat < xs.length := by omega
    simp only [List.getD, List.getElem?_eq_getElem hlt, Option.getD_some]
    exact h _ (List.getElem_mem hlt)
  · exact hv
theorem pickN_fit {xs : List Int} {n : Int} (h : ∀ x ∈ xs, fit x) (hv : fit n) : fit (pickN xs n) := by
  unfold pickN
  split
  · rename_i hn
    have hlt : n.toNat < xs.length := by omega
    simp only [List.getD, List.getElem?_eq_getElem hlt, Option.getD_some]
    exact h _ (List.getElem_mem hlt)
  · exact hv
theorem vals_fit {w : World} {a : Nat} {F : Nat → Prop} {L : List Pl} (h : TableAt w a F L) : ∀ x ∈ (takenL L).map (·.value), fit x := by
  intro x hx
  rw [List.mem_map] at hx
  obtain ⟨p, hp, rfl⟩ := hx
  obtain ⟨k, -, -, -, -, -, h6, -⟩ := told_found h hp
  exact h6

/-- What rights there are fits. -/
theorem FitR.set {L : List Pl} (h : FitR L) (k : Nat) (p : Pl) (hp : fit p.e.r) : FitR (L.set k p) := fun q hq => by
  rcases List.mem_or_eq_of_mem_set hq with h1 | h1
  · exact h q h1
  · rw [h1]; exact hp
theorem FitR.add {L : List Pl} (h : FitR L) (e : Ent) (d : Int) (he : fit e.r) : FitR (addL L e d) := by
  unfold addL
  split
  · exact h.set _ _ he
  · exact h
theorem FitR.close {L : List Pl} (h : FitR L) (v : Int) : FitR (closeL L v) := by
  unfold closeL
  split
  · exact h.set _ _ (by simp [Pl.none, Ent.zero, fit])
  · exact h
theorem FitR.many {L : List Pl} (h : FitR L) (zs : List Int) : FitR (manyL L zs) := by
  induction zs generalizing L with
  | nil => exact h
  | cons z zs ih =>
    simp only [manyL]
    split
    · exact ih h
    · exact ih (h.close z)
theorem FitR.dup {L : List Pl} (h : FitR L) (v want d : Int) (hw : fit want) : FitR (dupL L v want d) := by
  unfold dupL
  split
  · exact h
  · exact h.add _ _ (red_fit (h.getE v) hw)
theorem FitR.rep {L : List Pl} (h : FitR L) (v want d : Int) (hw : fit want) : FitR (repL L v want d) := by
  unfold repL
  split
  · exact (h.close v).add _ _ (red_fit (h.getE v) hw)
  · exact h.close v
theorem FitR.clear {L : List Pl} : FitR (clearL L) := fun p hp => by
  unfold clearL at hp
  rw [List.mem_replicate] at hp
  rw [hp.2]; simp [Pl.none, Ent.zero, fit]
theorem many_len2 (L : List Pl) (zs : List Int) : (manyL L zs).length = L.length := by
  induction zs generalizing L with
  | nil => rfl
  | cons z zs ih =>
    simp only [manyL]
    split
    · exact ih L
    · rw [ih, closeL_len]
theorem dup_len (L : List Pl) (v want d : Int) : (dupL L v want d).length = L.length := by
  unfold dupL
  split
  · rfl
  · exact addL_len _ _ _
theorem rep_len (L : List Pl) (v want d : Int) : (repL L v want d).length = L.length := by
  unfold repL
  split
  · rw [addL_len, closeL_len]
  · exact closeL_len _ _
theorem clear_len (L : List Pl) : (clearL L).length = L.length := by simp [clearL]
/-- What a step leaves. -/
def Stepped (w : World) (a : Nat) (F : Nat → Prop) (x : Nat) (G : Nat → Prop) (L : List Pl) (w' : World) : Prop :=
  ∃ F' G' L', FitR L' ∧ L'.length = L.length ∧ PInv w w' a F x G F' G' L' L' NoBlock
end Go.Proofs.Ytacdhlhkpdlekaa
