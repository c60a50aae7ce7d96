/-
  The ids of an arena as a plain list; what a loop's body keeps for the iterator. No walk, no conditions.
-/
import Derived.RangeFuncNested
import Derived.RangeFuncBox
import Derived.RangeFuncLeaves
import Derived.Shelf.Abstract
import Derived.WalkKit
import Derived.OwnWalkIn
import Derived.TacticsInMore
import Derived.LoopNIn
import Derived.LoopIn
import Derived.Test.YtfpmbbplgdkogaaSteps
namespace Go.Proofs.Ytfpmbbplgdkogaa
open Go.RowKit Go.Shelf

/-- The ids of the values in the first k slots. -/
def idsUpto (l : List Slot) (k : Nat) : List Int := ((l.take k).zipIdx.filter fun p => p.1.taken).map fun p => (p.1.gen : Int) * 65536 + (p.2 : Int)
def Mod.ids (m : Mod) : List Int := idsUpto m.slots m.slots.length

theorem idsUpto_zero (l : List Slot) : idsUpto l 0 = [] := rfl
theorem idsUpto_yes (l : List Slot) (k : Nat) (s : Slot) (h : l[k]? = some s) (ht : s.taken = true) : idsUpto l (k + 1) = idsUpto l k ++ [(s.gen : Int) * 65536 + (k : Int)] := by
  have hk : k < l.length := (List.getElem?_eq_some_iff.1 h).1
  have e : l.take (k + 1) = l.take k ++ [s] := by rw [List.take_add_one, h]; rfl
  unfold idsUpto
  rw [e, List.zipIdx_append]
  have hl : (l.take k).length = k := by rw [List.length_take]; omega
  simp [ht, hl]
theorem idsUpto_no (l : List Slot) (k : Nat) (s : Slot) (h : l[k]? = some s) (ht : s.taken = false) : idsUpto l (k + 1) = idsUpto l k := by
  have e : l.take (k + 1) = l.take k ++ [s] := by rw [List.take_add_one, h]; rfl
  unfold idsUpto
  rw [e, List.zipIdx_append]
  simp [ht]
theorem idsUpto_len (l : List Slot) (k : Nat) : (idsUpto l k).length ≤ k := by
  unfold idsUpto
  rw [List.length_map]
  refine Nat.le_trans (List.length_filter_le _ _) ?_
  rw [List.length_zipIdx, List.length_take]
  omega

theorem Holds.below {w w' : World} {te ts tn : TypeId} {a n₀ : Nat} {vs vf : Value} {m : Mod} (h : Holds w te ts tn a vs vf m) (hb : Below n₀ w w') (hlt : ∀ k, Foot a vs vf k → k < n₀) : Holds w' te ts tn a vs vf m :=
  h.kept (F := fun k => n₀ ≤ k) ⟨hb.os, hb.tape, hb.output, hb.size, fun k _ hn => hb.block k (by omega)⟩ (fun k hk hn => by have := hlt k hk; omega)

/-- What a round keeps: what lay before, and the box of the iterator. -/
def KpBox (n₀ Ba : Nat) (W W' : World) : Prop := Below n₀ W W' ∧ W'.cell? ⟨Ba, 0, none⟩ = W.cell? ⟨Ba, 0, none⟩
theorem KpBox.refl (n₀ Ba : Nat) (W : World) : KpBox n₀ Ba W W := ⟨Below.refl _ _, rfl⟩
theorem KpBox.trans {n₀ Ba : Nat} {A B C : World} (h : KpBox n₀ Ba A B) (k : KpBox n₀ Ba B C) : KpBox n₀ Ba A C := ⟨h.1.trans k.1, k.2.trans h.2⟩
theorem KpBox.put {n₀ Ba : Nat} {w : World} (hn : n₀ ≤ w.heap.size) (hBa : Ba < w.heap.size) (W : World) (l : Nat) (o o' : Obj) (hl : w.heap.size ≤ l) (h : W.heap[l]? = some o) (_ : o.isCells = false) (_ : o.isWalk = false) : KpBox n₀ Ba W (W.putObj l o') := by
  have h1 := grownBy_putObj' W l o'
  have h2 := (Array.getElem?_eq_some_iff.1 h).1
  refine ⟨(Below.refl n₀ W).grown h1 (by omega) (fun k e => by cases e; omega), ?_⟩
  exact World.cell?_of_block (h1.block Ba (by omega) (fun e => by cases e; omega))

end Go.Proofs.Ytfpmbbplgdkogaa
