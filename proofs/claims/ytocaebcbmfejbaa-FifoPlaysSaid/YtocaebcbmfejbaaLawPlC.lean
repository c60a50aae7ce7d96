/-
  Pieces of FifoPlays' code by the slot that they test. No walk, no conditions.
-/
import Derived.Test.YtocaebcbmfejbaaFPl2
import Derived.Test.YtocaebcbmfejbaaFViewO
namespace Go.Proofs.Ytocaebcbmfejbaa
open Go.RowKit

def isT (n : Nat) : Operand → Bool
  | .tmp t => t == n
  | _ => false
/-- A piece of a function's code: the test of a slot, with all that hangs on it. -/
def findC (n : Nat) : Code → Option Code
  | .cond t x y => if isT n t = true then some (.cond t x y) else match findC n x with
    | some z => some z
    | none => findC n y
  | .seq x y => match findC n x with
    | some z => some z
    | none => findC n y
  | .loop x => findC n x
  | .block _ x => findC n x
  | .scope x => findC n x
  | _ => none
noncomputable def condP (n : Nat) : Code := (Try.f5.body.bind (findC n)).getD .skip
/-- The innermost block around the test of a slot. -/
def findB (n : Nat) : Code → Option Code
  | .block i x => match findB n x with
    | some z => some z
    | none => if (findC n x).isSome = true then some (.block i x) else none
  | .seq x y => match findB n x with
    | some z => some z
    | none => findB n y
  | .cond _ x y => match findB n x with
    | some z => some z
    | none => findB n y
  | .loop x => findB n x
  | .scope x => findB n x
  | _ => none
noncomputable def blockP (n : Nat) : Code := (Try.f5.body.bind (findB n)).getD .skip
theorem UB.le {w : World} {v : Value} {n : Nat} (h : UB w v n) : n ≤ maxLen := by
  obtain ⟨xs, h1, -⟩ := h
  rcases h1.form with ⟨-, h2⟩ | ⟨g, o, ca, -, h2, h3, -⟩
  · rw [h2]; exact Nat.zero_le _
  · exact Nat.le_trans h2 h3
end Go.Proofs.Ytocaebcbmfejbaa
