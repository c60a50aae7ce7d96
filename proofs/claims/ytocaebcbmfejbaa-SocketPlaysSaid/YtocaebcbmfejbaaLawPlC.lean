/-
  Pieces of SocketPlays' code by the slot that they test, by the region's number. No walk, no conditions.
-/
import Derived.Test.YtocaebcbmfejbaaLawPlS
namespace Go.Proofs.Ytocaebcbmfejbaa
open Go.RowKit

def isT (n : Nat) : Operand → Bool
  | .tmp t => t == n
  | _ => false
/-- A piece of a function's code: the test of a slot, with all that hangs on it. -/
def findC (n : Nat) : Code → Option Code
  | .cond t x y => if isT n t = true then some (.cond t x y) else match findC n x with
    | some z => some z
    | none => findC n y
  | .seq x y => match findC n x with
    | some z => some z
    | none => findC n y
  | .loop x => findC n x
  | .block _ x => findC n x
  | .scope x => findC n x
  | _ => none
noncomputable def condP (n : Nat) : Code := (Try.f4.body.bind (findC n)).getD .skip
/-- The first loop behind a test's own place (the n-th loop of the text). -/
def isL : Code → Bool
  | .loop _ => true
  | _ => false
end Go.Proofs.Ytocaebcbmfejbaa
