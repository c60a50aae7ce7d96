/-
  A region of TasksKill's code by its number. No walk, no conditions.
-/
import Derived.Test.YtabakjimlndhcaaLawKiR
import Derived.Deep.RegionHeld3
namespace Go.Proofs.Ytabakjimlndhcaa

/-- A region of a function's code, by its number. -/
def findR (n : Nat) : Code → Option Code
  | .region i ops dr => if (i == n) = true then some (.region i ops dr) else none
  | .cond _ x y => match findR n x with
    | some z => some z
    | none => findR n y
  | .seq x y => match findR n x with
    | some z => some z
    | none => findR n y
  | .loop x => findR n x
  | .block _ x => findR n x
  | .scope x => findR n x
  | _ => none
noncomputable def reg6 (n : Nat) : Code := (Try.f6.body.bind (findR n)).getD .skip
end Go.Proofs.Ytabakjimlndhcaa
