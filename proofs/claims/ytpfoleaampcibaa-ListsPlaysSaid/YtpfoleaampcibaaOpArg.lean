/-
  The calls that came in, as numbers: Kind, Q, I of each. No conditions.
-/
import Derived.Test.YtpfoleaampcibaaHeap
namespace Go.Proofs.Ytpfoleaampcibaa
open Go.RowKit

structure OpV where
  kind : Int
  q : Int
  i : Int

/-- Cell by cell. -/
def OpsAt (w : World) (p : Option Addr) (len : Nat) (os : Nat → OpV) : Prop :=
  0 < len → ∃ b off, p = some ⟨b, off, none⟩ ∧ ∀ j, j < len →
    w.cell? ⟨b, off + j * 3, none⟩ = some (.int .i64 (os j).kind) ∧ w.cell? ⟨b, off + j * 3 + 1, none⟩ = some (.int .i64 (os j).q) ∧
    w.cell? ⟨b, off + j * 3 + 2, none⟩ = some (.int .i64 (os j).i)

def OpsFit (len : Nat) (os : Nat → OpV) : Prop := ∀ j, j < len → (Lit.int .i64 (os j).kind).wf = true ∧ (Lit.int .i64 (os j).q).wf = true ∧ (Lit.int .i64 (os j).i).wf = true

end Go.Proofs.Ytpfoleaampcibaa
