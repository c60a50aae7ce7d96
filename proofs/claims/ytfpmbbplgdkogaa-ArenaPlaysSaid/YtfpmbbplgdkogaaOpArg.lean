/-
  The calls that came in, as numbers: Kind, ID, N, V of each. No conditions.
-/
import Derived.Test.YtfpmbbplgdkogaaHeap
namespace Go.Proofs.Ytfpmbbplgdkogaa
open Go.RowKit

structure OpV where
  kind : Int
  id : Int
  n : Int
  v : Int

/-- Cell by cell. -/
def OpsAt (w : World) (p : Option Addr) (len : Nat) (os : Nat → OpV) : Prop :=
  0 < len → ∃ b off, p = some ⟨b, off, none⟩ ∧ ∀ j, j < len →
    w.cell? ⟨b, off + j * 4, none⟩ = some (.int .i64 (os j).kind) ∧ w.cell? ⟨b, off + j * 4 + 1, none⟩ = some (.int .i64 (os j).id) ∧
    w.cell? ⟨b, off + j * 4 + 2, none⟩ = some (.int .i64 (os j).n) ∧ w.cell? ⟨b, off + j * 4 + 3, none⟩ = some (.int .i64 (os j).v)

def OpsFit (len : Nat) (os : Nat → OpV) : Prop := ∀ j, j < len → (Lit.int .i64 (os j).kind).wf = true ∧ (Lit.int .i64 (os j).id).wf = true ∧ (Lit.int .i64 (os j).n).wf = true ∧ (Lit.int .i64 (os j).v).wf = true

end Go.Proofs.Ytfpmbbplgdkogaa
