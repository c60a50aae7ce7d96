/-
  RegionPlaces' walk.
-/
import Derived.Test.YtdddmjdlikjedaaGreatGRun
namespace Go.Proofs.YtdddmjdlikjedaaGreat
open Go.ChangeShapes Go.WideShapes Go.ChangeAt Go.RowKit

def PcsAt (W : World) (p : Option Addr) (len : Nat) (ps : Nat → Pc) : Prop := 0 < len → ∃ b off, p = some ⟨b, off, none⟩ ∧ ∀ j, j < len → ∀ i, i < 5 → W.cell? ⟨b, off + j * 5 + i, none⟩ = (ps j).cells[i]?
def PcsOK (len : Nat) (ps : Nat → Pc) : Prop := ∀ j, j < len → fit (ps j).at' ∧ fit (ps j).len ∧ fit (ps j).vmo ∧ fit (ps j).from' ∧ fit (ps j).prot
theorem cell_past {W w : World} (t : Turn NoBlock W w) {p : Addr} {u : Value} (h : W.cell? p = some u) : w.cell? p = some u := by
  have hb := World.block_lt_of_cell? W p h
  have e := t.block p.block hb (fun h => h)
  unfold World.cell? at *
  rw [e]
  exact h
theorem PcsAt.past {W w : World} {p : Option Addr} {len : Nat} {ps : Nat → Pc} (h : PcsAt W p len ps) (t : Turn NoBlock W w) : PcsAt w p len ps := fun h0 => by
  obtain ⟨b, off, hp, hc⟩ := h h0
  refine ⟨b, off, hp, fun j hj i hi => ?_⟩
  have h1 := hc j hj i hi
  obtain ⟨u, hu⟩ : ∃ u, (ps j).cells[i]? = some u := ⟨_, List.getElem?_eq_getElem (by rw [Pc.cells_len]; exact hi)⟩
  rw [hu] at h1 ⊢
  exact cell_past t h1

end Go.Proofs.YtdddmjdlikjedaaGreat
