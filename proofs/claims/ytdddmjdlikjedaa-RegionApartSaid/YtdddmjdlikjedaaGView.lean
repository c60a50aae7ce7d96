/-
  What a law's list of pieces is: a slice of five numbers each. No conditions.
-/
import Derived.Test.YtdddmjdlikjedaaGViewB
namespace Go.Proofs.Ytdddmjdlikjedaa
open Go.ChangeShapes Go.WideShapes Go.ChangeAt Go.RowKit

theorem cellsPc : Try.prog.cellsOf 61 = 5 := by kernel_rfl
theorem fieldsPc : fieldsOf (Try.prog.underlying 61) = [(3, 0), (3, 1), (3, 2), (3, 3), (3, 4)] := by kernel_rfl
section
variable {H : Type} {enc : TypeId × Value → H} {W : World}
def PcFit (p : Pc) : Prop := fit p.at' ∧ fit p.len ∧ fit p.vmo ∧ fit p.from' ∧ fit p.prot
set_option maxRecDepth 100000 in
theorem pc_read {fuel : Nat} {cs : List Value} {x : DataW H × List MemPlace} (h : DataW.trod enc Try.prog W 0 (fun _ => true) true fuel 61 cs = some x) :
    ∃ o : Pc, cs = o.cells ∧ PcFit o := by
  obtain ⟨hl, n, hp⟩ := parts_read fieldsPc (by simp) h
  rw [cellsPc] at hl
  match cs, hl with
  | [c0, c1, c2, c3, c4], _ =>
    obtain ⟨y0, h0⟩ := hp 0 3 0 rfl
    obtain ⟨y1, h1⟩ := hp 1 3 1 rfl
    obtain ⟨y2, h2⟩ := hp 2 3 2 rfl
    obtain ⟨y3, h3⟩ := hp 3 3 3 rfl
    obtain ⟨y4, h4⟩ := hp 4 3 4 rfl
    rw [cells3] at h0 h1 h2 h3 h4
    obtain ⟨z0, rfl, f0⟩ := int_read int3 h0
    obtain ⟨z1, rfl, f1⟩ := int_read int3 h1
    obtain ⟨z2, rfl, f2⟩ := int_read int3 h2
    obtain ⟨z3, rfl, f3⟩ := int_read int3 h3
    obtain ⟨z4, rfl, f4⟩ := int_read int3 h4
    exact ⟨⟨z0, z1, z2, z3, z4⟩, rfl, f0, f1, f2, f3, f4⟩
theorem pieces_view {p : Option Addr} {len cap : Nat} {d : DataW H} {ps : List MemPlace} (h : DataW.Trod enc Try.prog W 0 (fun _ => true) true 65 (.slice p len cap) d ps) :
    ∃ os : Nat → Pc, PcsAt W p len os ∧ PcsOK len os := by
  obtain ⟨fuel, hf⟩ := h
  rcases DataW.trod_slice pieces_s hf with ⟨hcs, hx⟩ | ⟨a, len', cap', elems, rest, n, _, hcs, hx, hb, hlc, hm, hlen, hel, _⟩
  · simp [Value.cells] at hcs
    obtain ⟨rfl, rfl, rfl⟩ := hcs
    exact ⟨fun _ => Pc.zero, fun h => by omega, fun j hj => by omega⟩
  · simp [Value.cells] at hcs
    obtain ⟨rfl, rfl, rfl⟩ := hcs
    have each : ∀ j, j < len → ∃ o : Pc, W.cells? 0 (a.add (j * 5)) 5 = some o.cells ∧ PcFit o := by
      intro j hj
      have h1 := hel j hj
      rw [cellsPc] at h1
      have h2 : elems[j]? = some (elems[j]'(by omega)) := List.getElem?_eq_getElem (by omega)
      rw [h2] at h1
      cases hc : W.cells? 0 (a.add (j * 5)) 5 with
      | none => rw [hc] at h1; simp at h1
      | some cs =>
        rw [hc] at h1
        simp only [Option.bind_some] at h1
        obtain ⟨o, rfl, w⟩ := pc_read h1
        exact ⟨o, rfl, w⟩
    have key : ∀ j, ∃ o : Pc, j < len → W.cells? 0 (a.add (j * 5)) 5 = some o.cells ∧ PcFit o := by
      intro j
      by_cases hj : j < len
      · obtain ⟨o, ho⟩ := each j hj
        exact ⟨o, fun _ => ho⟩
      · exact ⟨Pc.zero, fun h => absurd h hj⟩
    obtain ⟨os, hos⟩ : ∃ os : Nat → Pc, ∀ j, j < len → W.cells? 0 (a.add (j * 5)) 5 = some (os j).cells ∧ PcFit (os j) :=
      ⟨fun j => Classical.choose (key j), fun j => Classical.choose_spec (key j)⟩
    refine ⟨os, fun h0 => ?_, fun j hj => (hos j hj).2⟩
    have cell : ∀ j, j < len → ∀ i, i < 5 → W.cell? ((a.add (j * 5)).add i) = (os j).cells[i]? := by
      intro j hj i hi
      exact (World.cells?_some (hos j hj).1).2.2 i hi
    obtain ⟨b, off, spot⟩ := a
    have hspot : spot = none := by
      have h1 := cell 0 h0 0 (by omega)
      simp only [Pc.cells, List.getElem?_cons_zero] at h1
      have h2 := World.cell?_spot h1
      simpa [Addr.add] using h2
    subst hspot
    refine ⟨b, off, rfl, fun j hj i hi => ?_⟩
    have c := cell j hj i hi
    simp only [add_plain] at c
    exact c
end
end Go.Proofs.Ytdddmjdlikjedaa
