/-
  What RegionApart's script is: a slice of nine numbers each. No conditions.
-/
import Derived.Test.YtdddmjdlikjedaaGView
import Derived.Test.YtdddmjdlikjedaaGTab
namespace Go.Proofs.Ytdddmjdlikjedaa
open Go.ChangeShapes Go.WideShapes Go.ChangeAt Go.RowKit

structure Or9 where
  kind : Int
  at' : Int
  n : Int
  prot : Int
  p : Pc
def Or9.cells (o : Or9) : List Value := [.int .i64 o.kind, .int .i64 o.at', .int .i64 o.n, .int .i64 o.prot, .int .i64 o.p.at', .int .i64 o.p.len, .int .i64 o.p.vmo, .int .i64 o.p.from', .int .i64 o.p.prot]
def Or9.Fit (o : Or9) : Prop := fit o.kind ∧ fit o.at' ∧ fit o.n ∧ fit o.prot ∧ PcFit o.p
def OrsAt (W : World) (p : Option Addr) (len : Nat) (os : Nat → Or9) : Prop := 0 < len → ∃ b off, p = some ⟨b, off, none⟩ ∧ ∀ j, j < len → ∀ i, i < 9 → W.cell? ⟨b, off + j * 9 + i, none⟩ = (os j).cells[i]?
def OrsOK (len : Nat) (os : Nat → Or9) : Prop := ∀ j, j < len → (os j).Fit
theorem OrsAt.past {W w : World} {p : Option Addr} {len : Nat} {os : Nat → Or9} (h : OrsAt W p len os) (t : Turn NoBlock W w) : OrsAt w p len os := fun h0 => by
  obtain ⟨b, off, hp, hc⟩ := h h0
  refine ⟨b, off, hp, fun j hj i hi => ?_⟩
  have h1 := hc j hj i hi
  obtain ⟨u, hu⟩ : ∃ u, (os j).cells[i]? = some u := ⟨_, List.getElem?_eq_getElem (by simpa [Or9.cells] using hi)⟩
  rw [hu] at h1 ⊢
  exact cell_past t h1

theorem ops9_s : Try.prog.underlying 56 = some (.slice 63) := by kernel_rfl
theorem cellsOr : Try.prog.cellsOf 63 = 9 := by kernel_rfl
theorem fieldsOr : fieldsOf (Try.prog.underlying 63) = [(3, 0), (3, 1), (3, 2), (3, 3), (61, 4)] := by kernel_rfl
section
variable {H : Type} {enc : TypeId × Value → H} {W : World}
set_option maxRecDepth 100000 in
theorem or_read {fuel : Nat} {cs : List Value} {x : DataW H × List MemPlace} (h : DataW.trod enc Try.prog W 0 (fun _ => true) true fuel 63 cs = some x) :
    ∃ o : Or9, cs = o.cells ∧ o.Fit := by
  obtain ⟨hl, n, hp⟩ := parts_read fieldsOr (by simp) h
  rw [cellsOr] at hl
  match cs, hl with
  | [c0, c1, c2, c3, c4, c5, c6, c7, c8], _ =>
    obtain ⟨y0, h0⟩ := hp 0 3 0 rfl
    obtain ⟨y1, h1⟩ := hp 1 3 1 rfl
    obtain ⟨y2, h2⟩ := hp 2 3 2 rfl
    obtain ⟨y3, h3⟩ := hp 3 3 3 rfl
    obtain ⟨y4, h4⟩ := hp 4 61 4 rfl
    rw [cells3] at h0 h1 h2 h3
    rw [cellsPc] at h4
    obtain ⟨z0, rfl, f0⟩ := int_read int3 h0
    obtain ⟨z1, rfl, f1⟩ := int_read int3 h1
    obtain ⟨z2, rfl, f2⟩ := int_read int3 h2
    obtain ⟨z3, rfl, f3⟩ := int_read int3 h3
    obtain ⟨o, ho, fo⟩ := pc_read h4
    have e : [c4, c5, c6, c7, c8] = o.cells := ho
    simp only [Pc.cells, List.cons.injEq, and_true] at e
    obtain ⟨rfl, rfl, rfl, rfl, rfl⟩ := e
    exact ⟨⟨z0, z1, z2, z3, o⟩, rfl, f0, f1, f2, f3, fo⟩
theorem ors_view {p : Option Addr} {len cap : Nat} {d : DataW H} {ps : List MemPlace} (h : DataW.Trod enc Try.prog W 0 (fun _ => true) true 56 (.slice p len cap) d ps) :
    ∃ os : Nat → Or9, OrsAt W p len os ∧ OrsOK len os := by
  obtain ⟨fuel, hf⟩ := h
  rcases DataW.trod_slice ops9_s hf with ⟨hcs, hx⟩ | ⟨a, len', cap', elems, rest, n, _, hcs, hx, hb, hlc, hm, hlen, hel, _⟩
  · simp [Value.cells] at hcs
    obtain ⟨rfl, rfl, rfl⟩ := hcs
    exact ⟨fun _ => ⟨0, 0, 0, 0, Pc.zero⟩, fun h => by omega, fun j hj => by omega⟩
  · simp [Value.cells] at hcs
    obtain ⟨rfl, rfl, rfl⟩ := hcs
    have each : ∀ j, j < len → ∃ o : Or9, W.cells? 0 (a.add (j * 9)) 9 = some o.cells ∧ o.Fit := by
      intro j hj
      have h1 := hel j hj
      rw [cellsOr] at h1
      have h2 : elems[j]? = some (elems[j]'(by omega)) := List.getElem?_eq_getElem (by omega)
      rw [h2] at h1
      cases hc : W.cells? 0 (a.add (j * 9)) 9 with
      | none => rw [hc] at h1; simp at h1
      | some cs =>
        rw [hc] at h1
        simp only [Option.bind_some] at h1
        obtain ⟨o, rfl, w⟩ := or_read h1
        exact ⟨o, rfl, w⟩
    have key : ∀ j, ∃ o : Or9, j < len → W.cells? 0 (a.add (j * 9)) 9 = some o.cells ∧ o.Fit := by
      intro j
      by_cases hj : j < len
      · obtain ⟨o, ho⟩ := each j hj
        exact ⟨o, fun _ => ho⟩
      · exact ⟨⟨0, 0, 0, 0, Pc.zero⟩, fun h => absurd h hj⟩
    obtain ⟨os, hos⟩ : ∃ os : Nat → Or9, ∀ j, j < len → W.cells? 0 (a.add (j * 9)) 9 = some (os j).cells ∧ (os j).Fit :=
      ⟨fun j => Classical.choose (key j), fun j => Classical.choose_spec (key j)⟩
    refine ⟨os, fun h0 => ?_, fun j hj => (hos j hj).2⟩
    have cell : ∀ j, j < len → ∀ i, i < 9 → W.cell? ((a.add (j * 9)).add i) = (os j).cells[i]? := by
      intro j hj i hi
      exact (World.cells?_some (hos j hj).1).2.2 i hi
    obtain ⟨b, off, spot⟩ := a
    have hspot : spot = none := by
      have h1 := cell 0 h0 0 (by omega)
      simp only [Or9.cells, List.getElem?_cons_zero] at h1
      have h2 := World.cell?_spot h1
      simpa [Addr.add] using h2
    subst hspot
    refine ⟨b, off, rfl, fun j hj i hi => ?_⟩
    have c := cell j hj i hi
    simp only [add_plain] at c
    exact c
end
end Go.Proofs.Ytdddmjdlikjedaa
