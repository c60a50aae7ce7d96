/-
  What a law's script is: a slice of calls, each four numbers and bytes. No conditions.
-/
import Derived.Test.YtgcjjgljllephaaPView
namespace Go.Proofs.Ytgcjjgljllephaa
open Go.ChangeShapes Go.WideShapes Go.ChangeAt Go.RowKit

structure OpW where
  kind : Int
  f : Int
  at' : Int
  n : Int
  lp : Option Addr
  ll : Nat
  lc : Nat
  bs : List UInt8
def OpW.cells (o : OpW) : List Value := [.int .i64 o.kind, .int .i64 o.f, .int .i64 o.at', .int .i64 o.n, .slice o.lp o.ll o.lc]
def OpW.Fit (o : OpW) : Prop := fit o.kind ∧ fit o.f ∧ fit o.at' ∧ fit o.n
theorem cells33 : Try.prog.cellsOf 33 = 5 := by kernel_rfl
theorem slice22 : Try.prog.underlying 22 = some (.slice 33) := by kernel_rfl
theorem fields33 : fieldsOf (Try.prog.underlying 33) = [(3, 0), (3, 1), (3, 2), (3, 3), (31, 4)] := by kernel_rfl
def BytesOf (W : World) (o : OpW) : Prop := o.bs.length = o.ll ∧ o.ll ≤ maxLen ∧ Src W (.slice o.lp o.ll o.lc) o.bs
def OpsAt (W : World) (p : Option Addr) (len : Nat) (os : Nat → OpW) : Prop := 0 < len → ∃ b off, p = some ⟨b, off, none⟩ ∧ ∀ j, j < len → ∀ i, i < 5 → W.cell? ⟨b, off + j * 5 + i, none⟩ = (os j).cells[i]?
def OpsOK (W : World) (len : Nat) (os : Nat → OpW) : Prop := ∀ j, j < len → (os j).Fit ∧ BytesOf W (os j)
section
variable {H : Type} {enc : TypeId × Value → H} {W : World}
set_option maxRecDepth 100000 in
theorem op_read {fuel : Nat} {cs : List Value} {x : DataW H × List MemPlace} (h : DataW.trod enc Try.prog W 0 (fun _ => true) true fuel 33 cs = some x) :
    ∃ o : OpW, cs = o.cells ∧ o.Fit ∧ BytesOf W o := by
  obtain ⟨hl, n, hp⟩ := parts_read fields33 (by simp) h
  rw [cells33] at hl
  match cs, hl with
  | [c0, c1, c2, c3, c4], _ =>
    obtain ⟨y0, h0⟩ := hp 0 3 0 rfl
    obtain ⟨y1, h1⟩ := hp 1 3 1 rfl
    obtain ⟨y2, h2⟩ := hp 2 3 2 rfl
    obtain ⟨y3, h3⟩ := hp 3 3 3 rfl
    obtain ⟨y4, h4⟩ := hp 4 31 4 rfl
    rw [cells3] at h0 h1 h2 h3
    rw [cells31] at h4
    obtain ⟨z0, rfl, f0⟩ := int_read int3 h0
    obtain ⟨z1, rfl, f1⟩ := int_read int3 h1
    obtain ⟨z2, rfl, f2⟩ := int_read int3 h2
    obtain ⟨z3, rfl, f3⟩ := int_read int3 h3
    obtain ⟨p, l, c, bs, e4, b1, b2, b3⟩ := bytes_read h4
    simp at e4
    subst e4
    exact ⟨⟨z0, z1, z2, z3, p, l, c, bs⟩, rfl, ⟨f0, f1, f2, f3⟩, b1, b2, b3⟩
theorem ops_view {p : Option Addr} {len cap : Nat} {d : DataW H} {ps : List MemPlace} (h : DataW.Trod enc Try.prog W 0 (fun _ => true) true 22 (.slice p len cap) d ps) :
    ∃ os : Nat → OpW, OpsAt W p len os ∧ OpsOK W len os := by
  obtain ⟨fuel, hf⟩ := h
  rcases DataW.trod_slice slice22 hf with ⟨hcs, hx⟩ | ⟨a, len', cap', elems, rest, n, _, hcs, hx, hb, hlc, hm, hlen, hel, _⟩
  · simp [Value.cells] at hcs
    obtain ⟨rfl, rfl, rfl⟩ := hcs
    exact ⟨fun _ => ⟨0, 0, 0, 0, none, 0, 0, []⟩, fun h => by omega, fun j hj => by omega⟩
  · simp [Value.cells] at hcs
    obtain ⟨rfl, rfl, rfl⟩ := hcs
    have each : ∀ j, j < len → ∃ o : OpW, W.cells? 0 (a.add (j * 5)) 5 = some o.cells ∧ o.Fit ∧ BytesOf W o := by
      intro j hj
      have h1 := hel j hj
      rw [cells33] at h1
      have h2 : elems[j]? = some (elems[j]'(by omega)) := List.getElem?_eq_getElem (by omega)
      rw [h2] at h1
      cases hc : W.cells? 0 (a.add (j * 5)) 5 with
      | none => rw [hc] at h1; simp at h1
      | some cs =>
        rw [hc] at h1
        simp only [Option.bind_some] at h1
        obtain ⟨o, rfl, w⟩ := op_read h1
        exact ⟨o, rfl, w⟩
    have key : ∀ j, ∃ o : OpW, j < len → W.cells? 0 (a.add (j * 5)) 5 = some o.cells ∧ o.Fit ∧ BytesOf W o := by
      intro j
      by_cases hj : j < len
      · obtain ⟨o, ho⟩ := each j hj
        exact ⟨o, fun _ => ho⟩
      · exact ⟨⟨0, 0, 0, 0, none, 0, 0, []⟩, fun h => absurd h hj⟩
    obtain ⟨os, hos⟩ : ∃ os : Nat → OpW, ∀ j, j < len → W.cells? 0 (a.add (j * 5)) 5 = some (os j).cells ∧ (os j).Fit ∧ BytesOf W (os j) :=
      ⟨fun j => Classical.choose (key j), fun j => Classical.choose_spec (key j)⟩
    refine ⟨os, fun h0 => ?_, fun j hj => (hos j hj).2⟩
    have cell : ∀ j, j < len → ∀ i, i < 5 → W.cell? ((a.add (j * 5)).add i) = (os j).cells[i]? := by
      intro j hj i hi
      exact (World.cells?_some (hos j hj).1).2.2 i hi
    obtain ⟨b, off, spot⟩ := a
    have hspot : spot = none := by
      have h1 := cell 0 h0 0 (by omega)
      simp only [OpW.cells, List.getElem?_cons_zero] at h1
      have h2 := World.cell?_spot h1
      simpa [Addr.add] using h2
    subst hspot
    refine ⟨b, off, rfl, fun j hj i hi => ?_⟩
    have c := cell j hj i hi
    simp only [add_plain] at c
    exact c
end
end Go.Proofs.Ytgcjjgljllephaa
