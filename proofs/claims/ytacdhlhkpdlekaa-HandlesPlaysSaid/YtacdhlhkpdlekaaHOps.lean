/-
  A slice of calls that came in, read as numbers; a slice of numbers. No conditions.
-/
import Derived.Test.YtacdhlhkpdlekaaHView
namespace Go.Proofs.Ytacdhlhkpdlekaa
open Go.ChangeShapes Go.WideShapes Go.ChangeAt Go.RowKit

structure OpV where
  kind : Int
  v : Int
  nth : Int
  n : Int
  want : Int
  draw : Int
  e : Ent
  lp : Option Addr
  ll : Nat
  lc : Nat
  zs : List Int
def OpV.cells (o : OpV) : List Value := [.int .i64 o.kind, .int .i64 o.v, .int .i64 o.nth, .int .i64 o.n, .int .i64 o.want, .int .i64 o.draw, .int .i64 o.e.o, .int .i64 o.e.k, .int .i64 o.e.r, .slice o.lp o.ll o.lc]
structure OpV.Fit (o : OpV) : Prop where
  kind : fit o.kind
  v : fit o.v
  nth : fit o.nth
  n : fit o.n
  want : fit o.want
  draw : fit o.draw
  eo : fit o.e.o
  ek : fit o.e.k
  er : fit o.e.r
/-- Numbers in memory that came in. -/
def NumsAt (W : World) (p : Option Addr) (len : Nat) (zs : List Int) : Prop := zs.length = len ∧ (∀ z ∈ zs, fit z) ∧ (0 < len → ∃ b off, p = some ⟨b, off, none⟩ ∧ ∀ j, j < len → W.cell? ⟨b, off + j, none⟩ = some (.int .i64 (zs.getD j 0)))
def OpsAt (W : World) (p : Option Addr) (len : Nat) (os : Nat → OpV) : Prop := 0 < len → ∃ b off, p = some ⟨b, off, none⟩ ∧ ∀ j, j < len → ∀ i, i < 10 → W.cell? ⟨b, off + j * 10 + i, none⟩ = (os j).cells[i]?
def OpsOK (W : World) (len : Nat) (os : Nat → OpV) : Prop := ∀ j, j < len → (os j).Fit ∧ NumsAt W (os j).lp (os j).ll (os j).zs

section
variable {H : Type} {enc : TypeId × Value → H} {W : World}

theorem nums_read {fuel : Nat} {cs : List Value} {x : DataW H × List MemPlace} (h : DataW.trod enc Try.prog W 0 (fun _ => true) true fuel 27 cs = some x) :
    ∃ p len cap zs, cs = [.slice p len cap] ∧ NumsAt W p len zs := by
  rcases open_ints slice27 int3 cells3 h with ⟨hcs, hx⟩ | ⟨a, len', cap', zs, hcs, _, hl, hm, hz, hx, hcell, hwz⟩
  · exact ⟨none, 0, 0, [], hcs, rfl, by simp, fun h => by omega⟩
  · simp only [if_true] at hz
    refine ⟨some a, len', cap', zs.take len', hcs, by rw [List.length_take]; omega, fun z hm => fit_wf (hwz z (List.mem_of_mem_take hm)), fun h0 => ?_⟩
    obtain ⟨b, off, spot⟩ := a
    have hspot : spot = none := by simpa [Addr.add] using World.cell?_spot (hcell 0 (by omega))
    subst hspot
    refine ⟨b, off, rfl, fun j hj => ?_⟩
    rw [← add_plain, hcell j (by omega)]
    simp [List.getD, hj]

set_option maxRecDepth 100000 in
theorem op_read {fuel : Nat} {cs : List Value} {x : DataW H × List MemPlace} (h : DataW.trod enc Try.prog W 0 (fun _ => true) true fuel 35 cs = some x) :
    ∃ o : OpV, cs = o.cells ∧ o.Fit ∧ NumsAt W o.lp o.ll o.zs := by
  obtain ⟨hl, n, hp⟩ := parts_read fields35 (by simp) h
  rw [cells35] at hl
  match cs, hl with
  | [c0, c1, c2, c3, c4, c5, c6, c7, c8, c9], _ =>
    obtain ⟨y0, h0⟩ := hp 0 3 0 rfl
    obtain ⟨y1, h1⟩ := hp 1 3 1 rfl
    obtain ⟨y2, h2⟩ := hp 2 3 2 rfl
    obtain ⟨y3, h3⟩ := hp 3 3 3 rfl
    obtain ⟨y4, h4⟩ := hp 4 3 4 rfl
    obtain ⟨y5, h5⟩ := hp 5 3 5 rfl
    obtain ⟨y6, h6⟩ := hp 6 33 6 rfl
    obtain ⟨y7, h7⟩ := hp 7 27 9 rfl
    rw [cells3] at h0 h1 h2 h3 h4 h5
    rw [cells33] at h6
    rw [cells27] at h7
    obtain ⟨z0, rfl, f0⟩ := int_read int3 h0
    obtain ⟨z1, rfl, f1⟩ := int_read int3 h1
    obtain ⟨z2, rfl, f2⟩ := int_read int3 h2
    obtain ⟨z3, rfl, f3⟩ := int_read int3 h3
    obtain ⟨z4, rfl, f4⟩ := int_read int3 h4
    obtain ⟨z5, rfl, f5⟩ := int_read int3 h5
    obtain ⟨e, rfl, rfl, rfl, f6, f7, f8⟩ := ent_read h6
    obtain ⟨p, len, cap, zs, hc, hn⟩ := nums_read h7
    simp at hc
    subst hc
    exact ⟨⟨z0, z1, z2, z3, z4, z5, e, p, len, cap, zs⟩, rfl, ⟨f0, f1, f2, f3, f4, f5, f6, f7, f8⟩, hn⟩

theorem nums_view {p : Option Addr} {len cap : Nat} {d : DataW H} {ps : List MemPlace} (h : DataW.Trod enc Try.prog W 0 (fun _ => true) true 27 (.slice p len cap) d ps) : ∃ zs, NumsAt W p len zs := by
  obtain ⟨fuel, hf⟩ := h
  simp only [Value.cells] at hf
  obtain ⟨p', len', cap', zs, hc, hn⟩ := nums_read hf
  simp at hc
  obtain ⟨rfl, rfl, rfl⟩ := hc
  exact ⟨zs, hn⟩

theorem ops_view {p : Option Addr} {len cap : Nat} {d : DataW H} {ps : List MemPlace} (h : DataW.Trod enc Try.prog W 0 (fun _ => true) true 22 (.slice p len cap) d ps) :
    ∃ os : Nat → OpV, OpsAt W p len os ∧ OpsOK W len os := by
  obtain ⟨fuel, hf⟩ := h
  rcases DataW.trod_slice slice22 hf with ⟨hcs, hx⟩ | ⟨a, len', cap', elems, rest, n, _, hcs, hx, hb, hlc, hm, hlen, hel, _⟩
  · simp [Value.cells] at hcs
    obtain ⟨rfl, rfl, rfl⟩ := hcs
    exact ⟨fun _ => ⟨0, 0, 0, 0, 0, 0, Ent.zero, none, 0, 0, []⟩, fun h => by omega, fun j hj => by omega⟩
  · simp [Value.cells] at hcs
    obtain ⟨rfl, rfl, rfl⟩ := hcs
    have each : ∀ j, j < len → ∃ o : OpV, W.cells? 0 (a.add (j * 10)) 10 = some o.cells ∧ o.Fit ∧ NumsAt W o.lp o.ll o.zs := by
      intro j hj
      have h1 := hel j hj
      rw [cells35] at h1
      have h2 : elems[j]? = some (elems[j]'(by omega)) := List.getElem?_eq_getElem (by omega)
      rw [h2] at h1
      cases hc : W.cells? 0 (a.add (j * 10)) 10 with
      | none => rw [hc] at h1; simp at h1
      | some cs =>
        rw [hc] at h1
        simp only [Option.bind_some] at h1
        obtain ⟨o, rfl, w⟩ := op_read h1
        exact ⟨o, rfl, w⟩
    have key : ∀ j, ∃ o : OpV, j < len → W.cells? 0 (a.add (j * 10)) 10 = some o.cells ∧ o.Fit ∧ NumsAt W o.lp o.ll o.zs := by
      intro j
      by_cases hj : j < len
      · obtain ⟨o, ho⟩ := each j hj
        exact ⟨o, fun _ => ho⟩
      · exact ⟨⟨0, 0, 0, 0, 0, 0, Ent.zero, none, 0, 0, []⟩, fun h => absurd h hj⟩
    obtain ⟨os, hos⟩ : ∃ os : Nat → OpV, ∀ j, j < len → W.cells? 0 (a.add (j * 10)) 10 = some (os j).cells ∧ (os j).Fit ∧ NumsAt W (os j).lp (os j).ll (os j).zs :=
      ⟨fun j => Classical.choose (key j), fun j => Classical.choose_spec (key j)⟩
    refine ⟨os, fun h0 => ?_, fun j hj => (hos j hj).2⟩
    have cell : ∀ j, j < len → ∀ i, i < 10 → W.cell? ((a.add (j * 10)).add i) = (os j).cells[i]? := by
      intro j hj i hi
      exact (World.cells?_some (hos j hj).1).2.2 i hi
    obtain ⟨b, off, spot⟩ := a
    have hspot : spot = none := by
      have h1 := cell 0 h0 0 (by omega)
      simp only [OpV.cells, List.getElem?_cons_zero] at h1
      have h2 := World.cell?_spot h1
      simpa [Addr.add] using h2
    subst hspot
    refine ⟨b, off, rfl, fun j hj i hi => ?_⟩
    have c := cell j hj i hi
    simp only [add_plain] at c
    exact c
end
end Go.Proofs.Ytacdhlhkpdlekaa
