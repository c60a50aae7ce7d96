/-
  How the calls among the port laws' arguments are read. No conditions.
-/
import Derived.Test.YtcnellkoejhofaaQView
namespace Go.Proofs.Ytcnellkoejhofaa
open Go.ChangeShapes Go.WideShapes Go.ChangeAt Go.RowKit

def fieldsOf (d : Option TypeDesc) : List (TypeId × Nat) := match d with | some (.struct fs) => fs.toList.map (fun f => (f.type, f.offset)) | _ => []
theorem struct_of {t : TypeId} {l : List (TypeId × Nat)} (hl : fieldsOf (Try.prog.underlying t) = l) (hne : l ≠ []) : ∃ fs, Try.prog.underlying t = some (.struct fs) := by
  unfold fieldsOf at hl
  split at hl
  · rename_i fs hfs; exact ⟨fs, hfs⟩
  · exact absurd hl.symm hne

section
variable {H : Type} {enc : TypeId × Value → H} {w : World} {base : Nat} {spare : Nat → Bool} {held : Bool}
/-- A struct's parts. -/
theorem parts_read {t : TypeId} {fuel : Nat} {cs : List Value} {x : DataW H × List MemPlace} {l : List (TypeId × Nat)} (hl : fieldsOf (Try.prog.underlying t) = l) (hne : l ≠ [])
    (h : DataW.trod enc Try.prog w base spare held fuel t cs = some x) :
    cs.length = Try.prog.cellsOf t ∧ ∃ n, ∀ (i : Nat) (ty : TypeId) (off : Nat), l[i]? = some (ty, off) → ∃ y, DataW.trod enc Try.prog w base spare held n ty ((cs.drop off).take (Try.prog.cellsOf ty)) = some y := by
  unfold fieldsOf at hl
  split at hl
  · rename_i fs hfs
    obtain ⟨xs, n, _, _, hlen, hxl, hf⟩ := DataW.trod_struct hfs h
    refine ⟨hlen, n, fun i ty off hi => ?_⟩
    rw [← hl] at hi
    simp only [List.getElem?_map, Array.getElem?_toList] at hi
    cases hfi : fs[i]? with
    | none => rw [hfi] at hi; simp at hi
    | some f =>
      rw [hfi] at hi
      simp only [Option.map_some, Option.some.injEq, Prod.mk.injEq] at hi
      have h4 := hf i f hfi
      rw [hi.1, hi.2] at h4
      have hlt := (Array.getElem?_eq_some_iff.1 hfi).1
      rw [List.getElem?_eq_getElem (by omega)] at h4
      exact ⟨_, h4⟩
  · exact absurd hl.symm hne

end
/-- One call that came in. -/
structure O15 where
  kind : Int
  obj : Int
  key : Int
  n : Int
def O15.cells (o : O15) : List Value := [.int .i64 o.kind, .int .i64 o.obj, .int .i64 o.key, .int .i64 o.n]
theorem cellsOp : Try.prog.cellsOf 32 = 4 := by kernel_rfl
theorem ops15_s : Try.prog.underlying 22 = some (.slice 32) := by kernel_rfl
theorem fieldsOp : fieldsOf (Try.prog.underlying 32) = [(3, 0), (3, 1), (3, 2), (3, 3)] := by kernel_rfl
def ORd (o : O15) : Prop := fit o.kind ∧ fit o.obj ∧ fit o.key ∧ fit o.n
section
variable {H : Type} {enc : TypeId × Value → H} {W : World}
set_option maxRecDepth 100000 in
theorem op15_read {fuel : Nat} {cs : List Value} {x : DataW H × List MemPlace} (h : DataW.trod enc Try.prog W 0 (fun _ => true) true fuel 32 cs = some x) :
    ∃ o : O15, cs = o.cells ∧ ORd o := by
  obtain ⟨hl, n, hp⟩ := parts_read fieldsOp (by simp) h
  rw [cellsOp] at hl
  match cs, hl with
  | [c0, c1, c2, c3], _ =>
    obtain ⟨y0, h0⟩ := hp 0 3 0 rfl
    obtain ⟨y1, h1⟩ := hp 1 3 1 rfl
    obtain ⟨y2, h2⟩ := hp 2 3 2 rfl
    obtain ⟨y3, h3⟩ := hp 3 3 3 rfl
    rw [cells3] at h0 h1 h2 h3
    obtain ⟨z0, hz0, _, hw0⟩ := DataW.trod_int int3 h0
    obtain ⟨z1, hz1, _, hw1⟩ := DataW.trod_int int3 h1
    obtain ⟨z2, hz2, _, hw2⟩ := DataW.trod_int int3 h2
    obtain ⟨z3, hz3, _, hw3⟩ := DataW.trod_int int3 h3
    simp at hz0 hz1 hz2 hz3
    subst hz0 hz1 hz2 hz3
    exact ⟨⟨z0, z1, z2, z3⟩, rfl, fit_wf hw0, fit_wf hw1, fit_wf hw2, fit_wf hw3⟩
/-- Calls that came in. -/
def OpsAt (W : World) (p : Option Addr) (len : Nat) (os : List O15) : Prop := os.length = len ∧ (0 < len → ∃ g o, p = some ⟨g, o, none⟩ ∧ ∀ j x, os[j]? = some x → (∀ i, i < 4 → W.cell? ⟨g, o + j * 4 + i, none⟩ = x.cells[i]?) ∧ ORd x)
theorem ops15_view {p : Option Addr} {len cap : Nat} {d : DataW H} {ps : List MemPlace} (h : DataW.Trod enc Try.prog W 0 (fun _ => true) true 22 (.slice p len cap) d ps) : ∃ os, OpsAt W p len os := by
  obtain ⟨fuel, hf⟩ := h
  rcases DataW.trod_slice ops15_s hf with ⟨hcs, hx⟩ | ⟨a, len', cap', elems, rest, n, _, hcs, hx, hb, hlc, hm, hlen, hel, _⟩
  · simp [Value.cells] at hcs
    obtain ⟨rfl, rfl, rfl⟩ := hcs
    exact ⟨[], rfl, fun h => by omega⟩
  · simp [Value.cells] at hcs
    obtain ⟨rfl, rfl, rfl⟩ := hcs
    have each : ∀ j, j < len → ∃ q : O15, W.cells? 0 (a.add (j * 4)) 4 = some q.cells ∧ ORd q := by
      intro j hj
      have h1 := hel j hj
      rw [cellsOp] at h1
      have h2 : elems[j]? = some (elems[j]'(by omega)) := List.getElem?_eq_getElem (by omega)
      rw [h2] at h1
      cases hc : W.cells? 0 (a.add (j * 4)) 4 with
      | none => rw [hc] at h1; simp at h1
      | some cs =>
        rw [hc] at h1
        simp only [Option.bind_some] at h1
        obtain ⟨o, rfl, w⟩ := op15_read h1
        exact ⟨o, rfl, w⟩
    have key : ∀ j, ∃ o : O15, j < len → W.cells? 0 (a.add (j * 4)) 4 = some o.cells ∧ ORd o := by
      intro j
      by_cases hj : j < len
      · obtain ⟨o, ho⟩ := each j hj
        exact ⟨o, fun _ => ho⟩
      · exact ⟨⟨0, 0, 0, 0⟩, fun h => absurd h hj⟩
    obtain ⟨os, hos⟩ : ∃ os : Nat → O15, ∀ j, j < len → W.cells? 0 (a.add (j * 4)) 4 = some (os j).cells ∧ ORd (os j) :=
      ⟨fun j => Classical.choose (key j), fun j => Classical.choose_spec (key j)⟩
    refine ⟨(List.range len).map os, by simp, fun h0 => ?_⟩
    have cell : ∀ j, j < len → ∀ i, i < 4 → W.cell? ((a.add (j * 4)).add i) = (os j).cells[i]? := by
      intro j hj i hi
      exact (World.cells?_some (hos j hj).1).2.2 i hi
    obtain ⟨b, off, spot⟩ := a
    have hspot : spot = none := by
      have h1 := cell 0 h0 0 (by omega)
      simp only [O15.cells, List.getElem?_cons_zero] at h1
      have h2 := World.cell?_spot h1
      simpa [Addr.add] using h2
    subst hspot
    refine ⟨b, off, rfl, fun j q hq => ?_⟩
    have hj : j < len := by
      have := (List.getElem?_eq_some_iff.1 hq).1
      simpa using this
    have hqe : os j = q := by
      rw [List.getElem?_map, List.getElem?_range hj] at hq
      simpa using hq
    subst hqe
    refine ⟨fun i hi => ?_, (hos j hj).2⟩
    have c := cell j hj i hi
    simp only [add_plain] at c
    exact c
end
theorem op_cells {W : World} {g o : Nat} {x : O15} (h : ∀ j, j < 4 → W.cell? ⟨g, o + j, none⟩ = x.cells[j]?) :
    W.cell? ⟨g, o + 0, none⟩ = some (.int .i64 x.kind) ∧ W.cell? ⟨g, o + 1, none⟩ = some (.int .i64 x.obj) ∧ W.cell? ⟨g, o + 2, none⟩ = some (.int .i64 x.key) ∧ W.cell? ⟨g, o + 3, none⟩ = some (.int .i64 x.n) :=
  ⟨h 0 (by omega), h 1 (by omega), h 2 (by omega), h 3 (by omega)⟩
end Go.Proofs.Ytcnellkoejhofaa
