/-
  How the laws' arguments are read. No conditions.
-/
import Derived.Test.YtabakjimlndhcaaRows
import Derived.Test.YtabakjimlndhcaaBAwake
import Derived.WalkKit
import Derived.ProofKit
import Derived.OpenShut
import Derived.Deep.Slices
namespace Go.Proofs.Ytabakjimlndhcaa
open Go.ChangeShapes Go.WideShapes Go.ChangeAt Go.RowKit
theorem laidOut : laidOutB Try.prog = true := by kernel_rfl
theorem cells3 : Try.prog.cellsOf 3 = 1 := by kernel_rfl
theorem int3 : Try.prog.underlying 3 = some (.int .i64) := by kernel_rfl
theorem kints_s : Try.prog.underlying 53 = some (.slice 3) := by kernel_rfl
theorem add_plain (b off j : Nat) : (⟨b, off, none⟩ : Addr).add j = ⟨b, off + j, none⟩ := by
  simp [Addr.add]
  try omega
theorem fit_wf {n : Int} (h : (Lit.int .i64 n).wf = true) : fit n := by
  simp [Lit.wf, IntKind.min, IntKind.max, IntKind.signed, IntKind.bits] at h
  unfold fit
  omega
def fieldsOf (d : Option TypeDesc) : List (TypeId × Nat) := match d with | some (.struct fs) => fs.toList.map (fun f => (f.type, f.offset)) | _ => []
/-- Integers that came in. -/
def ZsAt (W : World) (p : Option Addr) (len : Nat) (zs : List Int) : Prop := zs.length = len ∧ (∀ x ∈ zs, fit x) ∧ (0 < len → ∃ g o, p = some ⟨g, o, none⟩ ∧ ∀ j x, zs[j]? = some x → W.cell? ⟨g, o + j, none⟩ = some (.int .i64 x))
section
variable {H : Type} {enc : TypeId × Value → H} {W : World}
theorem zs_view {p : Option Addr} {len cap : Nat} {d : DataW H} {ps : List MemPlace} (h : DataW.Trod enc Try.prog W 0 (fun _ => true) true 53 (.slice p len cap) d ps) : ∃ zs, ZsAt W p len zs := by
  obtain ⟨fuel, hf⟩ := h
  simp only [Value.cells] at hf
  rcases open_ints kints_s int3 cells3 hf with ⟨hcs, hx⟩ | ⟨a, len', cap', zs, hcs, _, hl, hm, hz, hx, hcell, hwz⟩
  · simp at hcs
    obtain ⟨rfl, rfl, rfl⟩ := hcs
    exact ⟨[], rfl, (fun x hx => by cases hx), fun h => by omega⟩
  · simp at hcs
    obtain ⟨rfl, rfl, rfl⟩ := hcs
    simp only [if_true] at hz
    have hlen : (zs.take len).length = len := by rw [List.length_take]; omega
    refine ⟨zs.take len, hlen, fun x hx => fit_wf (hwz x (List.mem_of_mem_take hx)), fun h0 => ?_⟩
    obtain ⟨b, off, spot⟩ := a
    have hspot : spot = none := by simpa [Addr.add] using World.cell?_spot (hcell 0 (by omega))
    subst hspot
    refine ⟨b, off, rfl, fun j x hx => ?_⟩
    have hj := (List.getElem?_eq_some_iff.1 hx).1
    rw [hlen] at hj
    rw [List.getElem?_take_of_lt hj] at hx
    rw [← add_plain, hcell j (by omega), List.getD_eq_getElem?_getD, hx]
    rfl
end
section
variable {H : Type} {enc : TypeId × Value → H} {w : World} {base : Nat} {spare : Nat → Bool} {held : Bool}
/-- A struct's parts. -/
theorem parts_read {t : TypeId} {fuel : Nat} {cs : List Value} {x : DataW H × List MemPlace} {l : List (TypeId × Nat)} (hl : fieldsOf (Try.prog.underlying t) = l) (hne : l ≠ [])
    (h : DataW.trod enc Try.prog w base spare held fuel t cs = some x) :
    cs.length = Try.prog.cellsOf t ∧ ∃ n, ∀ (i : Nat) (ty : TypeId) (off : Nat), l[i]? = some (ty, off) → ∃ y, DataW.trod enc Try.prog w base spare held n ty ((cs.drop off).take (Try.prog.cellsOf ty)) = some y := by
  unfold fieldsOf at hl
  split at hl
  · rename_i fs hfs
    obtain ⟨xs, n, _, _, hlen, hxl, hf⟩ := DataW.trod_struct hfs h
    refine ⟨hlen, n, fun i ty off hi => ?_⟩
    rw [← hl] at hi
    simp only [List.getElem?_map, Array.getElem?_toList] at hi
    cases hfi : fs[i]? with
    | none => rw [hfi] at hi; simp at hi
    | some f =>
      rw [hfi] at hi
      simp only [Option.map_some, Option.some.injEq, Prod.mk.injEq] at hi
      have h4 := hf i f hfi
      rw [hi.1, hi.2] at h4
      have hlt := (Array.getElem?_eq_some_iff.1 hfi).1
      rw [List.getElem?_eq_getElem (by omega)] at h4
      exact ⟨_, h4⟩
  · exact absurd hl.symm hne
end
theorem cellsRI : Try.prog.cellsOf 100 = 2 := by kernel_rfl
theorem ritems_s : Try.prog.underlying 30 = some (.slice 100) := by kernel_rfl
theorem fieldsRI : fieldsOf (Try.prog.underlying 100) = [(3, 0), (3, 1)] := by kernel_rfl
section
variable {H : Type} {enc : TypeId × Value → H} {W : World}
set_option maxRecDepth 100000 in
theorem item_read {fuel : Nat} {cs : List Value} {x : DataW H × List MemPlace} (h : DataW.trod enc Try.prog W 0 (fun _ => true) true fuel 100 cs = some x) : ∃ i : It, cs = i.cells ∧ fit i.o ∧ fit i.m := by
  obtain ⟨hl, n, hp⟩ := parts_read fieldsRI (by simp) h
  rw [cellsRI] at hl
  match cs, hl with
  | [c0, c1], _ =>
    obtain ⟨y0, h0⟩ := hp 0 3 0 rfl
    obtain ⟨y1, h1⟩ := hp 1 3 1 rfl
    rw [cells3] at h0 h1
    obtain ⟨z0, hz0, _, hw0⟩ := DataW.trod_int int3 h0
    obtain ⟨z1, hz1, _, hw1⟩ := DataW.trod_int int3 h1
    simp at hz0 hz1
    subst hz0 hz1
    exact ⟨⟨z0, z1⟩, rfl, fit_wf hw0, fit_wf hw1⟩
theorem items_read {fuel : Nat} {cs : List Value} {x : DataW H × List MemPlace} (h : DataW.trod enc Try.prog W 0 (fun _ => true) true fuel 30 cs = some x) : ∃ v its, cs = [v] ∧ RdIt W v its := by
  rcases DataW.trod_slice ritems_s h with ⟨hcs, hx⟩ | ⟨a, len, cap, elems, rest, n, _, hcs, hx, hb, hlc, hm, hlen, hel, _⟩
  · exact ⟨_, [], hcs, ⟨⟨none, 0, rfl⟩, fun _ => rfl, fun h => absurd h (by simp)⟩, fun i hi => by cases hi⟩
  · have each : ∀ j, j < len → ∃ q : It, W.cells? 0 (a.add (j * 2)) 2 = some q.cells ∧ fit q.o ∧ fit q.m := by
      intro j hj
      have h1 := hel j hj
      rw [cellsRI] at h1
      have h2 : elems[j]? = some (elems[j]'(by omega)) := List.getElem?_eq_getElem (by omega)
      rw [h2] at h1
      cases hc : W.cells? 0 (a.add (j * 2)) 2 with
      | none => rw [hc] at h1; simp at h1
      | some cs =>
        rw [hc] at h1
        simp only [Option.bind_some] at h1
        obtain ⟨o, rfl, w⟩ := item_read h1
        exact ⟨o, rfl, w⟩
    have key : ∀ j, ∃ o : It, j < len → W.cells? 0 (a.add (j * 2)) 2 = some o.cells ∧ fit o.o ∧ fit o.m := by
      intro j
      by_cases hj : j < len
      · obtain ⟨o, ho⟩ := each j hj
        exact ⟨o, fun _ => ho⟩
      · exact ⟨⟨0, 0⟩, fun h => absurd h hj⟩
    obtain ⟨os, hos⟩ : ∃ os : Nat → It, ∀ j, j < len → W.cells? 0 (a.add (j * 2)) 2 = some (os j).cells ∧ fit (os j).o ∧ fit (os j).m :=
      ⟨fun j => Classical.choose (key j), fun j => Classical.choose_spec (key j)⟩
    refine ⟨.slice (some a) len cap, (List.range len).map os, hcs, ⟨⟨some a, cap, by simp⟩, fun h0 => ?_, fun h0 => ?_⟩, fun i hi => ?_⟩
    · have : len = 0 := by simpa using h0
      subst this
      rfl
    · have h0' : 0 < len := by simpa using h0
      have cell : ∀ j, j < len → ∀ i, i < 2 → W.cell? ((a.add (j * 2)).add i) = (os j).cells[i]? := by
        intro j hj i hi
        exact (World.cells?_some (hos j hj).1).2.2 i hi
      obtain ⟨b, off, spot⟩ := a
      have hspot : spot = none := by
        have h1 := cell 0 h0' 0 (by omega)
        simp only [It.cells, List.getElem?_cons_zero] at h1
        have h2 := World.cell?_spot h1
        simpa [Addr.add] using h2
      subst hspot
      refine ⟨by rw [itcells_len], some ⟨b, off, none⟩, cap, by simp, (fun h => by cases h), fun a' ha => ?_⟩
      simp only [Option.some.injEq] at ha
      subst ha
      refine ⟨b, off, rfl, fun j hj => ?_⟩
      have hj' : j < len * 2 := by simpa using hj
      have hjl : j / 2 < len := by omega
      have h3 := fl_at It.cells 2 (fun _ => rfl) ((List.range len).map os) (j / 2) (os (j / 2)) (by rw [List.getElem?_map, List.getElem?_range hjl]; rfl) (j % 2) (by omega)
      rw [show j / 2 * 2 + j % 2 = j by omega] at h3
      have h4 := cell (j / 2) hjl (j % 2) (by omega)
      simp only [add_plain] at h4
      rw [show off + j / 2 * 2 + j % 2 = off + j by omega] at h4
      exact h4.trans h3.symm
    · obtain ⟨j, hj, rfl⟩ := List.mem_map.1 hi
      exact (hos j (List.mem_range.1 hj)).2
theorem items_view {p : Option Addr} {len cap : Nat} {d : DataW H} {ps : List MemPlace} (h : DataW.Trod enc Try.prog W 0 (fun _ => true) true 30 (.slice p len cap) d ps) : ∃ its, RdIt W (.slice p len cap) its ∧ its.length = len := by
  obtain ⟨fuel, hf⟩ := h
  simp only [Value.cells] at hf
  obtain ⟨v, its, hv, hr⟩ := items_read hf
  simp at hv
  subst hv
  obtain ⟨p', c', he⟩ := hr.1.sl
  simp only [Value.slice.injEq] at he
  exact ⟨its, hr, he.2.1.symm⟩
end
/-- One call that came in. -/
structure O16 where
  kind : Int
  th : Int
  ob : Int
  n : Int
  v : Value
  its : List It
def O16.cells (o : O16) : List Value := [.int .i64 o.kind, .int .i64 o.th, .int .i64 o.ob, .int .i64 o.n, o.v]
theorem cellsOp : Try.prog.cellsOf 32 = 5 := by kernel_rfl
theorem cellsRs : Try.prog.cellsOf 30 = 1 := by kernel_rfl
theorem ops16_s : Try.prog.underlying 22 = some (.slice 32) := by kernel_rfl
theorem fieldsOp : fieldsOf (Try.prog.underlying 32) = [(3, 0), (3, 1), (3, 2), (3, 3), (30, 4)] := by kernel_rfl
structure ORd (W : World) (o : O16) : Prop where
  its : RdIt W o.v o.its
  th : fit o.th
  ob : fit o.ob
  n : fit o.n
theorem ORd.past {W W' : World} {o : O16} (h : ORd W o) (t : Turn NoBlock W W') : ORd W' o := ⟨h.its.past t, h.th, h.ob, h.n⟩
section
variable {H : Type} {enc : TypeId × Value → H} {W : World}
set_option maxRecDepth 100000 in
theorem op16_read {fuel : Nat} {cs : List Value} {x : DataW H × List MemPlace} (h : DataW.trod enc Try.prog W 0 (fun _ => true) true fuel 32 cs = some x) :
    ∃ o : O16, cs = o.cells ∧ ORd W o := by
  obtain ⟨hl, n, hp⟩ := parts_read fieldsOp (by simp) h
  rw [cellsOp] at hl
  match cs, hl with
  | [c0, c1, c2, c3, c4], _ =>
    obtain ⟨y0, h0⟩ := hp 0 3 0 rfl
    obtain ⟨y1, h1⟩ := hp 1 3 1 rfl
    obtain ⟨y2, h2⟩ := hp 2 3 2 rfl
    obtain ⟨y3, h3⟩ := hp 3 3 3 rfl
    obtain ⟨y4, h4⟩ := hp 4 30 4 rfl
    rw [cells3] at h0 h1 h2 h3
    rw [cellsRs] at h4
    obtain ⟨z0, hz0, _, _⟩ := DataW.trod_int int3 h0
    obtain ⟨z1, hz1, _, hw1⟩ := DataW.trod_int int3 h1
    obtain ⟨z2, hz2, _, hw2⟩ := DataW.trod_int int3 h2
    obtain ⟨z3, hz3, _, hw3⟩ := DataW.trod_int int3 h3
    obtain ⟨v, its, hz4, hr⟩ := items_read h4
    simp at hz0 hz1 hz2 hz3 hz4
    subst hz0 hz1 hz2 hz3 hz4
    exact ⟨⟨z0, z1, z2, z3, c4, its⟩, rfl, hr, fit_wf hw1, fit_wf hw2, fit_wf hw3⟩
/-- Calls that came in. -/
def OpsAt (W : World) (p : Option Addr) (len : Nat) (os : List O16) : Prop := os.length = len ∧ (0 < len → ∃ g o, p = some ⟨g, o, none⟩ ∧ ∀ j x, os[j]? = some x → (∀ i, i < 5 → W.cell? ⟨g, o + j * 5 + i, none⟩ = x.cells[i]?) ∧ ORd W x)
theorem ops16_view {p : Option Addr} {len cap : Nat} {d : DataW H} {ps : List MemPlace} (h : DataW.Trod enc Try.prog W 0 (fun _ => true) true 22 (.slice p len cap) d ps) : ∃ os, OpsAt W p len os := by
  obtain ⟨fuel, hf⟩ := h
  rcases DataW.trod_slice ops16_s hf with ⟨hcs, hx⟩ | ⟨a, len', cap', elems, rest, n, _, hcs, hx, hb, hlc, hm, hlen, hel, _⟩
  · simp [Value.cells] at hcs
    obtain ⟨rfl, rfl, rfl⟩ := hcs
    exact ⟨[], rfl, fun h => by omega⟩
  · simp [Value.cells] at hcs
    obtain ⟨rfl, rfl, rfl⟩ := hcs
    have each : ∀ j, j < len → ∃ q : O16, W.cells? 0 (a.add (j * 5)) 5 = some q.cells ∧ ORd W q := by
      intro j hj
      have h1 := hel j hj
      rw [cellsOp] at h1
      have h2 : elems[j]? = some (elems[j]'(by omega)) := List.getElem?_eq_getElem (by omega)
      rw [h2] at h1
      cases hc : W.cells? 0 (a.add (j * 5)) 5 with
      | none => rw [hc] at h1; simp at h1
      | some cs =>
        rw [hc] at h1
        simp only [Option.bind_some] at h1
        obtain ⟨o, rfl, w⟩ := op16_read h1
        exact ⟨o, rfl, w⟩
    have key : ∀ j, ∃ o : O16, j < len → W.cells? 0 (a.add (j * 5)) 5 = some o.cells ∧ ORd W o := by
      intro j
      by_cases hj : j < len
      · obtain ⟨o, ho⟩ := each j hj
        exact ⟨o, fun _ => ho⟩
      · exact ⟨⟨0, 0, 0, 0, .slice none 0 0, []⟩, fun h => absurd h hj⟩
    obtain ⟨os, hos⟩ : ∃ os : Nat → O16, ∀ j, j < len → W.cells? 0 (a.add (j * 5)) 5 = some (os j).cells ∧ ORd W (os j) :=
      ⟨fun j => Classical.choose (key j), fun j => Classical.choose_spec (key j)⟩
    refine ⟨(List.range len).map os, by simp, fun h0 => ?_⟩
    have cell : ∀ j, j < len → ∀ i, i < 5 → W.cell? ((a.add (j * 5)).add i) = (os j).cells[i]? := by
      intro j hj i hi
      exact (World.cells?_some (hos j hj).1).2.2 i hi
    obtain ⟨b, off, spot⟩ := a
    have hspot : spot = none := by
      have h1 := cell 0 h0 0 (by omega)
      simp only [O16.cells, List.getElem?_cons_zero] at h1
      have h2 := World.cell?_spot h1
      simpa [Addr.add] using h2
    subst hspot
    refine ⟨b, off, rfl, fun j q hq => ?_⟩
    have hj : j < len := by
      have := (List.getElem?_eq_some_iff.1 hq).1
      simpa using this
    have hqe : os j = q := by
      rw [List.getElem?_map, List.getElem?_range hj] at hq
      simpa using hq
    subst hqe
    refine ⟨fun i hi => ?_, (hos j hj).2⟩
    have c := cell j hj i hi
    simp only [add_plain] at c
    exact c
end
theorem op_cells {W : World} {g o : Nat} {x : O16} (h : ∀ j, j < 5 → W.cell? ⟨g, o + j, none⟩ = x.cells[j]?) :
    W.cell? ⟨g, o + 0, none⟩ = some (.int .i64 x.kind) ∧ W.cell? ⟨g, o + 1, none⟩ = some (.int .i64 x.th) ∧ W.cell? ⟨g, o + 2, none⟩ = some (.int .i64 x.ob) ∧ W.cell? ⟨g, o + 3, none⟩ = some (.int .i64 x.n) ∧ W.cell? ⟨g, o + 4, none⟩ = some x.v :=
  ⟨h 0 (by omega), h 1 (by omega), h 2 (by omega), h 3 (by omega), h 4 (by omega)⟩
end Go.Proofs.Ytabakjimlndhcaa
