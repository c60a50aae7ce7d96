/-
  A slice of calls that came in, read as numbers. No conditions.
-/
import Derived.Test.YtpfoleaampcibaaRows
import Derived.Test.YtpfoleaampcibaaOpArg
import Derived.WalkKit
import Derived.ProofKit
import Derived.OpenShut
import Derived.Deep.Slices
namespace Go.Proofs.Ytpfoleaampcibaa
open Go.ChangeShapes Go.WideShapes Go.ChangeAt Go.RowKit

theorem opsUnder : Try.prog.underlying 22 = some (.slice 31) := by kernel_rfl
theorem opCells : Try.prog.cellsOf 31 = 3 := by kernel_rfl
theorem intCells : Try.prog.cellsOf 3 = 1 := by kernel_rfl
def opFieldsOf (d : Option TypeDesc) : List (TypeId × Nat) := match d with | some (.struct fs) => fs.toList.map (fun f => (f.type, f.offset)) | _ => []
theorem opFields0 : opFieldsOf (Try.prog.underlying 31) = [(3, 0), (3, 1), (3, 2)] := by kernel_rfl

theorem opFields : ∃ fs : Array Field, Try.prog.underlying 31 = some (.struct fs) ∧ fs.size = 3 ∧ ∀ i, i < 3 → ∃ f, fs[i]? = some f ∧ f.type = 3 ∧ f.offset = i := by
  have h := opFields0
  unfold opFieldsOf at h
  split at h
  · rename_i fs hfs
    refine ⟨fs, hfs, ?_, ?_⟩
    · have := congrArg List.length h
      simpa using this
    · intro i hi
      have h1 := congrArg (fun l => l[i]?) h
      simp only [List.getElem?_map, Array.getElem?_toList] at h1
      cases hf : fs[i]? with
      | none =>
        rw [hf] at h1
        match i, hi with
        | 0, _ => simp at h1
        | 1, _ => simp at h1
        | 2, _ => simp at h1
      | some f =>
        rw [hf] at h1
        refine ⟨f, rfl, ?_⟩
        match i, hi with
        | 0, _ => simp at h1; exact h1
        | 1, _ => simp at h1; exact h1
        | 2, _ => simp at h1; exact h1
  · simp at h

theorem op_read {H : Type} {enc : TypeId × Value → H} {w : World} {base : Nat} {spare : Nat → Bool} {held : Bool} {fuel : Nat} {cs : List Value} {x : DataW H × List MemPlace}
    (h : DataW.trod enc Try.prog w base spare held fuel 31 cs = some x) :
    ∃ o : OpV, cs = [.int .i64 o.kind, .int .i64 o.q, .int .i64 o.i] ∧ (Lit.int .i64 o.kind).wf = true ∧ (Lit.int .i64 o.q).wf = true ∧ (Lit.int .i64 o.i).wf = true := by
  obtain ⟨fs, hfs, hsz, hall⟩ := opFields
  obtain ⟨xs, n, _, _, hl, hxl, hf⟩ := DataW.trod_struct hfs h
  rw [opCells] at hl
  match cs, hl with
  | [c0, c1, c2], _ =>
    have one : ∀ (i : Nat), i < 3 → ∀ c, ([c0, c1, c2].drop i).take 1 = [c] → ∃ z, c = .int .i64 z ∧ (Lit.int .i64 z).wf = true := by
      intro i hi c hc
      obtain ⟨f, h1, h2, h3⟩ := hall i hi
      have h4 := hf i f h1
      rw [h2, h3, intCells, hc] at h4
      have hx : ∃ y, xs[i]? = some y := ⟨xs[i]'(by omega), List.getElem?_eq_getElem (by omega)⟩
      obtain ⟨y, hy⟩ := hx
      rw [hy] at h4
      obtain ⟨z, hz, _, hw⟩ := DataW.trod_int Try.underlying3 h4
      simp at hz
      exact ⟨z, hz, hw⟩
    obtain ⟨z0, rfl, w0⟩ := one 0 (by omega) c0 rfl
    obtain ⟨z1, rfl, w1⟩ := one 1 (by omega) c1 rfl
    obtain ⟨z2, rfl, w2⟩ := one 2 (by omega) c2 rfl
    exact ⟨⟨z0, z1, z2⟩, rfl, w0, w1, w2⟩

theorem ops_view {H : Type} {enc : TypeId × Value → H} {W : World} {p : Option Addr} {len cap : Nat} {d : DataW H} {ps : List MemPlace}
    (h : DataW.Trod enc Try.prog W 0 (fun _ => true) true 22 (.slice p len cap) d ps) :
    ∃ os : Nat → OpV, OpsAt W p len os ∧ OpsFit len os := by
  obtain ⟨fuel, hf⟩ := h
  rcases DataW.trod_slice opsUnder hf with ⟨hcs, hx⟩ | ⟨a, len', cap', elems, rest, n, _, hcs, hx, hb, hlc, hm, hlen, hel, _⟩
  · simp [Value.cells] at hcs
    obtain ⟨rfl, rfl, rfl⟩ := hcs
    exact ⟨fun _ => ⟨0, 0, 0⟩, fun h => by omega, fun j hj => by omega⟩
  · simp [Value.cells] at hcs
    obtain ⟨rfl, rfl, rfl⟩ := hcs
    have each : ∀ j, j < len → ∃ o : OpV, (W.cells? 0 (a.add (j * 3)) 3 = some [.int .i64 o.kind, .int .i64 o.q, .int .i64 o.i]) ∧ (Lit.int .i64 o.kind).wf = true ∧ (Lit.int .i64 o.q).wf = true ∧ (Lit.int .i64 o.i).wf = true := by
      intro j hj
      have h1 := hel j hj
      rw [opCells] at h1
      have h2 : elems[j]? = some (elems[j]'(by omega)) := List.getElem?_eq_getElem (by omega)
      rw [h2] at h1
      cases hc : W.cells? 0 (a.add (j * 3)) 3 with
      | none => rw [hc] at h1; simp at h1
      | some cs =>
        rw [hc] at h1
        simp only [Option.bind_some] at h1
        obtain ⟨o, rfl, w⟩ := op_read h1
        exact ⟨o, rfl, w⟩
    have key : ∀ j, ∃ o : OpV, j < len → (W.cells? 0 (a.add (j * 3)) 3 = some [.int .i64 o.kind, .int .i64 o.q, .int .i64 o.i]) ∧ (Lit.int .i64 o.kind).wf = true ∧ (Lit.int .i64 o.q).wf = true ∧ (Lit.int .i64 o.i).wf = true := by
      intro j
      by_cases hj : j < len
      · obtain ⟨o, ho⟩ := each j hj
        exact ⟨o, fun _ => ho⟩
      · exact ⟨⟨0, 0, 0⟩, fun h => absurd h hj⟩
    obtain ⟨os, hos⟩ : ∃ os : Nat → OpV, ∀ j, j < len → (W.cells? 0 (a.add (j * 3)) 3 = some [.int .i64 (os j).kind, .int .i64 (os j).q, .int .i64 (os j).i]) ∧ (Lit.int .i64 (os j).kind).wf = true ∧ (Lit.int .i64 (os j).q).wf = true ∧ (Lit.int .i64 (os j).i).wf = true :=
      ⟨fun j => Classical.choose (key j), fun j => Classical.choose_spec (key j)⟩
    refine ⟨os, fun h0 => ?_, fun j hj => (hos j hj).2⟩
    have cell : ∀ j, j < len → ∀ i, i < 3 → W.cell? ((a.add (j * 3)).add i) = [Value.int .i64 (os j).kind, .int .i64 (os j).q, .int .i64 (os j).i][i]? := by
      intro j hj i hi
      exact (World.cells?_some (hos j hj).1).2.2 i hi
    obtain ⟨b, off, spot⟩ := a
    have hspot : spot = none := by
      have h1 := cell 0 h0 0 (by omega)
      simp only [List.getElem?_cons_zero] at h1
      have h2 := World.cell?_spot h1
      simpa [Addr.add] using h2
    subst hspot
    refine ⟨b, off, rfl, fun j hj => ?_⟩
    have c0 := cell j hj 0 (by omega)
    have c1 := cell j hj 1 (by omega)
    have c2 := cell j hj 2 (by omega)
    simp only [add_plain, Nat.add_zero, List.getElem?_cons_zero, List.getElem?_cons_succ] at c0 c1 c2
    exact ⟨c0, c1, c2⟩

end Go.Proofs.Ytpfoleaampcibaa
