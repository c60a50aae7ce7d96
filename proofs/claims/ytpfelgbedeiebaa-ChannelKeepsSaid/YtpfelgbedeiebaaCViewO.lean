/-
  How the calls among channel's laws' arguments are read. No conditions.
-/
import Derived.Test.YtpfelgbedeiebaaCViewM
namespace Go.Proofs.Ytpfelgbedeiebaa
open Go.ChangeShapes Go.WideShapes Go.ChangeAt Go.RowKit

/-- One call that came in. -/
structure O11 where
  kind : Int
  en : Int
  n : Int
  k : Int
  q : QM
def O11.cells (o : O11) : List Value := [.int .i64 o.kind, .int .i64 o.en, .int .i64 o.n, .int .i64 o.k, .int .i64 o.q.m.tx, o.q.vd, o.q.vh]
theorem cellsOp : Try.prog.cellsOf 72 = 7 := by kernel_rfl
theorem ops11_s : Try.prog.underlying 58 = some (.slice 72) := by kernel_rfl
theorem fieldsOp : fieldsOf (Try.prog.underlying 72) = [(3, 0), (3, 1), (3, 2), (3, 3), (70, 4)] := by kernel_rfl
section
variable {H : Type} {enc : TypeId × Value → H} {W : World}
set_option maxRecDepth 100000 in
theorem op11_read {fuel : Nat} {cs : List Value} {x : DataW H × List MemPlace} (h : DataW.trod enc Try.prog W 0 (fun _ => true) true fuel 72 cs = some x) :
    ∃ o : O11, cs = o.cells ∧ QRd W o.q := by
  obtain ⟨hl, n, hp⟩ := parts_read fieldsOp (by simp) h
  rw [cellsOp] at hl
  match cs, hl with
  | [c0, c1, c2, c3, c4, c5, c6], _ =>
    obtain ⟨y0, h0⟩ := hp 0 3 0 rfl
    obtain ⟨y1, h1⟩ := hp 1 3 1 rfl
    obtain ⟨y2, h2⟩ := hp 2 3 2 rfl
    obtain ⟨y3, h3⟩ := hp 3 3 3 rfl
    obtain ⟨y4, h4⟩ := hp 4 70 4 rfl
    rw [cells3] at h0 h1 h2 h3
    rw [cellsRM] at h4
    obtain ⟨z0, hz0, _, _⟩ := DataW.trod_int int3 h0
    obtain ⟨z1, hz1, _, _⟩ := DataW.trod_int int3 h1
    obtain ⟨z2, hz2, _, _⟩ := DataW.trod_int int3 h2
    obtain ⟨z3, hz3, _, _⟩ := DataW.trod_int int3 h3
    obtain ⟨q, hq, hr⟩ := rmsg_read h4
    simp [QM.cells] at hz0 hz1 hz2 hz3 hq
    obtain ⟨e4, e5, e6⟩ := hq
    subst hz0 hz1 hz2 hz3 e4 e5 e6
    exact ⟨⟨z0, z1, z2, z3, q⟩, rfl, hr⟩
/-- Calls that came in. -/
def OpsAt (W : World) (p : Option Addr) (len : Nat) (os : List O11) : Prop := os.length = len ∧ (0 < len → ∃ g o, p = some ⟨g, o, none⟩ ∧ ∀ j x, os[j]? = some x → (∀ i, i < 7 → W.cell? ⟨g, o + j * 7 + i, none⟩ = x.cells[i]?) ∧ QRd W x.q)
theorem ops11_view {p : Option Addr} {len cap : Nat} {d : DataW H} {ps : List MemPlace} (h : DataW.Trod enc Try.prog W 0 (fun _ => true) true 58 (.slice p len cap) d ps) : ∃ os, OpsAt W p len os ∧ len ≤ maxLen := by
  obtain ⟨fuel, hf⟩ := h
  rcases DataW.trod_slice ops11_s hf with ⟨hcs, hx⟩ | ⟨a, len', cap', elems, rest, n, _, hcs, hx, hb, hlc, hm, hlen, hel, _⟩
  · simp [Value.cells] at hcs
    obtain ⟨rfl, rfl, rfl⟩ := hcs
    exact ⟨[], ⟨rfl, fun h => by omega⟩, Nat.zero_le _⟩
  · simp [Value.cells] at hcs
    obtain ⟨rfl, rfl, rfl⟩ := hcs
    have each : ∀ j, j < len → ∃ q : O11, W.cells? 0 (a.add (j * 7)) 7 = some q.cells ∧ QRd W q.q := by
      intro j hj
      have h1 := hel j hj
      rw [cellsOp] at h1
      have h2 : elems[j]? = some (elems[j]'(by omega)) := List.getElem?_eq_getElem (by omega)
      rw [h2] at h1
      cases hc : W.cells? 0 (a.add (j * 7)) 7 with
      | none => rw [hc] at h1; simp at h1
      | some cs =>
        rw [hc] at h1
        simp only [Option.bind_some] at h1
        obtain ⟨o, rfl, w⟩ := op11_read h1
        exact ⟨o, rfl, w⟩
    have key : ∀ j, ∃ o : O11, j < len → W.cells? 0 (a.add (j * 7)) 7 = some o.cells ∧ QRd W o.q := by
      intro j
      by_cases hj : j < len
      · obtain ⟨o, ho⟩ := each j hj
        exact ⟨o, fun _ => ho⟩
      · exact ⟨⟨0, 0, 0, 0, ⟨⟨0, [], []⟩, .slice none 0 0, .slice none 0 0⟩⟩, fun h => absurd h hj⟩
    obtain ⟨os, hos⟩ : ∃ os : Nat → O11, ∀ j, j < len → W.cells? 0 (a.add (j * 7)) 7 = some (os j).cells ∧ QRd W (os j).q :=
      ⟨fun j => Classical.choose (key j), fun j => Classical.choose_spec (key j)⟩
    refine ⟨(List.range len).map os, ⟨by simp, fun h0 => ?_⟩, by first | omega | (unfold maxLen; omega) | (unfold maxLen at *; omega)⟩
    have cell : ∀ j, j < len → ∀ i, i < 7 → W.cell? ((a.add (j * 7)).add i) = (os j).cells[i]? := by
      intro j hj i hi
      exact (World.cells?_some (hos j hj).1).2.2 i hi
    obtain ⟨b, off, spot⟩ := a
    have hspot : spot = none := by
      have h1 := cell 0 h0 0 (by omega)
      simp only [O11.cells, List.getElem?_cons_zero] at h1
      have h2 := World.cell?_spot h1
      simpa [Addr.add] using h2
    subst hspot
    refine ⟨b, off, rfl, fun j q hq => ?_⟩
    have hj : j < len := by
      have := (List.getElem?_eq_some_iff.1 hq).1
      simpa using this
    have hqe : os j = q := by
      rw [List.getElem?_map, List.getElem?_range hj] at hq
      simpa using hq
    subst hqe
    refine ⟨fun i hi => ?_, (hos j hj).2⟩
    have c := cell j hj i hi
    simp only [add_plain] at c
    exact c
end
end Go.Proofs.Ytpfelgbedeiebaa
