/-
  Merged: CView, CViewM, CViewO, LawSmall, LawPlPast11. No conditions but theirs.
-/
import Derived.Test.YtcbphfpfdfgehaaRows
import Derived.Test.YtcbphfpfdfgehaaCApp
import Derived.WalkKit
import Derived.ProofKit
import Derived.OpenShut
import Derived.Deep.Slices
import Derived.Test.YtcbphfpfdfgehaaCPlA
import Derived.OwnWalk
import Derived.Deep.DeepCutAuto

namespace Go.Proofs.Ytcbphfpfdfgehaa
open Go.ChangeShapes Go.WideShapes Go.ChangeAt Go.RowKit
theorem laidOut : laidOutB Try.prog = true := by kernel_rfl
theorem cells3 : Try.prog.cellsOf 3 = 1 := by kernel_rfl
theorem int3 : Try.prog.underlying 3 = some (.int .i64) := by kernel_rfl
theorem add_plain (b off j : Nat) : (⟨b, off, none⟩ : Addr).add j = ⟨b, off + j, none⟩ := by
  simp [Addr.add]
  try omega
theorem cints_s : Try.prog.underlying 36 = some (.slice 3) := by kernel_rfl
section
variable {H : Type} {enc : TypeId × Value → H} {W : World}
theorem cints_view {p : Option Addr} {len cap : Nat} {d : DataW H} {ps : List MemPlace} (h : DataW.Trod enc Try.prog W 0 (fun _ => true) true 36 (.slice p len cap) d ps) : ∃ zs, zs.length = len ∧ (0 < len → RdI W (.slice p len cap) zs) := by
  obtain ⟨fuel, hf⟩ := h
  simp only [Value.cells] at hf
  rcases open_ints cints_s int3 cells3 hf with ⟨hcs, hx⟩ | ⟨a, len', cap', zs, hcs, _, hl, hm, hz, hx, hcell, hwz⟩
  · simp at hcs
    obtain ⟨rfl, rfl, rfl⟩ := hcs
    exact ⟨[], rfl, fun h => by omega⟩
  · simp at hcs
    obtain ⟨rfl, rfl, rfl⟩ := hcs
    simp only [if_true] at hz
    have hlen : (zs.take len).length = len := by rw [List.length_take]; omega
    refine ⟨zs.take len, hlen, fun h0 => ⟨by rw [icells_len, hlen]; omega, some a, cap, by rw [hlen], (fun h => by cases h), fun a' ha => ?_⟩⟩
    cases ha
    obtain ⟨b, off, spot⟩ := a
    have hspot : spot = none := by simpa [Addr.add] using World.cell?_spot (hcell 0 (by omega))
    subst hspot
    refine ⟨b, off, rfl, fun j hj => ?_⟩
    rw [hlen, Nat.mul_one] at hj
    rw [← add_plain, hcell j (by omega)]
    unfold icells
    rw [List.getElem?_map, List.getElem?_take_of_lt hj, List.getD_eq_getElem?_getD, List.getElem?_eq_getElem (by omega)]
    rfl
end
end Go.Proofs.Ytcbphfpfdfgehaa

namespace Go.Proofs.Ytcbphfpfdfgehaa
open Go.ChangeShapes Go.WideShapes Go.ChangeAt Go.RowKit

def fieldsOf (d : Option TypeDesc) : List (TypeId × Nat) := match d with | some (.struct fs) => fs.toList.map (fun f => (f.type, f.offset)) | _ => []
theorem struct_of {t : TypeId} {l : List (TypeId × Nat)} (hl : fieldsOf (Try.prog.underlying t) = l) (hne : l ≠ []) : ∃ fs, Try.prog.underlying t = some (.struct fs) := by
  unfold fieldsOf at hl
  split at hl
  · rename_i fs hfs; exact ⟨fs, hfs⟩
  · exact absurd hl.symm hne

theorem byte_wf {n : Int} (h : (Lit.int .u8 n).wf = true) : 0 ≤ n ∧ n < 256 := by
  simp [Lit.wf, IntKind.min, IntKind.max, IntKind.signed, IntKind.bits] at h
  omega
section
variable {H : Type} {enc : TypeId × Value → H} {w : World} {base : Nat} {spare : Nat → Bool} {held : Bool}
/-- A struct's parts. -/
theorem parts_read {t : TypeId} {fuel : Nat} {cs : List Value} {x : DataW H × List MemPlace} {l : List (TypeId × Nat)} (hl : fieldsOf (Try.prog.underlying t) = l) (hne : l ≠ [])
    (h : DataW.trod enc Try.prog w base spare held fuel t cs = some x) :
    cs.length = Try.prog.cellsOf t ∧ ∃ n, ∀ (i : Nat) (ty : TypeId) (off : Nat), l[i]? = some (ty, off) → ∃ y, DataW.trod enc Try.prog w base spare held n ty ((cs.drop off).take (Try.prog.cellsOf ty)) = some y := by
  unfold fieldsOf at hl
  split at hl
  · rename_i fs hfs
    obtain ⟨xs, n, _, _, hlen, hxl, hf⟩ := DataW.trod_struct hfs h
    refine ⟨hlen, n, fun i ty off hi => ?_⟩
    rw [← hl] at hi
    simp only [List.getElem?_map, Array.getElem?_toList] at hi
    cases hfi : fs[i]? with
    | none => rw [hfi] at hi; simp at hi
    | some f =>
      rw [hfi] at hi
      simp only [Option.map_some, Option.some.injEq, Prod.mk.injEq] at hi
      have h4 := hf i f hfi
      rw [hi.1, hi.2] at h4
      have hlt := (Array.getElem?_eq_some_iff.1 hfi).1
      rw [List.getElem?_eq_getElem (by omega)] at h4
      exact ⟨_, h4⟩
  · exact absurd hl.symm hne

end
theorem cells5 : Try.prog.cellsOf 5 = 1 := by kernel_rfl
theorem u85 : Try.prog.underlying 5 = some (.int .u8) := by kernel_rfl
theorem cellsB : Try.prog.cellsOf 35 = 1 := by kernel_rfl
theorem cellsI : Try.prog.cellsOf 36 = 1 := by kernel_rfl
theorem cellsRM : Try.prog.cellsOf 38 = 3 := by kernel_rfl
theorem rmsgs_s : Try.prog.underlying 28 = some (.slice 38) := by kernel_rfl
theorem fieldsRM : fieldsOf (Try.prog.underlying 38) = [(3, 0), (35, 1), (36, 2)] := by kernel_rfl
/-- A message that came in. -/
def QRd (w : World) (q : QM) : Prop := RzB w q.vd q.m.d ∧ RzI w q.vh q.m.h
theorem QRd.past {w w' : World} {q : QM} (h : QRd w q) (t : Turn NoBlock w w') : QRd w' q := ⟨h.1.past t, h.2.past t⟩
section
variable {H : Type} {enc : TypeId × Value → H} {W : World}
theorem cbytes_read {fuel : Nat} {cs : List Value} {x : DataW H × List MemPlace} (h : DataW.trod enc Try.prog W 0 (fun _ => true) true fuel 35 cs = some x) :
    ∃ v xs, cs = [v] ∧ RzB W v xs := by
  rcases open_ints ch_bytes u85 cells5 h with ⟨hcs, hx⟩ | ⟨a, len', cap', zs, hcs, _, hl, hm, hz, hx, hcell, hwz⟩
  · exact ⟨_, [], hcs, ⟨none, 0, rfl⟩, fun _ => rfl, fun h => by simp at h⟩
  · simp only [if_true] at hz
    have hbl : ((zs.take len').map (fun z => UInt8.ofNat z.toNat)).length = len' := by simp; omega
    refine ⟨_, (zs.take len').map (fun z => UInt8.ofNat z.toNat), hcs, ⟨some a, cap', by rw [hbl]⟩, fun h0 => ?_, fun h0 => ?_⟩
    · rw [List.eq_nil_of_length_eq_zero h0]; rfl
    · rw [hbl] at h0
      obtain ⟨b, off, spot⟩ := a
      have hspot : spot = none := by simpa [Addr.add] using World.cell?_spot (hcell 0 (by omega))
      subst hspot
      refine ⟨by rw [bcells_len]; omega, _, cap', by rw [hbl], (fun h => by cases h), fun a' ha => ?_⟩
      cases ha
      refine ⟨b, off, rfl, fun j hj => ?_⟩
      rw [hbl, Nat.mul_one] at hj
      have hjz : j < zs.length := by omega
      rw [← add_plain, hcell j (by omega)]
      have hw := byte_wf (hwz zs[j] (List.getElem_mem hjz))
      unfold bcells
      simp only [List.getD, List.getElem?_eq_getElem hjz, List.getElem?_map, List.getElem?_take, if_pos hj, Option.map_some, Option.getD_some]
      congr 2
      rw [UInt8.toNat_ofNat']
      omega
theorem cints_read {fuel : Nat} {cs : List Value} {x : DataW H × List MemPlace} (h : DataW.trod enc Try.prog W 0 (fun _ => true) true fuel 36 cs = some x) :
    ∃ v xs, cs = [v] ∧ RzI W v xs := by
  rcases open_ints cints_s int3 cells3 h with ⟨hcs, hx⟩ | ⟨a, len', cap', zs, hcs, _, hl, hm, hz, hx, hcell, hwz⟩
  · exact ⟨_, [], hcs, ⟨none, 0, rfl⟩, fun _ => rfl, fun h => by simp at h⟩
  · simp only [if_true] at hz
    have hbl : (zs.take len').length = len' := by rw [List.length_take]; omega
    refine ⟨_, zs.take len', hcs, ⟨some a, cap', by rw [hbl]⟩, fun h0 => ?_, fun h0 => ?_⟩
    · rw [List.eq_nil_of_length_eq_zero h0]; rfl
    · rw [hbl] at h0
      obtain ⟨b, off, spot⟩ := a
      have hspot : spot = none := by simpa [Addr.add] using World.cell?_spot (hcell 0 (by omega))
      subst hspot
      refine ⟨by rw [icells_len]; omega, _, cap', by rw [hbl], (fun h => by cases h), fun a' ha => ?_⟩
      cases ha
      refine ⟨b, off, rfl, fun j hj => ?_⟩
      rw [hbl, Nat.mul_one] at hj
      rw [← add_plain, hcell j (by omega)]
      unfold icells
      rw [List.getElem?_map, List.getElem?_take_of_lt hj, List.getD_eq_getElem?_getD, List.getElem?_eq_getElem (by omega)]
      rfl
set_option maxRecDepth 100000 in
theorem rmsg_read {fuel : Nat} {cs : List Value} {x : DataW H × List MemPlace} (h : DataW.trod enc Try.prog W 0 (fun _ => true) true fuel 38 cs = some x) :
    ∃ q : QM, cs = q.cells ∧ QRd W q := by
  obtain ⟨hl, n, hp⟩ := parts_read fieldsRM (by simp) h
  rw [cellsRM] at hl
  match cs, hl with
  | [c0, c1, c2], _ =>
    obtain ⟨y0, h0⟩ := hp 0 3 0 rfl
    obtain ⟨y1, h1⟩ := hp 1 35 1 rfl
    obtain ⟨y2, h2⟩ := hp 2 36 2 rfl
    rw [cells3] at h0
    rw [cellsB] at h1
    rw [cellsI] at h2
    obtain ⟨z0, hz0, _, _⟩ := DataW.trod_int int3 h0
    obtain ⟨v1, d, e1, r1⟩ := cbytes_read h1
    obtain ⟨v2, hh, e2, r2⟩ := cints_read h2
    simp at hz0 e1 e2
    subst hz0 e1 e2
    exact ⟨⟨⟨z0, d, hh⟩, _, _⟩, rfl, r1, r2⟩
/-- Messages that came in. -/
def MsgsAt (W : World) (p : Option Addr) (len : Nat) (ms : List QM) : Prop := ms.length = len ∧ (0 < len → ∃ g o, p = some ⟨g, o, none⟩ ∧ ∀ j q, ms[j]? = some q → (∀ i, i < 3 → W.cell? ⟨g, o + j * 3 + i, none⟩ = q.cells[i]?) ∧ QRd W q)
theorem rmsgs_view {p : Option Addr} {len cap : Nat} {d : DataW H} {ps : List MemPlace} (h : DataW.Trod enc Try.prog W 0 (fun _ => true) true 28 (.slice p len cap) d ps) : ∃ ms, MsgsAt W p len ms := by
  obtain ⟨fuel, hf⟩ := h
  rcases DataW.trod_slice rmsgs_s hf with ⟨hcs, hx⟩ | ⟨a, len', cap', elems, rest, n, _, hcs, hx, hb, hlc, hm, hlen, hel, _⟩
  · simp [Value.cells] at hcs
    obtain ⟨rfl, rfl, rfl⟩ := hcs
    exact ⟨[], rfl, fun h => by omega⟩
  · simp [Value.cells] at hcs
    obtain ⟨rfl, rfl, rfl⟩ := hcs
    have each : ∀ j, j < len → ∃ q : QM, W.cells? 0 (a.add (j * 3)) 3 = some q.cells ∧ QRd W q := by
      intro j hj
      have h1 := hel j hj
      rw [cellsRM] at h1
      have h2 : elems[j]? = some (elems[j]'(by omega)) := List.getElem?_eq_getElem (by omega)
      rw [h2] at h1
      cases hc : W.cells? 0 (a.add (j * 3)) 3 with
      | none => rw [hc] at h1; simp at h1
      | some cs =>
        rw [hc] at h1
        simp only [Option.bind_some] at h1
        obtain ⟨o, rfl, w⟩ := rmsg_read h1
        exact ⟨o, rfl, w⟩
    have key : ∀ j, ∃ o : QM, j < len → W.cells? 0 (a.add (j * 3)) 3 = some o.cells ∧ QRd W o := by
      intro j
      by_cases hj : j < len
      · obtain ⟨o, ho⟩ := each j hj
        exact ⟨o, fun _ => ho⟩
      · exact ⟨⟨⟨0, [], []⟩, .slice none 0 0, .slice none 0 0⟩, fun h => absurd h hj⟩
    obtain ⟨os, hos⟩ : ∃ os : Nat → QM, ∀ j, j < len → W.cells? 0 (a.add (j * 3)) 3 = some (os j).cells ∧ QRd W (os j) :=
      ⟨fun j => Classical.choose (key j), fun j => Classical.choose_spec (key j)⟩
    refine ⟨(List.range len).map os, by simp, fun h0 => ?_⟩
    have cell : ∀ j, j < len → ∀ i, i < 3 → W.cell? ((a.add (j * 3)).add i) = (os j).cells[i]? := by
      intro j hj i hi
      exact (World.cells?_some (hos j hj).1).2.2 i hi
    obtain ⟨b, off, spot⟩ := a
    have hspot : spot = none := by
      have h1 := cell 0 h0 0 (by omega)
      simp only [QM.cells, List.getElem?_cons_zero] at h1
      have h2 := World.cell?_spot h1
      simpa [Addr.add] using h2
    subst hspot
    refine ⟨b, off, rfl, fun j q hq => ?_⟩
    have hj : j < len := by
      have := (List.getElem?_eq_some_iff.1 hq).1
      simpa using this
    have hqe : os j = q := by
      rw [List.getElem?_map, List.getElem?_range hj] at hq
      simpa using hq
    subst hqe
    refine ⟨fun i hi => ?_, (hos j hj).2⟩
    have c := cell j hj i hi
    simp only [add_plain] at c
    exact c
end
end Go.Proofs.Ytcbphfpfdfgehaa

namespace Go.Proofs.Ytcbphfpfdfgehaa
open Go.ChangeShapes Go.WideShapes Go.ChangeAt Go.RowKit

/-- One call that came in. -/
structure O11 where
  kind : Int
  en : Int
  n : Int
  k : Int
  q : QM
def O11.cells (o : O11) : List Value := [.int .i64 o.kind, .int .i64 o.en, .int .i64 o.n, .int .i64 o.k, .int .i64 o.q.m.tx, o.q.vd, o.q.vh]
theorem cellsOp : Try.prog.cellsOf 40 = 7 := by kernel_rfl
theorem ops11_s : Try.prog.underlying 22 = some (.slice 40) := by kernel_rfl
theorem fieldsOp : fieldsOf (Try.prog.underlying 40) = [(3, 0), (3, 1), (3, 2), (3, 3), (38, 4)] := by kernel_rfl
section
variable {H : Type} {enc : TypeId × Value → H} {W : World}
set_option maxRecDepth 100000 in
theorem op11_read {fuel : Nat} {cs : List Value} {x : DataW H × List MemPlace} (h : DataW.trod enc Try.prog W 0 (fun _ => true) true fuel 40 cs = some x) :
    ∃ o : O11, cs = o.cells ∧ QRd W o.q := by
  obtain ⟨hl, n, hp⟩ := parts_read fieldsOp (by simp) h
  rw [cellsOp] at hl
  match cs, hl with
  | [c0, c1, c2, c3, c4, c5, c6], _ =>
    obtain ⟨y0, h0⟩ := hp 0 3 0 rfl
    obtain ⟨y1, h1⟩ := hp 1 3 1 rfl
    obtain ⟨y2, h2⟩ := hp 2 3 2 rfl
    obtain ⟨y3, h3⟩ := hp 3 3 3 rfl
    obtain ⟨y4, h4⟩ := hp 4 38 4 rfl
    rw [cells3] at h0 h1 h2 h3
    rw [cellsRM] at h4
    obtain ⟨z0, hz0, _, _⟩ := DataW.trod_int int3 h0
    obtain ⟨z1, hz1, _, _⟩ := DataW.trod_int int3 h1
    obtain ⟨z2, hz2, _, _⟩ := DataW.trod_int int3 h2
    obtain ⟨z3, hz3, _, _⟩ := DataW.trod_int int3 h3
    obtain ⟨q, hq, hr⟩ := rmsg_read h4
    simp [QM.cells] at hz0 hz1 hz2 hz3 hq
    obtain ⟨e4, e5, e6⟩ := hq
    subst hz0 hz1 hz2 hz3 e4 e5 e6
    exact ⟨⟨z0, z1, z2, z3, q⟩, rfl, hr⟩
/-- Calls that came in. -/
def OpsAt (W : World) (p : Option Addr) (len : Nat) (os : List O11) : Prop := os.length = len ∧ (0 < len → ∃ g o, p = some ⟨g, o, none⟩ ∧ ∀ j x, os[j]? = some x → (∀ i, i < 7 → W.cell? ⟨g, o + j * 7 + i, none⟩ = x.cells[i]?) ∧ QRd W x.q)
theorem ops11_view {p : Option Addr} {len cap : Nat} {d : DataW H} {ps : List MemPlace} (h : DataW.Trod enc Try.prog W 0 (fun _ => true) true 22 (.slice p len cap) d ps) : ∃ os, OpsAt W p len os ∧ len ≤ maxLen := by
  obtain ⟨fuel, hf⟩ := h
  rcases DataW.trod_slice ops11_s hf with ⟨hcs, hx⟩ | ⟨a, len', cap', elems, rest, n, _, hcs, hx, hb, hlc, hm, hlen, hel, _⟩
  · simp [Value.cells] at hcs
    obtain ⟨rfl, rfl, rfl⟩ := hcs
    exact ⟨[], ⟨rfl, fun h => by omega⟩, Nat.zero_le _⟩
  · simp [Value.cells] at hcs
    obtain ⟨rfl, rfl, rfl⟩ := hcs
    have each : ∀ j, j < len → ∃ q : O11, W.cells? 0 (a.add (j * 7)) 7 = some q.cells ∧ QRd W q.q := by
      intro j hj
      have h1 := hel j hj
      rw [cellsOp] at h1
      have h2 : elems[j]? = some (elems[j]'(by omega)) := List.getElem?_eq_getElem (by omega)
      rw [h2] at h1
      cases hc : W.cells? 0 (a.add (j * 7)) 7 with
      | none => rw [hc] at h1; simp at h1
      | some cs =>
        rw [hc] at h1
        simp only [Option.bind_some] at h1
        obtain ⟨o, rfl, w⟩ := op11_read h1
        exact ⟨o, rfl, w⟩
    have key : ∀ j, ∃ o : O11, j < len → W.cells? 0 (a.add (j * 7)) 7 = some o.cells ∧ QRd W o.q := by
      intro j
      by_cases hj : j < len
      · obtain ⟨o, ho⟩ := each j hj
        exact ⟨o, fun _ => ho⟩
      · exact ⟨⟨0, 0, 0, 0, ⟨⟨0, [], []⟩, .slice none 0 0, .slice none 0 0⟩⟩, fun h => absurd h hj⟩
    obtain ⟨os, hos⟩ : ∃ os : Nat → O11, ∀ j, j < len → W.cells? 0 (a.add (j * 7)) 7 = some (os j).cells ∧ QRd W (os j).q :=
      ⟨fun j => Classical.choose (key j), fun j => Classical.choose_spec (key j)⟩
    refine ⟨(List.range len).map os, ⟨by simp, fun h0 => ?_⟩, by first | omega | (unfold maxLen; omega) | (unfold maxLen at *; omega)⟩
    have cell : ∀ j, j < len → ∀ i, i < 7 → W.cell? ((a.add (j * 7)).add i) = (os j).cells[i]? := by
      intro j hj i hi
      exact (World.cells?_some (hos j hj).1).2.2 i hi
    obtain ⟨b, off, spot⟩ := a
    have hspot : spot = none := by
      have h1 := cell 0 h0 0 (by omega)
      simp only [O11.cells, List.getElem?_cons_zero] at h1
      have h2 := World.cell?_spot h1
      simpa [Addr.add] using h2
    subst hspot
    refine ⟨b, off, rfl, fun j q hq => ?_⟩
    have hj : j < len := by
      have := (List.getElem?_eq_some_iff.1 hq).1
      simpa using this
    have hqe : os j = q := by
      rw [List.getElem?_map, List.getElem?_range hj] at hq
      simpa using hq
    subst hqe
    refine ⟨fun i hi => ?_, (hos j hj).2⟩
    have c := cell j hj i hi
    simp only [add_plain] at c
    exact c
end
end Go.Proofs.Ytcbphfpfdfgehaa

namespace Go.Proofs.Ytcbphfpfdfgehaa
open Go.ChangeShapes Go.WideShapes Go.ChangeAt Go.RowKit

def O11.ok (o : O11) : Prop := o.q.m.d.length ≤ 300 ∧ o.q.m.h.length ≤ 80
theorem op_cells {w : World} {g o j : Nat} {x : O11} (h : ∀ i, i < 7 → w.cell? ⟨g, o + j * 7 + i, none⟩ = x.cells[i]?) : w.cell? ⟨g, o + j * 7, none⟩ = some (.int .i64 x.kind) ∧ w.cell? ⟨g, o + j * 7 + 1, none⟩ = some (.int .i64 x.en) ∧ w.cell? ⟨g, o + j * 7 + 2, none⟩ = some (.int .i64 x.n) ∧ w.cell? ⟨g, o + j * 7 + 3, none⟩ = some (.int .i64 x.k) ∧ w.cell? ⟨g, o + j * 7 + 4, none⟩ = some (.int .i64 x.q.m.tx) ∧ w.cell? ⟨g, o + j * 7 + 5, none⟩ = some x.q.vd ∧ w.cell? ⟨g, o + j * 7 + 6, none⟩ = some x.q.vh :=
  ⟨h 0 (by omega), h 1 (by omega), h 2 (by omega), h 3 (by omega), h 4 (by omega), h 5 (by omega), h 6 (by omega)⟩
set_option maxRecDepth 20000 in
set_option maxHeartbeats 4000000 in
theorem small_any (p : Option Addr) (len cap : Nat) (os : List O11) (most : Nat) (w : World) (b : Bool) (hl : len ≤ maxLen) (hm : most ≤ 1000) (ho : OpsAt w p len os) (hb : (b = true ∧ (∀ o ∈ os, o.ok) ∧ len ≤ most) ∨ (b = false ∧ ((∃ o ∈ os, ¬ o.ok) ∨ most < len))) :
    Calls Try.prog 11 #[.slice p len cap, .int .i64 (most : Int)] w fun e w' => e = .returned (.bool b) ∧ Turn NoBlock w w' := by
  have HO := Lib.hid ho
  have HB := Lib.hid hb
  unfold maxLen at hl
  have hli : (len : Int) ≤ 9223372036854775807 := by omega
  have HM := Lib.hid hm
  clear ho hb hm hl
  go_enter Try.func11, Try.ntmps11
  go_wp2
  go_loopg [9] len (fun g s9 wr => ∃ (j : Nat), j ≤ len ∧ g = len - j ∧ s9 = .int .i64 j ∧ Hid (Turn NoBlock w wr ∧ ∀ o ∈ os.take j, o.ok))
  case atStart => exact ⟨0, by omega, by omega, rfl, Lib.hid ⟨Turn.refl _ _, fun o ho => by cases ho⟩⟩
  case round =>
    obtain ⟨j, hj, hg, rfl, HT⟩ := hrel
    by_cases hlt : j < len
    · obtain ⟨g0, o0, rfl, hcell⟩ := HO.out.2 (by omega)
      have hjl : j < os.length := by rw [HO.out.1]; exact hlt
      obtain ⟨x, hx⟩ : ∃ x, os[j]? = some x := ⟨_, List.getElem?_eq_getElem hjl⟩
      obtain ⟨hcs, hqr⟩ := hcell j x hx
      obtain ⟨d0, d1, d2, d3, d4, d5, d6⟩ := op_cells (fun i hi => (show wr.cell? ⟨g0, o0 + j * 7 + i, none⟩ = x.cells[i]? by
        have h1 := hcs i hi
        have h2 : i < x.cells.length := hi
        rw [List.getElem?_eq_getElem h2] at h1 ⊢
        exact HT.out.1.cell h1 (fun h => h)))
      have HX := Lib.hid hx
      obtain ⟨kind, en, n, k, ⟨⟨tx, d, hh⟩, vd, vh⟩⟩ := x
      obtain ⟨pd, cd, hvd⟩ := hqr.1.sl
      obtain ⟨ph, ch, hvh⟩ := hqr.2.sl
      dsimp only at hvd hvh d0 d1 d2 d3 d4 d5 d6
      subst hvd hvh
      clear hcell hcs hx hqr
      have hbad : ¬ (d.length ≤ 300 ∧ hh.length ≤ 80) → b = false := fun hn => by
        rcases HB.out with h | h
        · exact absurd (h.2.1 _ (List.mem_of_getElem? HX.out)) hn
        · exact h.1
      have three : (300 : Int) < ((d.length : Nat) : Int) ∨ (¬ (300 : Int) < ((d.length : Nat) : Int) ∧ (80 : Int) < ((hh.length : Nat) : Int)) ∨ (¬ (300 : Int) < ((d.length : Nat) : Int) ∧ ¬ (80 : Int) < ((hh.length : Nat) : Int)) := by omega
      rcases three with h1 | ⟨h1, h2⟩ | ⟨h1, h2⟩
      · have HBF := Lib.hid (hbad (by omega))
        clear hbad hjl
        go_wp2
        go_ret
        exact ⟨by rw [HBF.out]; rfl, HT.out.1.alloc _⟩
      · have HBF := Lib.hid (hbad (by omega))
        clear hbad hjl
        go_wp2
        go_ret
        exact ⟨by rw [HBF.out]; rfl, HT.out.1.alloc _⟩
      · have hok := Lib.hid (show ∀ o ∈ os.take (j + 1), o.ok from fun o ho => by
          rw [List.take_add_one, HX.out] at ho
          rcases List.mem_append.1 ho with h | h
          · exact HT.out.2 o h
          · simp at h; subst h; exact ⟨by dsimp only; omega, by dsimp only; omega⟩)
        clear hbad hjl
        go_wp2
        go_roundg (len - (j + 1))
        case measure => omega
        case rel => exact ⟨j + 1, by omega, by omega, by go_num, Lib.hid ⟨HT.out.1.alloc _, hok.out⟩⟩
    · obtain rfl : j = len := by omega
      have hb2 : (b = true ∧ (j : Int) ≤ most) ∨ (b = false ∧ (most : Int) < j) := by
        rcases HB.out with h | h
        · exact .inl ⟨h.1, by omega⟩
        · refine .inr ⟨h.1, ?_⟩
          rcases h.2 with ⟨o, h1, h2⟩ | h2
          · exact absurd (HT.out.2 o (by rw [List.take_of_length_le (by rw [HO.out.1]; omega)]; exact h1)) h2
          · omega
      clear HB
      rcases hb2 with ⟨rfl, h1⟩ | ⟨rfl, h1⟩
      · go_wp2
        go_ret
        exact ⟨by simp, HT.out.1⟩
      · go_wp2
        go_ret
        exact ⟨by simp; omega, HT.out.1⟩
end Go.Proofs.Ytcbphfpfdfgehaa

namespace Go.Proofs.Ytcbphfpfdfgehaa
open Go.ChangeShapes Go.WideShapes Go.ChangeAt Go.RowKit

set_option maxRecDepth 20000 in
set_option maxHeartbeats 4000000 in
theorem plays_past11 (depth : Int) (p : Option Addr) (len cap : Nat) (os : List O11) (w : World) (hl : len ≤ maxLen) (ho : OpsAt w p len os) (h : (depth < 1 ∨ 65536 < depth) ∨ (1 ≤ depth ∧ depth ≤ 65536 ∧ ((∃ o ∈ os, ¬ o.ok) ∨ 80 < len))) :
    Calls Try.prog 3 #[.int .i64 depth, .slice p len cap] w fun e w' => e = .returned (.bool true) ∧ Turn NoBlock w w' := by
  have cA := Lib.hid awake11
  rcases h with h | ⟨h1, h2, h3⟩
  · have c1 := Lib.hid (new_no depth w h)
    have two : depth < 1 ∨ (¬ depth < 1 ∧ 65536 < depth) := by omega
    clear h ho hl
    rcases two with h1 | ⟨h1, h2⟩
    all_goals
      go_enter Try.func3, Try.ntmps3
      go_wp2_with (first
        | (go_at_call 9; (with_reducible refine c1.out.mono ?_); rintro e w1 ⟨rfl, rfl⟩)
        | (go_at_call 10; (with_reducible refine (cA.out _).mono ?_); rintro e w2 ⟨rfl, t2⟩))
      go_ret
      exact ⟨rfl, t2⟩
  · obtain ⟨r, rfl⟩ : ∃ r : Nat, depth = r := ⟨depth.toNat, by omega⟩
    have c1 := Lib.hid (cst_new r w (by omega) (by omega))
    have CS := Lib.hid (fun W (t : Turn NoBlock w W) => show Calls Try.prog 11 #[.slice p len cap, .int .i64 80] W _ from small_any p len cap os 80 W false hl (by omega) (show OpsAt W p len os from ⟨ho.1, fun h0 => by
      obtain ⟨g, o, h4, h5⟩ := ho.2 h0
      refine ⟨g, o, h4, fun j x hx => ⟨fun i hi => ?_, (h5 j x hx).2.past t⟩⟩
      have h6 := (h5 j x hx).1 i hi
      have h7 : i < x.cells.length := hi
      rw [List.getElem?_eq_getElem h7] at h6 ⊢
      exact t.cell h6 (fun h => h)⟩) (.inr ⟨rfl, h3⟩))
    have h0 : 0 < len := by
      rcases h3 with ⟨o, ho1, _⟩ | h
      · rw [← ho.1]; exact List.length_pos_of_mem ho1
      · omega
    have hi0 : (0 : Int) < len := by omega
    have hdl : decide (0 < len) = true := decide_eq_true h0
    have g1 : ¬ (r : Int) < 1 := by omega
    have g2 : ¬ (65536 : Int) < r := by omega
    clear h1 h2 h3 ho hl h0
    go_enter Try.func3, Try.ntmps3
    go_wp2_with (first
      | (go_at_call 9; (with_reducible refine c1.out.mono ?_); rintro e w1 ⟨rfl, k1⟩; have K1 := Lib.hid k1; clear k1)
      | (go_at_call 11; (with_reducible refine (CS.out _ K1.out.turn).mono ?_); rintro e w3 ⟨rfl, t3⟩; have T3 := Lib.hid (TT K1.out.turn t3); clear t3)
      | (go_at_call 10; (with_reducible refine (cA.out _).mono ?_); rintro e w2 ⟨rfl, t2⟩))
    go_ret
    exact ⟨by simp, TT T3.out t2⟩
end Go.Proofs.Ytcbphfpfdfgehaa
