/-
  How messages among channel's laws' arguments are read. No conditions.
-/
import Derived.Test.YtpfelgbedeiebaaCView
import Derived.Test.YtpfelgbedeiebaaCSame
namespace Go.Proofs.Ytpfelgbedeiebaa
open Go.ChangeShapes Go.WideShapes Go.ChangeAt Go.RowKit

def fieldsOf (d : Option TypeDesc) : List (TypeId × Nat) := match d with | some (.struct fs) => fs.toList.map (fun f => (f.type, f.offset)) | _ => []
theorem struct_of {t : TypeId} {l : List (TypeId × Nat)} (hl : fieldsOf (Try.prog.underlying t) = l) (hne : l ≠ []) : ∃ fs, Try.prog.underlying t = some (.struct fs) := by
  unfold fieldsOf at hl
  split at hl
  · rename_i fs hfs; exact ⟨fs, hfs⟩
  · exact absurd hl.symm hne

theorem byte_wf {n : Int} (h : (Lit.int .u8 n).wf = true) : 0 ≤ n ∧ n < 256 := by
  simp [Lit.wf, IntKind.min, IntKind.max, IntKind.signed, IntKind.bits] at h
  omega
section
variable {H : Type} {enc : TypeId × Value → H} {w : World} {base : Nat} {spare : Nat → Bool} {held : Bool}
/-- A struct's parts. -/
theorem parts_read {t : TypeId} {fuel : Nat} {cs : List Value} {x : DataW H × List MemPlace} {l : List (TypeId × Nat)} (hl : fieldsOf (Try.prog.underlying t) = l) (hne : l ≠ [])
    (h : DataW.trod enc Try.prog w base spare held fuel t cs = some x) :
    cs.length = Try.prog.cellsOf t ∧ ∃ n, ∀ (i : Nat) (ty : TypeId) (off : Nat), l[i]? = some (ty, off) → ∃ y, DataW.trod enc Try.prog w base spare held n ty ((cs.drop off).take (Try.prog.cellsOf ty)) = some y := by
  unfold fieldsOf at hl
  split at hl
  · rename_i fs hfs
    obtain ⟨xs, n, _, _, hlen, hxl, hf⟩ := DataW.trod_struct hfs h
    refine ⟨hlen, n, fun i ty off hi => ?_⟩
    rw [← hl] at hi
    simp only [List.getElem?_map, Array.getElem?_toList] at hi
    cases hfi : fs[i]? with
    | none => rw [hfi] at hi; simp at hi
    | some f =>
      rw [hfi] at hi
      simp only [Option.map_some, Option.some.injEq, Prod.mk.injEq] at hi
      have h4 := hf i f hfi
      rw [hi.1, hi.2] at h4
      have hlt := (Array.getElem?_eq_some_iff.1 hfi).1
      rw [List.getElem?_eq_getElem (by omega)] at h4
      exact ⟨_, h4⟩
  · exact absurd hl.symm hne

end
theorem cells5 : Try.prog.cellsOf 5 = 1 := by kernel_rfl
theorem u85 : Try.prog.underlying 5 = some (.int .u8) := by kernel_rfl
theorem cellsB : Try.prog.cellsOf 32 = 1 := by kernel_rfl
theorem cellsI : Try.prog.cellsOf 53 = 1 := by kernel_rfl
theorem cellsRM : Try.prog.cellsOf 70 = 3 := by kernel_rfl
theorem rmsgs_s : Try.prog.underlying 63 = some (.slice 70) := by kernel_rfl
theorem fieldsRM : fieldsOf (Try.prog.underlying 70) = [(3, 0), (32, 1), (53, 2)] := by kernel_rfl
/-- A message that came in. -/
def QRd (w : World) (q : QM) : Prop := RzB w q.vd q.m.d ∧ RzI w q.vh q.m.h
theorem QRd.past {w w' : World} {q : QM} (h : QRd w q) (t : Turn NoBlock w w') : QRd w' q := ⟨h.1.past t, h.2.past t⟩
section
variable {H : Type} {enc : TypeId × Value → H} {W : World}
theorem cbytes_read {fuel : Nat} {cs : List Value} {x : DataW H × List MemPlace} (h : DataW.trod enc Try.prog W 0 (fun _ => true) true fuel 32 cs = some x) :
    ∃ v xs, cs = [v] ∧ RzB W v xs := by
  rcases open_ints ch_bytes u85 cells5 h with ⟨hcs, hx⟩ | ⟨a, len', cap', zs, hcs, _, hl, hm, hz, hx, hcell, hwz⟩
  · exact ⟨_, [], hcs, ⟨none, 0, rfl⟩, fun _ => rfl, fun h => by simp at h⟩
  · simp only [if_true] at hz
    have hbl : ((zs.take len').map (fun z => UInt8.ofNat z.toNat)).length = len' := by simp; omega
    refine ⟨_, (zs.take len').map (fun z => UInt8.ofNat z.toNat), hcs, ⟨some a, cap', by rw [hbl]⟩, fun h0 => ?_, fun h0 => ?_⟩
    · rw [List.eq_nil_of_length_eq_zero h0]; rfl
    · rw [hbl] at h0
      obtain ⟨b, off, spot⟩ := a
      have hspot : spot = none := by simpa [Addr.add] using World.cell?_spot (hcell 0 (by omega))
      subst hspot
      refine ⟨by rw [bcells_len]; omega, _, cap', by rw [hbl], (fun h => by cases h), fun a' ha => ?_⟩
      cases ha
      refine ⟨b, off, rfl, fun j hj => ?_⟩
      rw [hbl, Nat.mul_one] at hj
      have hjz : j < zs.length := by omega
      rw [← add_plain, hcell j (by omega)]
      have hw := byte_wf (hwz zs[j] (List.getElem_mem hjz))
      unfold bcells
      simp only [List.getD, List.getElem?_eq_getElem hjz, List.getElem?_map, List.getElem?_take, if_pos hj, Option.map_some, Option.getD_some]
      congr 2
      rw [UInt8.toNat_ofNat']
      omega
theorem cints_read {fuel : Nat} {cs : List Value} {x : DataW H × List MemPlace} (h : DataW.trod enc Try.prog W 0 (fun _ => true) true fuel 53 cs = some x) :
    ∃ v xs, cs = [v] ∧ RzI W v xs := by
  rcases open_ints cints_s int3 cells3 h with ⟨hcs, hx⟩ | ⟨a, len', cap', zs, hcs, _, hl, hm, hz, hx, hcell, hwz⟩
  · exact ⟨_, [], hcs, ⟨none, 0, rfl⟩, fun _ => rfl, fun h => by simp at h⟩
  · simp only [if_true] at hz
    have hbl : (zs.take len').length = len' := by rw [List.length_take]; omega
    refine ⟨_, zs.take len', hcs, ⟨some a, cap', by rw [hbl]⟩, fun h0 => ?_, fun h0 => ?_⟩
    · rw [List.eq_nil_of_length_eq_zero h0]; rfl
    · rw [hbl] at h0
      obtain ⟨b, off, spot⟩ := a
      have hspot : spot = none := by simpa [Addr.add] using World.cell?_spot (hcell 0 (by omega))
      subst hspot
      refine ⟨by rw [icells_len]; omega, _, cap', by rw [hbl], (fun h => by cases h), fun a' ha => ?_⟩
      cases ha
      refine ⟨b, off, rfl, fun j hj => ?_⟩
      rw [hbl, Nat.mul_one] at hj
      rw [← add_plain, hcell j (by omega)]
      unfold icells
      rw [List.getElem?_map, List.getElem?_take_of_lt hj, List.getD_eq_getElem?_getD, List.getElem?_eq_getElem (by omega)]
      rfl
set_option maxRecDepth 100000 in
theorem rmsg_read {fuel : Nat} {cs : List Value} {x : DataW H × List MemPlace} (h : DataW.trod enc Try.prog W 0 (fun _ => true) true fuel 70 cs = some x) :
    ∃ q : QM, cs = q.cells ∧ QRd W q := by
  obtain ⟨hl, n, hp⟩ := parts_read fieldsRM (by simp) h
  rw [cellsRM] at hl
  match cs, hl with
  | [c0, c1, c2], _ =>
    obtain ⟨y0, h0⟩ := hp 0 3 0 rfl
    obtain ⟨y1, h1⟩ := hp 1 32 1 rfl
    obtain ⟨y2, h2⟩ := hp 2 53 2 rfl
    rw [cells3] at h0
    rw [cellsB] at h1
    rw [cellsI] at h2
    obtain ⟨z0, hz0, _, _⟩ := DataW.trod_int int3 h0
    obtain ⟨v1, d, e1, r1⟩ := cbytes_read h1
    obtain ⟨v2, hh, e2, r2⟩ := cints_read h2
    simp at hz0 e1 e2
    subst hz0 e1 e2
    exact ⟨⟨⟨z0, d, hh⟩, _, _⟩, rfl, r1, r2⟩
/-- Messages that came in. -/
def MsgsAt (W : World) (p : Option Addr) (len : Nat) (ms : List QM) : Prop := ms.length = len ∧ (0 < len → ∃ g o, p = some ⟨g, o, none⟩ ∧ ∀ j q, ms[j]? = some q → (∀ i, i < 3 → W.cell? ⟨g, o + j * 3 + i, none⟩ = q.cells[i]?) ∧ QRd W q)
theorem rmsgs_view {p : Option Addr} {len cap : Nat} {d : DataW H} {ps : List MemPlace} (h : DataW.Trod enc Try.prog W 0 (fun _ => true) true 63 (.slice p len cap) d ps) : ∃ ms, MsgsAt W p len ms := by
  obtain ⟨fuel, hf⟩ := h
  rcases DataW.trod_slice rmsgs_s hf with ⟨hcs, hx⟩ | ⟨a, len', cap', elems, rest, n, _, hcs, hx, hb, hlc, hm, hlen, hel, _⟩
  · simp [Value.cells] at hcs
    obtain ⟨rfl, rfl, rfl⟩ := hcs
    exact ⟨[], rfl, fun h => by omega⟩
  · simp [Value.cells] at hcs
    obtain ⟨rfl, rfl, rfl⟩ := hcs
    have each : ∀ j, j < len → ∃ q : QM, W.cells? 0 (a.add (j * 3)) 3 = some q.cells ∧ QRd W q := by
      intro j hj
      have h1 := hel j hj
      rw [cellsRM] at h1
      have h2 : elems[j]? = some (elems[j]'(by omega)) := List.getElem?_eq_getElem (by omega)
      rw [h2] at h1
      cases hc : W.cells? 0 (a.add (j * 3)) 3 with
      | none => rw [hc] at h1; simp at h1
      | some cs =>
        rw [hc] at h1
        simp only [Option.bind_some] at h1
        obtain ⟨o, rfl, w⟩ := rmsg_read h1
        exact ⟨o, rfl, w⟩
    have key : ∀ j, ∃ o : QM, j < len → W.cells? 0 (a.add (j * 3)) 3 = some o.cells ∧ QRd W o := by
      intro j
      by_cases hj : j < len
      · obtain ⟨o, ho⟩ := each j hj
        exact ⟨o, fun _ => ho⟩
      · exact ⟨⟨⟨0, [], []⟩, .slice none 0 0, .slice none 0 0⟩, fun h => absurd h hj⟩
    obtain ⟨os, hos⟩ : ∃ os : Nat → QM, ∀ j, j < len → W.cells? 0 (a.add (j * 3)) 3 = some (os j).cells ∧ QRd W (os j) :=
      ⟨fun j => Classical.choose (key j), fun j => Classical.choose_spec (key j)⟩
    refine ⟨(List.range len).map os, by simp, fun h0 => ?_⟩
    have cell : ∀ j, j < len → ∀ i, i < 3 → W.cell? ((a.add (j * 3)).add i) = (os j).cells[i]? := by
      intro j hj i hi
      exact (World.cells?_some (hos j hj).1).2.2 i hi
    obtain ⟨b, off, spot⟩ := a
    have hspot : spot = none := by
      have h1 := cell 0 h0 0 (by omega)
      simp only [QM.cells, List.getElem?_cons_zero] at h1
      have h2 := World.cell?_spot h1
      simpa [Addr.add] using h2
    subst hspot
    refine ⟨b, off, rfl, fun j q hq => ?_⟩
    have hj : j < len := by
      have := (List.getElem?_eq_some_iff.1 hq).1
      simpa using this
    have hqe : os j = q := by
      rw [List.getElem?_map, List.getElem?_range hj] at hq
      simpa using hq
    subst hqe
    refine ⟨fun i hi => ?_, (hos j hj).2⟩
    have c := cell j hj i hi
    simp only [add_plain] at c
    exact c
end
end Go.Proofs.Ytpfelgbedeiebaa
