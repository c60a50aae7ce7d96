/-
  How socket's laws' arguments are read. No conditions.
-/
import Derived.Test.YtocaebcbmfejbaaRows
import Derived.Test.YtocaebcbmfejbaaFLaw
import Derived.WalkKit
import Derived.ProofKit
import Derived.OpenShut
import Derived.Deep.Slices
namespace Go.Proofs.Ytocaebcbmfejbaa
open Go.ChangeShapes Go.WideShapes Go.ChangeAt Go.RowKit
theorem laidOut : laidOutB Try.prog = true := by kernel_rfl
theorem cells3 : Try.prog.cellsOf 3 = 1 := by kernel_rfl
theorem cells4 : Try.prog.cellsOf 4 = 1 := by kernel_rfl
theorem int3 : Try.prog.underlying 3 = some (.int .i64) := by kernel_rfl
theorem cells5 : Try.prog.cellsOf 5 = 1 := by kernel_rfl
theorem u85 : Try.prog.underlying 5 = some (.int .u8) := by kernel_rfl
theorem cellsB : Try.prog.cellsOf 35 = 1 := by kernel_rfl
theorem kints_s : Try.prog.underlying 36 = some (.slice 3) := by kernel_rfl
theorem bytess_s : Try.prog.underlying 57 = some (.slice 35) := by kernel_rfl
theorem add_plain (b off j : Nat) : (⟨b, off, none⟩ : Addr).add j = ⟨b, off + j, none⟩ := by
  simp [Addr.add]
  try omega
theorem byte_wf {n : Int} (h : (Lit.int .u8 n).wf = true) : 0 ≤ n ∧ n < 256 := by
  simp [Lit.wf, IntKind.min, IntKind.max, IntKind.signed, IntKind.bits] at h
  omega
/-- Integers that came in. -/
def ZsAt (W : World) (p : Option Addr) (len : Nat) (zs : List Int) : Prop := zs.length = len ∧ (0 < len → ∃ g o, p = some ⟨g, o, none⟩ ∧ ∀ j x, zs[j]? = some x → W.cell? ⟨g, o + j, none⟩ = some (.int .i64 x))
/-- Slices of bytes that came in. -/
def BsAt (W : World) (p : Option Addr) (len : Nat) (bs : List (Value × List UInt8)) : Prop := bs.length = len ∧ (0 < len → ∃ g o, p = some ⟨g, o, none⟩ ∧ ∀ j q, bs[j]? = some q → W.cell? ⟨g, o + j, none⟩ = some q.1 ∧ Rk W q.1 q.2)
section
variable {H : Type} {enc : TypeId × Value → H} {W : World}
theorem kbytes_read {fuel : Nat} {cs : List Value} {x : DataW H × List MemPlace} (h : DataW.trod enc Try.prog W 0 (fun _ => true) true fuel 35 cs = some x) :
    ∃ v b, cs = [v] ∧ Rk W v b := by
  rcases open_ints ch_bytes u85 cells5 h with ⟨hcs, hx⟩ | ⟨a, len', cap', zs, hcs, _, hl, hm, hz, hx, hcell, hwz⟩
  · exact ⟨_, [], hcs, ⟨none, 0, rfl, Nat.le_refl _⟩, ⟨none, 0, rfl⟩, fun _ => rfl, fun h => by simp at h⟩
  · simp only [if_true] at hz
    have hbl : ((zs.take len').map (fun z => UInt8.ofNat z.toNat)).length = len' := by simp; omega
    refine ⟨_, (zs.take len').map (fun z => UInt8.ofNat z.toNat), hcs, ⟨some a, cap', by rw [hbl], by rw [hbl]; omega⟩, ⟨some a, cap', by rw [hbl]⟩, fun h0 => ?_, fun h0 => ?_⟩
    · rw [List.eq_nil_of_length_eq_zero h0]; rfl
    · rw [hbl] at h0
      obtain ⟨b, off, spot⟩ := a
      have hspot : spot = none := by simpa [Addr.add] using World.cell?_spot (hcell 0 (by omega))
      subst hspot
      refine ⟨by rw [bcells_len]; omega, _, cap', by rw [hbl], (fun h => by cases h), fun a' ha => ?_⟩
      cases ha
      refine ⟨b, off, rfl, fun j hj => ?_⟩
      rw [hbl, Nat.mul_one] at hj
      have hjz : j < zs.length := by omega
      rw [← add_plain, hcell j (by omega)]
      have hw := byte_wf (hwz zs[j] (List.getElem_mem hjz))
      unfold bcells
      simp only [List.getD, List.getElem?_eq_getElem hjz, List.getElem?_map, List.getElem?_take, if_pos hj, Option.map_some, Option.getD_some]
      congr 2
      rw [UInt8.toNat_ofNat']
      omega
theorem kbytes_view {p : Option Addr} {len cap : Nat} {d : DataW H} {ps : List MemPlace} (h : DataW.Trod enc Try.prog W 0 (fun _ => true) true 35 (.slice p len cap) d ps) : ∃ b, b.length = len ∧ Rk W (.slice p len cap) b := by
  obtain ⟨fuel, hf⟩ := h
  simp only [Value.cells] at hf
  obtain ⟨v, b, he, hr⟩ := kbytes_read hf
  simp at he
  subst he
  obtain ⟨p', c', he, -⟩ := hr.sl
  simp only [Value.slice.injEq] at he
  exact ⟨b, he.2.1.symm, hr⟩
theorem zs_view {p : Option Addr} {len cap : Nat} {d : DataW H} {ps : List MemPlace} (h : DataW.Trod enc Try.prog W 0 (fun _ => true) true 36 (.slice p len cap) d ps) : ∃ zs, ZsAt W p len zs := by
  obtain ⟨fuel, hf⟩ := h
  simp only [Value.cells] at hf
  rcases open_ints kints_s int3 cells3 hf with ⟨hcs, hx⟩ | ⟨a, len', cap', zs, hcs, _, hl, hm, hz, hx, hcell, hwz⟩
  · simp at hcs
    obtain ⟨rfl, rfl, rfl⟩ := hcs
    exact ⟨[], rfl, fun h => by omega⟩
  · simp at hcs
    obtain ⟨rfl, rfl, rfl⟩ := hcs
    simp only [if_true] at hz
    have hlen : (zs.take len).length = len := by rw [List.length_take]; omega
    refine ⟨zs.take len, hlen, fun h0 => ?_⟩
    obtain ⟨b, off, spot⟩ := a
    have hspot : spot = none := by simpa [Addr.add] using World.cell?_spot (hcell 0 (by omega))
    subst hspot
    refine ⟨b, off, rfl, fun j x hx => ?_⟩
    have hj := (List.getElem?_eq_some_iff.1 hx).1
    rw [hlen] at hj
    rw [List.getElem?_take_of_lt hj] at hx
    rw [← add_plain, hcell j (by omega), List.getD_eq_getElem?_getD, hx]
    rfl
theorem bs_view {p : Option Addr} {len cap : Nat} {d : DataW H} {ps : List MemPlace} (h : DataW.Trod enc Try.prog W 0 (fun _ => true) true 57 (.slice p len cap) d ps) : ∃ bs, BsAt W p len bs := by
  obtain ⟨fuel, hf⟩ := h
  rcases DataW.trod_slice bytess_s hf with ⟨hcs, hx⟩ | ⟨a, len', cap', elems, rest, n, _, hcs, hx, hb, hlc, hm, hlen, hel, _⟩
  · simp [Value.cells] at hcs
    obtain ⟨rfl, rfl, rfl⟩ := hcs
    exact ⟨[], rfl, fun h => by omega⟩
  · simp [Value.cells] at hcs
    obtain ⟨rfl, rfl, rfl⟩ := hcs
    have each : ∀ j, j < len → ∃ q : Value × List UInt8, W.cells? 0 (a.add (j * 1)) 1 = some [q.1] ∧ Rk W q.1 q.2 := by
      intro j hj
      have h1 := hel j hj
      rw [cellsB] at h1
      have h2 : elems[j]? = some (elems[j]'(by omega)) := List.getElem?_eq_getElem (by omega)
      rw [h2] at h1
      cases hc : W.cells? 0 (a.add (j * 1)) 1 with
      | none => rw [hc] at h1; simp at h1
      | some cs =>
        rw [hc] at h1
        simp only [Option.bind_some] at h1
        obtain ⟨v, b, rfl, w⟩ := kbytes_read h1
        exact ⟨(v, b), rfl, w⟩
    have key : ∀ j, ∃ q : Value × List UInt8, j < len → W.cells? 0 (a.add (j * 1)) 1 = some [q.1] ∧ Rk W q.1 q.2 := by
      intro j
      by_cases hj : j < len
      · obtain ⟨o, ho⟩ := each j hj
        exact ⟨o, fun _ => ho⟩
      · exact ⟨(.slice none 0 0, []), fun h => absurd h hj⟩
    obtain ⟨os, hos⟩ : ∃ os : Nat → Value × List UInt8, ∀ j, j < len → W.cells? 0 (a.add (j * 1)) 1 = some [(os j).1] ∧ Rk W (os j).1 (os j).2 :=
      ⟨fun j => Classical.choose (key j), fun j => Classical.choose_spec (key j)⟩
    refine ⟨(List.range len).map os, by simp, fun h0 => ?_⟩
    have cell : ∀ j, j < len → W.cell? ((a.add (j * 1)).add 0) = some (os j).1 := by
      intro j hj
      exact (World.cells?_some (hos j hj).1).2.2 0 (by omega)
    obtain ⟨b, off, spot⟩ := a
    have hspot : spot = none := by
      have h1 := cell 0 h0
      have h2 := World.cell?_spot h1
      simpa [Addr.add] using h2
    subst hspot
    refine ⟨b, off, rfl, fun j q hq => ?_⟩
    have hj : j < len := by
      have := (List.getElem?_eq_some_iff.1 hq).1
      simpa using this
    have hqe : os j = q := by
      rw [List.getElem?_map, List.getElem?_range hj] at hq
      simpa using hq
    subst hqe
    refine ⟨?_, (hos j hj).2⟩
    have c := cell j hj
    simp only [add_plain, Nat.mul_one, Nat.add_zero] at c
    exact c
end
end Go.Proofs.Ytocaebcbmfejbaa
