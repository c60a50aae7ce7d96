/-
  Bytes that a law is handed, with their capacity; a law's source apart from its set. No conditions.
-/
import Derived.Test.YtdhbhigoboamfaaVAwake
import Derived.Test.YtdhbhigoboamfaaPView
import Derived.Test.YtdhbhigoboamfaaVSlice2
namespace Go.Proofs.Ytdhbhigoboamfaa
open Go.ChangeShapes Go.WideShapes Go.ChangeAt Go.RowKit

def ArgB (W : World) (v : Value) (bs : List UInt8) : Prop :=
  (∃ p c, v = .slice p 0 c ∧ bs = []) ∨ ∃ b off c, v = .slice (some ⟨b, off, none⟩) bs.length c ∧ bs.length ≤ c ∧ 0 < bs.length ∧ ∀ j, j < bs.length → W.cell? ⟨b, off + j, none⟩ = some (.int .u8 ((bs.getD j 0).toNat : Int))
section
variable {H : Type} {enc : TypeId × Value → H} {W : World}
theorem arg_read {fuel : Nat} {cs : List Value} {x : DataW H × List MemPlace} (h : DataW.trod enc Try.prog W 0 (fun _ => true) true fuel 22 cs = some x) :
    ∃ p len cap xs, cs = [.slice p len cap] ∧ xs.length = len ∧ len ≤ maxLen ∧ ArgB W (.slice p len cap) xs := by
  rcases open_ints bytes31 u85 cells5 h with ⟨hcs, hx⟩ | ⟨a, len', cap', zs, hcs, _, hl, hm, hz, hx, hcell, hwz⟩
  · exact ⟨none, 0, 0, [], hcs, rfl, by unfold maxLen; omega, .inl ⟨none, 0, rfl, rfl⟩⟩
  · simp only [if_true] at hz
    have hbl : ((zs.take len').map (fun z => UInt8.ofNat z.toNat)).length = len' := by simp; omega
    refine ⟨some a, len', cap', (zs.take len').map (fun z => UInt8.ofNat z.toNat), hcs, hbl, by omega, ?_⟩
    by_cases h0 : len' = 0
    · subst h0
      exact .inl ⟨some a, cap', rfl, rfl⟩
    · obtain ⟨b, off, spot⟩ := a
      have hspot : spot = none := by simpa [Addr.add] using World.cell?_spot (hcell 0 (by omega))
      subst hspot
      refine .inr ⟨b, off, cap', by rw [hbl], by rw [hbl]; exact hl, by rw [hbl]; omega, fun j hj => ?_⟩
      rw [hbl] at hj
      have hjz : j < zs.length := by omega
      rw [← add_plain, hcell j (by omega)]
      have hw := byte_wf (hwz zs[j] (List.getElem_mem hjz))
      simp only [List.getD, List.getElem?_eq_getElem hjz, List.getElem?_map, List.getElem?_take, if_pos hj, Option.map_some, Option.getD_some]
      congr 2
      rw [UInt8.toNat_ofNat']
      omega
theorem arg_view {p : Option Addr} {len cap : Nat} {d : DataW H} {ps : List MemPlace} (h : DataW.Trod enc Try.prog W 0 (fun _ => true) true 22 (.slice p len cap) d ps) : ∃ xs : List UInt8, xs.length = len ∧ len ≤ maxLen ∧ ArgB W (.slice p len cap) xs := by
  obtain ⟨fuel, hf⟩ := h
  simp only [Value.cells] at hf
  obtain ⟨p', len', cap', xs, hc, h1, h2, h3⟩ := arg_read hf
  simp at hc
  obtain ⟨rfl, rfl, rfl⟩ := hc
  exact ⟨xs, h1, h2, h3⟩
end
theorem ArgB.src {W w : World} {v : Value} {bs : List UInt8} (h : ArgB W v bs) (t : Turn NoBlock W w) : Src w v bs := by
  rcases h with ⟨p, c, rfl, rfl⟩ | ⟨b, off, c, rfl, _, _, hc⟩
  · exact .inl ⟨⟨p, c, rfl⟩, rfl⟩
  · exact .inr ⟨b, off, c, rfl, fun j hj => t.cell (hc j hj) (fun h => h)⟩
theorem ArgB.srcF {W w : World} {v : Value} {bs : List UInt8} {s : Nat} {r : Rep} {M : Mod} (h : ArgB W v bs) (k : VSt W w s r M) : SrcF w s r v bs := by
  rcases h with ⟨p, c, rfl, rfl⟩ | ⟨b, off, c, rfl, h1, h2, hc⟩
  · exact .inl ⟨p, c, rfl, rfl⟩
  · have hb : b < W.heap.size := block_lt_of_cell (hc 0 h2)
    exact .inr ⟨b, off, c, rfl, h1, fun hk => by have := k.fresh b hk; omega, Nat.lt_of_lt_of_le hb k.turn.size, fun j hj => k.turn.cell (hc j hj) (fun h => h)⟩

theorem Chain.upd {O : Int → Option Ob} (h : Chain O) {i : Int} {o o' : Ob} (hO : O i = some o) (h1 : o'.par = o.par) (h2 : o'.depth = o.depth) (h3 : o'.size = o.size) (h4 : o'.frm = o.frm) (h5 : 0 < o'.depth → o'.pgs = fun _ => none) : Chain (updI O i (some o')) := by
  refine ⟨fun j x hx hd => ?_, fun j x hx => ?_, fun j x hx hd => ?_⟩
  · have hup : ∃ q, O (x.par : Int) = some q ∧ q.depth + 1 = x.depth := by
      unfold updI at hx
      split at hx
      · cases hx
        rw [h1, h2]
        rw [h2] at hd
        exact h.up i o hO hd
      · exact h.up j x hx hd
    obtain ⟨q, hq, hqd⟩ := hup
    by_cases e : (x.par : Int) = i
    · rw [e, hO] at hq
      cases hq
      exact ⟨o', by rw [e, updI_same], by rw [h2]; exact hqd⟩
    · exact ⟨q, by unfold updI; rw [if_neg e]; exact hq, hqd⟩
  · unfold updI at hx
    split at hx
    · cases hx
      rw [h2, h3, h4]
      exact h.small i o hO
    · exact h.small j x hx
  · unfold updI at hx
    split at hx
    · cases hx; exact h5 hd
    · exact h.pgs j x hx hd
theorem parts_one (m n : Nat) (hn : n ≤ 64) : partsL (64 * m) n = if n = 0 then [] else [⟨m, 0, n⟩] := by
  unfold partsL
  rw [Nat.mul_mod_right, Nat.mul_div_cancel_left m (by decide)]
  by_cases h : n = 0
  · subst h; rfl
  · rw [if_neg h, goP_step m 0 n (by decide) (by omega)]
    rw [show min n (64 - 0) = n by omega, Nat.sub_self, goP_nil]
end Go.Proofs.Ytdhbhigoboamfaa
