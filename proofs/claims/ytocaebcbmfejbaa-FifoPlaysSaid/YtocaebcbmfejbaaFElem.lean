/-
  FifoOrder's own elements. No conditions but that the variable that it captures is there.
-/
import Derived.Test.YtocaebcbmfejbaaFSeg
namespace Go.Proofs.Ytocaebcbmfejbaa
open Go.ChangeShapes Go.WideShapes Go.ChangeAt Go.RowKit

theorem wrap_u8 (x : Int) : IntKind.u8.wrap x = x % 256 := by simp [IntKind.wrap, IntKind.bits, IntKind.signed]
theorem xor_u8 (a b : Int) : ∃ n : Nat, n < 256 ∧ bits .xor .u8 a b = (n : Int) := by
  obtain ⟨z, hz⟩ : ∃ z : Int, bits .xor .u8 a b = IntKind.u8.wrap z := ⟨_, rfl⟩
  refine ⟨(z % 256).toNat, ?_, ?_⟩
  · omega
  · rw [hz, wrap_u8]; omega
def oHead (size n : Nat) : List UInt8 := overB (List.replicate size 0) 0 [UInt8.ofNat n]
def oLast (size n : Nat) : UInt8 := UInt8.ofNat (bits .xor .u8 (((oHead size n)[size - 1]?.getD 0).toNat : Int) (((n / 256 : Nat) : Int) % 256)).toNat
def oEl (size n : Nat) : List UInt8 := overB (oHead size n) (size - 1) [oLast size n]
theorem oHead_len {size n : Nat} (h : 1 ≤ size) : (oHead size n).length = size := by unfold oHead; rw [overB_len (by simp; omega)]; simp
theorem oEl_len {size : Nat} (h : 1 ≤ size) (n : Nat) : (oEl size n).length = size := by
  unfold oEl
  rw [overB_len (by rw [oHead_len h]; simp; omega), oHead_len h]
theorem byts_cell {w : World} {g m j : Nat} {bs : List UInt8} (h : Byts (.slice (some ⟨g, 0, none⟩) m m) bs w) (hj : j < bs.length) : w.cell? ⟨g, j, none⟩ = some (.int .u8 ((bs[j]?.getD 0).toNat : Int)) := by
  obtain ⟨g', o, cap, h1, -, -, -, h5, -⟩ := h.form.resolve_left (fun h => by cases h.1)
  simp only [Value.slice.injEq, Option.some.injEq, Addr.mk.injEq, and_true] at h1
  obtain ⟨⟨rfl, rfl⟩, _, _⟩ := h1
  have := h5 j (by omega)
  rw [Nat.zero_add] at this
  rw [this]
  unfold bcells
  rw [List.getElem?_map, List.getElem?_eq_getElem hj]
  rfl
theorem elem_any {w : World} {E size : Nat} (h1 : 1 ≤ size) (h2 : size ≤ 64) (hE : w.cell? ⟨E, 0, none⟩ = some (.int .i64 (size : Int))) (n : Nat) (hn : n ≤ 1000000) :
    Calls Try.prog 51 #[.int .i64 (n : Int), .pointer (some ⟨E, 0, none⟩)] w fun x w' => ∃ v, x = .returned v ∧ Byts v (oEl size n) w' ∧ (∀ k, Blk v k → w.heap.size ≤ k) ∧ Turn NoBlock w w' := by
  obtain ⟨W2, hm, hb, ht⟩ := make_any w size (by omega)
  obtain ⟨g, hg⟩ : ∃ g, w.heap.size = g := ⟨_, rfl⟩
  rw [hg] at hm hb
  have hEl : E < w.heap.size := World.block_lt_of_cell? w _ hE
  have u0 := ht.cell hE (fun h => h)
  obtain ⟨b1, t1⟩ := byts_sets (a := 0) (e := [UInt8.ofNat n]) hb (by simp; omega)
  rw [show overB (List.replicate size (0 : UInt8)) 0 [UInt8.ofNat n] = oHead size n from rfl] at b1
  have e4 : W2.setCells g 0 (bcells [UInt8.ofNat n]) = W2.setCell ⟨g, 0, none⟩ (.int .u8 ((n : Int) % 256)) := by
    have : (UInt8.ofNat n).toNat = n % 256 := by rw [UInt8.toNat_ofNat']
    show W2.setCell ⟨g, 0, none⟩ (.int .u8 ((UInt8.ofNat n).toNat : Int)) = _
    rw [this, Int.natCast_emod]
    rfl
  rw [e4] at b1 t1
  have hwn : IntKind.u8.wrap (n : Int) = (n : Int) % 256 := wrap_u8 _
  have c0 : W2.cell? ⟨g, 0, none⟩ = some (.int .u8 0) := by
    rw [byts_cell hb (by rw [List.length_replicate]; omega), List.getElem?_replicate, if_pos (by omega)]
    rfl
  have f0 := (hb.typed (k := g) rfl).free 0
  have hgl : g < W2.heap.size := (hb.typed (k := g) rfl).lt
  have hgE : E ≠ g := by omega
  have u1 := t1.cell u0 hgE
  obtain ⟨s, hs⟩ : ∃ s, size - 1 = s := ⟨_, rfl⟩
  have ews : IntKind.i64.wrap ((size : Int) - 1) = (s : Int) := by rw [show (size : Int) - 1 = (s : Int) by omega]; exact wrap_nat _ (by omega)
  have c1 := byts_cell b1 (j := s) (by rw [oHead_len h1]; omega)
  have f1 := (b1.typed (k := g) rfl).free s
  obtain ⟨x, hx⟩ : ∃ x, (((oHead size n)[s]?.getD 0).toNat : Int) = x := ⟨_, rfl⟩
  rw [hx] at c1
  have eq1 : Int.tdiv (n : Int) 256 = ((n / 256 : Nat) : Int) := by rw [Int.tdiv_eq_ediv_of_nonneg (by omega)]; omega
  obtain ⟨q, hq⟩ : ∃ q : Nat, n / 256 = q := ⟨_, rfl⟩
  rw [hq] at eq1
  have eq2 : IntKind.i64.wrap (q : Int) = (q : Int) := wrap_nat _ (by omega)
  have eq3 : IntKind.u8.wrap (q : Int) = (q : Int) % 256 := wrap_u8 _
  have eq4 : (n : Int) / 256 = (q : Int) := by omega
  obtain ⟨r, hr, hxor⟩ := xor_u8 x ((q : Int) % 256)
  have eq5 : IntKind.u8.wrap (bits .xor .u8 x ((q : Int) % 256)) = (r : Int) := by rw [hxor, wrap_u8]; omega
  have hol : oLast size n = UInt8.ofNat r := by
    unfold oLast
    rw [hs, hx, hq, hxor]
    rfl
  obtain ⟨b2, t2⟩ := byts_sets (a := s) (e := [oLast size n]) b1 (by rw [oHead_len h1]; simp; omega)
  have e5 : (W2.setCell ⟨g, 0, none⟩ (.int .u8 ((n : Int) % 256))).setCells g s (bcells [oLast size n]) = (W2.setCell ⟨g, 0, none⟩ (.int .u8 ((n : Int) % 256))).setCell ⟨g, s, none⟩ (.int .u8 (r : Int)) := by
    have : (UInt8.ofNat r).toNat = r := by rw [UInt8.toNat_ofNat']; omega
    rw [hol]
    show (W2.setCell ⟨g, 0, none⟩ (.int .u8 ((n : Int) % 256))).setCell ⟨g, s, none⟩ (.int .u8 ((UInt8.ofNat r).toNat : Int)) = _
    rw [this]
  rw [e5] at b2 t2
  have HB := Lib.hid (show Byts (.slice (some ⟨g, 0, none⟩) size size) (oEl size n) _ from (by unfold oEl; rw [hs]; exact b2))
  have HT := Lib.hid ((ht.trans t1 (fun k hk => .inr (by omega))).trans t2 (fun k hk => .inr (by omega)))
  have HG := Lib.hid hg
  have hs1 : (s : Int) < size := by omega
  have hs2 : (0 : Int) < size := by omega
  clear hb ht b1 t1 b2 t2 e4 e5 hx hq hr hol hg hs hn
  go_enter Try.func51, Try.ntmps51
  go_wp2
  go_ret
  exact ⟨_, rfl, HB.out, fun k hk => by have := blk_new hk; have := HG.out; omega, HT.out⟩
end Go.Proofs.Ytocaebcbmfejbaa
