/-
  FifoOrder's walk. No conditions but that the steps can be read.
-/
import Derived.Test.YtocaebcbmfejbaaFElem
import Derived.Test.YtocaebcbmfejbaaFView
import Derived.Deep.LoopGhost
import Derived.Deep.RegionHeld3
namespace Go.Proofs.Ytocaebcbmfejbaa
open Go.ChangeShapes Go.WideShapes Go.ChangeAt Go.RowKit

/-- Bytes out of the middle. -/
theorem rk_mid {w : World} {v : Value} {b : List UInt8} (h : Rk w v b) {l s : Nat} (hl : l + s ≤ b.length) (hs : 0 < s) :
    ∃ p c, (∀ w, Sem.run Try.prog (Instr.slice 35 v (some (.int .i64 (l : Int))) (some (.int .i64 ((l : Int) + (s : Int)))) none) w = .ok (.slice p s c) w) ∧ RdB w (.slice p s c) ((b.drop l).take s) := by
  obtain ⟨p, c, rfl, hc⟩ := h.sl
  have hr := h.rz.rd (by omega)
  obtain ⟨p', c', he, hz, hcell⟩ := hr.form
  simp only [Value.slice.injEq, true_and] at he
  obtain ⟨rfl, rfl⟩ := he
  cases p with
  | none => have := hz rfl; omega
  | some a =>
    obtain ⟨g, o, rfl, hj⟩ := hcell a rfl
    have hln : ((b.drop l).take s).length = s := by rw [List.length_take, List.length_drop]; omega
    refine ⟨some ⟨g, o + l, none⟩, c - l, fun w => ?_, ⟨by rw [bcells_len, hln, Nat.mul_one], _, c - l, by rw [hln], (fun h => by cases h), fun a' ha => ?_⟩⟩
    · have := run_slice_lh (P := Try.prog) w 35 (some ⟨g, o, none⟩) b.length c elem_bytes .i64 .i64 (l : Int) ((l : Int) + (s : Int)) (by omega) (by omega) (by omega)
      rw [size_bytes w] at this
      simp only [Result.andThen] at this
      rw [this]
      have e1 : ((l : Int) + (s : Int)).toNat = l + s := by omega
      have e2 : (l : Int).toNat = l := by omega
      unfold sliced
      rw [e1, e2, Nat.add_sub_cancel_left]
      have hne : ¬ c = l := by omega
      simp [hne, Addr.add_lit]
    · cases ha
      refine ⟨g, o + l, rfl, fun j hjn => ?_⟩
      rw [hln] at hjn
      rw [Nat.add_assoc, hj (l + j) (by omega)]
      unfold bcells
      rw [List.getElem?_map, List.getElem?_map, List.getElem?_take_of_lt (by omega), List.getElem?_drop]
section
variable {w0 w : World} {c count size : Nat} {G : Nat → Nat} {X : Nat → Prop}
theorem or_write {o m k : Nat} {v : Value} (h : FSt w0 w c count size (eK ⟨true, []⟩ (seg (oEl size) o m) 1) G X) (h1 : 1 ≤ size) (h2 : size ≤ 64) (hm : m ≤ count) (hk : k ≤ 8) (hb : Byts v (seg (oEl size) (o + m) k) w) (hv : ∀ j, Blk v j → X j) :
    Calls Try.prog 41 #[.pointer (some ⟨c, 0, none⟩), .int .i64 1, v] w fun x w' => (∃ st : Int, (st == 0) = false ∧ x = .returned (.tuple #[.int .i64 0, .int .i64 st]) ∧ FSt w0 w' c count size (eK ⟨true, []⟩ (seg (oEl size) o m) 1) G NoBlock) ∨ (∃ dn : Nat, 1 ≤ dn ∧ dn ≤ k ∧ m + dn ≤ count ∧ x = .returned (.tuple #[.int .i64 (dn : Int), .int .i64 0]) ∧ FSt w0 w' c count size (eK ⟨true, []⟩ (seg (oEl size) o (m + dn)) 1) G NoBlock) := by
  have hl := seg_len (oEl_len h1) (o + m) k
  have hkl : k * size ≤ 8 * 64 := Nat.mul_le_mul hk h2
  refine (h.write1 hb.rk (by omega) (fun j hj => .inr (hv j hj))).mono ?_
  rintro x w' ⟨rfl, hs, -⟩
  have hs2 := hs.none
  have d0 : (eK ⟨true, []⟩ (seg (oEl size) o m) 1 0).d = seg (oEl size) o m := rfl
  have hq : wrK count size (eK ⟨true, []⟩ (seg (oEl size) o m) 1) 1 (seg (oEl size) (o + m) k) = updN (eK ⟨true, []⟩ (seg (oEl size) o m) 1) 0 (wrE count size (eK ⟨true, []⟩ (seg (oEl size) o m) 1 1) (eK ⟨true, []⟩ (seg (oEl size) o m) 1 0) (seg (oEl size) (o + m) k)) := rfl
  rw [hq] at hs2
  by_cases hgo : 1 ≤ k ∧ m < count
  · obtain ⟨r1, r2, r3⟩ := wr_room (count := count) (s := eK ⟨true, []⟩ (seg (oEl size) o m) 1 1) (t := eK ⟨true, []⟩ (seg (oEl size) o m) 1 0) (b := seg (oEl size) (o + m) k) (m := m) (k := k) h1 rfl rfl (seg_len (oEl_len h1) o m) hl hgo.1 hgo.2
    rw [r3] at hs2
    rw [r1, r2]
    have e1 := (seg_take (oEl_len h1) (o + m) k (min k (count - m)) (Nat.min_le_left _ _)).1
    rw [e1] at hs2
    refine .inr ⟨min k (count - m), by omega, Nat.min_le_left _ _, by omega, rfl, ?_⟩
    rw [← seg_app]
    unfold eK at hs2 ⊢
    rw [show oth 1 = 0 from rfl] at hs2 ⊢
    rw [updN_twice] at hs2
    exact hs2
  · have hne : ¬ wrS count size (eK ⟨true, []⟩ (seg (oEl size) o m) 1 1) (eK ⟨true, []⟩ (seg (oEl size) o m) 1 0) (seg (oEl size) (o + m) k) = 0 := by
      unfold wrS
      rw [if_neg (show ¬ (eK ⟨true, []⟩ (seg (oEl size) o m) 1 1).op = false from fun h => by cases h)]
      by_cases h0 : k = 0
      · rw [if_pos (.inl (by rw [hl, h0, Nat.zero_mul]))]; decide
      · by_cases h3 : (seg (oEl size) (o + m) k).length = 0 ∨ (seg (oEl size) (o + m) k).length % size ≠ 0
        · rw [if_pos h3]; decide
        · rw [if_neg h3, if_neg (show ¬ (eK ⟨true, []⟩ (seg (oEl size) o m) 1 0).op = false from fun h => by cases h), if_pos (by rw [d0, seg_len (oEl_len h1) o m, show m = count by omega])]; decide
    have hw : wrN count size (eK ⟨true, []⟩ (seg (oEl size) o m) 1 1) (eK ⟨true, []⟩ (seg (oEl size) o m) 1 0) (seg (oEl size) (o + m) k) = 0 := by unfold wrN; rw [if_neg hne]
    rw [hw]
    refine .inl ⟨_, by simpa using hne, rfl, ?_⟩
    rw [show wrE count size (eK ⟨true, []⟩ (seg (oEl size) o m) 1 1) (eK ⟨true, []⟩ (seg (oEl size) o m) 1 0) (seg (oEl size) (o + m) k) = eK ⟨true, []⟩ (seg (oEl size) o m) 1 0 from by unfold wrE; rw [if_neg hne], updN_self] at hs2
    exact hs2
theorem or_read {o m k : Nat} (h : FSt w0 w c count size (eK ⟨true, []⟩ (seg (oEl size) o m) 1) G X) (h1 : 1 ≤ size) :
    Calls Try.prog 43 #[.pointer (some ⟨c, 0, none⟩), .int .i64 0, .int .i64 (k : Int)] w fun x w' => ∃ (t : Nat) (st : Int) (p : Option Addr) (ca : Nat), x = .returned (.tuple #[.slice p (t * size) ca, .int .i64 st]) ∧ t ≤ m ∧ Byts (.slice p (t * size) ca) (seg (oEl size) o t) w' ∧ FSt w0 w' c count size (eK ⟨true, []⟩ (seg (oEl size) (o + t) (m - t)) 1) G (Blk (.slice p (t * size) ca)) := by
  refine (h.read0 (k : Int)).mono ?_
  rintro x w' ⟨v, rfl, hv, hs, -, -⟩
  have hs2 := hs.fewer (Y := Blk v) (fun j hj => .inr hj)
  have d0 : (eK ⟨true, []⟩ (seg (oEl size) o m) 1 0).d = seg (oEl size) o m := rfl
  have hq : rdK size (eK ⟨true, []⟩ (seg (oEl size) o m) 1) 0 (k : Int) = updN (eK ⟨true, []⟩ (seg (oEl size) o m) 1) 0 (rdE size (eK ⟨true, []⟩ (seg (oEl size) o m) 1 0) (eK ⟨true, []⟩ (seg (oEl size) o m) 1 1) (k : Int)) := rfl
  rw [hq] at hs2
  by_cases hgo : 1 ≤ k ∧ 0 < m
  · have hp : 0 < m * size := Nat.mul_pos hgo.2 h1
    obtain ⟨r1, r2, r3⟩ := rd_some (size := size) (s := eK ⟨true, []⟩ (seg (oEl size) o m) 1 0) (t := eK ⟨true, []⟩ (seg (oEl size) o m) 1 1) (n := (k : Int)) rfl (by omega) (by rw [d0, seg_len (oEl_len h1)]; exact hp)
    rw [d0, Int.toNat_natCast] at r2 r3
    obtain ⟨e1, e2⟩ := take_min (seg (oEl size) o m) m (min k m) size k (seg_len (oEl_len h1) o m) rfl
    rw [← e1] at r2
    rw [← e2] at r3
    obtain ⟨e3, e4⟩ := seg_take (oEl_len h1) o m (min k m) (Nat.min_le_right _ _)
    rw [e3] at r2
    rw [e4] at r3
    rw [r2] at hv
    rw [r3] at hs2
    obtain ⟨p, ca, hsl⟩ := hv.sl
    rw [seg_len (oEl_len h1)] at hsl
    subst hsl
    refine ⟨min k m, _, p, ca, rfl, Nat.min_le_right _ _, hv, ?_⟩
    unfold eK at hs2 ⊢
    rw [show oth 1 = 0 from rfl] at hs2 ⊢
    rw [updN_twice] at hs2
    exact hs2
  · have hne : ¬ rdS (eK ⟨true, []⟩ (seg (oEl size) o m) 1 0) (eK ⟨true, []⟩ (seg (oEl size) o m) 1 1) (k : Int) = 0 := by
      unfold rdS
      rw [if_neg (show ¬ (eK ⟨true, []⟩ (seg (oEl size) o m) 1 0).op = false from fun h => by cases h)]
      by_cases h0 : (k : Int) < 1
      · rw [if_pos h0]; decide
      · rw [if_neg h0, if_pos (by rw [d0, seg_len (oEl_len h1), show m = 0 by omega, Nat.zero_mul])]
        rw [if_neg (show ¬ (eK ⟨true, []⟩ (seg (oEl size) o m) 1 1).op = false from fun h => by cases h)]; decide
    rw [show rdE size (eK ⟨true, []⟩ (seg (oEl size) o m) 1 0) (eK ⟨true, []⟩ (seg (oEl size) o m) 1 1) (k : Int) = eK ⟨true, []⟩ (seg (oEl size) o m) 1 0 from by unfold rdE; rw [if_neg hne], updN_self] at hs2
    rw [show rdB size (eK ⟨true, []⟩ (seg (oEl size) o m) 1 0) (eK ⟨true, []⟩ (seg (oEl size) o m) 1 1) (k : Int) = [] from by unfold rdB; rw [if_neg hne]] at hv
    obtain ⟨p, ca, hsl⟩ := hv.sl
    subst hsl
    refine ⟨0, _, p, ca, by rw [Nat.zero_mul]; rfl, Nat.zero_le _, by rw [Nat.zero_mul]; exact hv, ?_⟩
    rw [Nat.zero_mul, Nat.add_zero, Nat.sub_zero]
    exact hs2
theorem or_len {o m : Nat} (h : FSt w0 w c count size (eK ⟨true, []⟩ (seg (oEl size) o m) 1) G X) (h1 : 1 ≤ size) : Calls Try.prog 47 #[.pointer (some ⟨c, 0, none⟩), .int .i64 0] w fun x w' => x = .returned (.int .i64 (m : Int)) ∧ w = w' := by
  have := h.len0
  rw [show ((eK ⟨true, []⟩ (seg (oEl size) o m) 1 0).d.length / size : Nat) = m from by show (seg (oEl size) o m).length / size = m; rw [seg_len (oEl_len h1), Nat.mul_div_cancel _ h1]] at this
  exact this
end
set_option maxRecDepth 20000 in
set_option maxHeartbeats 4000000 in
theorem order_no (a b : Int) (p : Option Addr) (len cap : Nat) (w : World) (h : ¬ good a b) : Calls Try.prog 6 #[.int .i64 a, .int .i64 b, .slice p len cap] w fun e w' => e = .returned (.bool true) ∧ Turn NoBlock w w' := by
  have cA := Lib.hid awake13
  have cN := Lib.hid (fun W => fnew_no a b W h)
  have cR := Lib.hid (fun W => (fright13 a b W).mono (fun x w' hh => (show x = .returned (.bool false) ∧ W = w' from ⟨hh.1.elim (fun h1 => (h h1.2).elim) (fun h1 => h1.1), hh.2⟩)))
  clear h
  go_enter Try.func6, Try.ntmps6
  go_wp2_with (first
    | (go_at_call 38; (with_reducible refine (cN.out _).mono ?_); rintro x w1 ⟨rfl, rfl⟩)
    | (go_at_call 39; (with_reducible refine (cR.out _).mono ?_); rintro x w2 ⟨rfl, rfl⟩)
    | (go_at_call 40; (with_reducible refine (cA.out _).mono ?_); rintro x w3 ⟨rfl, t3⟩))
  go_ret
  exact ⟨rfl, TT ((Turn.refl NoBlock w).alloc _) t3⟩
set_option maxRecDepth 20000 in
set_option maxHeartbeats 4000000 in
theorem order_past (count size : Nat) (p : Option Addr) (len cap : Nat) (w : World) (h : good (count : Int) (size : Int)) (hl : 200 < len) : Calls Try.prog 6 #[.int .i64 (count : Int), .int .i64 (size : Int), .slice p len cap] w fun e w' => e = .returned (.bool true) ∧ Turn NoBlock w w' := by
  have cA := Lib.hid awake13
  obtain ⟨E, hE⟩ : ∃ E, w.heap.size = E := ⟨_, rfl⟩
  obtain ⟨wB, hwB⟩ : ∃ wB, w.alloc (.cells #[.int .i64 (size : Int)] 3) = wB := ⟨_, rfl⟩
  have tB : Turn NoBlock w wB := by rw [← hwB]; exact (Turn.refl _ w).alloc _
  have bE : Boxed wB E 3 (.int .i64 (size : Int)) := by rw [← hwB, ← hE]; exact Boxed.new w 3 (.int .i64 (size : Int))
  have e0 := bE.cell
  have cN := Lib.hid (fnew_yes count size wB h)
  have HT := Lib.hid tB
  have HG := Lib.hid h
  have hl1 : (200 : Int) < len := by omega
  clear h bE tB
  go_enter Try.func6, Try.ntmps6
  go_wp2_with (first
    | (go_at_call 38; (with_reducible refine cN.out.mono ?_); rintro x w1 ⟨rfl, G, k1⟩; have e1 := k1.turn.cell e0 (fun h => h); have K1 := Lib.hid k1.turn; clear k1)
    | (go_at_call 39; (with_reducible refine (fright13 (count : Int) (size : Int) _).mono ?_); rintro x w2 ⟨hx, rfl⟩; obtain rfl : x = .returned (.bool true) := hx.elim (fun h => h.1) (fun h => (h.2 HG.out).elim); clear hx)
    | (go_at_call 40; (with_reducible refine (cA.out _).mono ?_); rintro x w3 ⟨rfl, t3⟩))
  go_ret
  exact ⟨rfl, TT (TT HT.out K1.out) t3⟩
set_option maxRecDepth 20000 in
set_option maxHeartbeats 8000000 in
theorem order_walk (count size : Nat) (p : Option Addr) (len cap : Nat) (zs : List Int) (w : World) (h : good (count : Int) (size : Int)) (hl : len ≤ 200) (hz : ZsAt w p len zs) : Calls Try.prog 6 #[.int .i64 (count : Int), .int .i64 (size : Int), .slice p len cap] w fun e w' => e = .returned (.bool true) ∧ Turn NoBlock w w' := by
  have cA := Lib.hid awake13
  obtain ⟨i5, hi5, hz5, hs5, hb5⟩ := info_parts infoB
  have HI5 := Lib.hid (And.intro hi5 (And.intro hz5 (And.intro hs5 hb5)))
  obtain ⟨E, hE⟩ : ∃ E, w.heap.size = E := ⟨_, rfl⟩
  obtain ⟨wB, hwB⟩ : ∃ wB, w.alloc (.cells #[.int .i64 (size : Int)] 3) = wB := ⟨_, rfl⟩
  have tB : Turn NoBlock w wB := by rw [← hwB]; exact (Turn.refl _ w).alloc _
  have bE : Boxed wB E 3 (.int .i64 (size : Int)) := by rw [← hwB, ← hE]; exact Boxed.new w 3 (.int .i64 (size : Int))
  have hsB : wB.heap.size = E + 1 := by rw [← hwB, World.size_alloc, hE]
  have c1 := fnew_yes count size wB h
  rw [hsB] at c1
  have cN := Lib.hid c1
  have HS := Lib.hid (show 1 ≤ size ∧ size ≤ 64 ∧ 1 ≤ count ∧ count ≤ 1024 by have := h.1; have := h.2.1; have := h.2.2.1; have := h.2.2.2.1; omega)
  have HZ := Lib.hid hz
  have HT := Lib.hid (And.intro tB bE)
  have hl1 : (len : Int) ≤ 200 := by omega
  have hl2 : ¬ (200 : Int) < len := by omega
  have hEl : E < wB.heap.size := by omega
  have e0 := bE.cell
  clear c1 h hz tB bE hi5 hz5 hs5 hb5 hsB hl
  go_enter Try.func6, Try.ntmps6
  go_wp2_with (first
    | (go_at_call 38; (with_reducible refine cN.out.mono ?_); rintro x w1 ⟨rfl, G, k1⟩; have e1 := k1.turn.cell e0 (fun h => h); have K1 := Lib.hid (show FSt wB w1 (E + 1) count size (eK ⟨true, []⟩ (seg (oEl size) 0 0) 1) G NoBlock from (by
        have e1 : eK ⟨true, []⟩ (seg (oEl size) 0 0) 1 = fun _ => ⟨true, []⟩ := by
          funext i
          unfold eK updN
          by_cases h1 : i = oth 1 <;> by_cases h2 : i = 1 <;> simp [h1, h2, seg_zero]
        rw [e1]; exact k1)); clear k1))
  clear hE hwB
  go_loopg [46, 8, 9] len (fun z s46 s8 s9 wr => ∃ (i inn o m : Nat), i ≤ len ∧ z = len - i ∧ s46 = .int .i64 (i : Int) ∧ s8 = .int .i64 (inn : Int) ∧ s9 = .int .i64 (o : Int) ∧ Hid (inn = o + m) ∧ inn ≤ 8 * i ∧ m ≤ count ∧ Hid (FSt wB wr (E + 1) count size (eK ⟨true, []⟩ (seg (oEl size) o m) 1) G NoBlock))
  case atStart => exact ⟨0, 0, 0, 0, by omega, rfl, rfl, rfl, rfl, Lib.hid rfl, by omega, by omega, K1⟩
  case round =>
    obtain ⟨i, inn, o, m, hi, hz, rfl, rfl, rfl, HE, hin, hmc, HF⟩ := hrel
    by_cases hlt : i < len
    · have hlt1 : (i : Int) < len := by omega
      obtain ⟨zg, zo, rfl, hcell⟩ := HZ.out.2 (by omega)
      obtain ⟨n, hn⟩ : ∃ n, zs[i]? = some n := ⟨_, List.getElem?_eq_getElem (by rw [HZ.out.1]; exact hlt)⟩
      have tw := TT HT.out.1 HF.out.turn
      have cn := tw.cell (hcell i n hn) (fun h => h)
      have er := HF.out.turn.cell e0 (fun h => h)
      have hElr : E < wr.heap.size := Nat.lt_of_lt_of_le hEl HF.out.turn.size
      have HTW := Lib.hid tw
      clear hcell hn tw
      by_cases hpos : 0 < n
      · obtain ⟨k, hk⟩ : ∃ k : Nat, Int.tmod n 9 = (k : Int) := ⟨(Int.tmod n 9).toNat, by have := Int.tmod_nonneg 9 (show 0 ≤ n by omega); omega⟩
        have hk8 : k ≤ 8 := by have := Int.tmod_lt_of_pos n (show (0 : Int) < 9 by decide); omega
        have hk2 : n % 9 = (k : Int) := by rw [← Int.tmod_eq_emod_of_nonneg (show 0 ≤ n by omega)]; exact hk
        have CE := Lib.hid (fun (j : Nat) (hj : j ≤ 1000000) (W : World) (t : Turn NoBlock wB W) => elem_any HS.out.1 HS.out.2.1 (t.cell e0 (fun h => h)) j hj)
        have HN0 := Lib.hid (show Byts (.slice none 0 0) (seg (oEl size) (o + m) 0) wr from wrow_nil _ _ _)
        have HF0 := Lib.hid (show FSt wB wr (E + 1) count size (eK ⟨true, []⟩ (seg (oEl size) o m) 1) G (Blk (.slice none 0 0)) from HF.out.fewer (fun k hk => (blk_nil k hk).elim))
        go_wp2
        go_loopg [55, 14] k (fun z s55 s14 wr => ∃ (j L cv : Nat) (pv : Option Addr), j ≤ k ∧ z = k - j ∧ s55 = .int .i64 (j : Int) ∧ s14 = .slice pv L cv ∧ Hid (∀ k, Blk (.slice pv L cv) k → wB.heap.size ≤ k) ∧ Hid (Byts (.slice pv L cv) (seg (oEl size) (o + m) j) wr) ∧ Hid (FSt wB wr (E + 1) count size (eK ⟨true, []⟩ (seg (oEl size) o m) 1) G (Blk (.slice pv L cv))))
        case atStart => exact ⟨0, 0, 0, none, by omega, rfl, rfl, rfl, Lib.hid (fun k hk => (blk_nil k hk).elim), HN0, HF0⟩
        case round =>
          obtain ⟨j, L, cv, pv, hj, hz2, rfl, rfl, HX, HBy, HFj⟩ := hrel
          by_cases hlt2 : j < k
          · have hlt3 : (j : Int) < k := by omega
            have CJ := Lib.hid (show ∀ (W : World) (t : Turn NoBlock wB W), Calls Try.prog 51 #[.int .i64 ((inn : Int) + (j : Int)), .pointer (some ⟨E, 0, none⟩)] W _ from fun W t => by rw [← Int.natCast_add]; exact CE.out (inn + j) (by omega) W t)
            have ewj : IntKind.i64.wrap ((inn : Int) + (j : Int)) = (inn : Int) + (j : Int) := wrap_fit _ (by unfold fit; omega)
            have HJL := Lib.hid (show (seg (oEl size) (o + m) j).length ≤ 600 by rw [seg_len (oEl_len HS.out.1)]; have : j * size ≤ 8 * 64 := Nat.mul_le_mul (by omega) HS.out.2.1; omega)
            have hLs : (seg (oEl size) (o + m) j).length = L := by obtain ⟨p', c', h9⟩ := HBy.out.sl; simp at h9; exact h9.2.1.symm
            have HLS := Lib.hid hLs
            clear hLs
            go_wp2_with (first
              | (go_at_call 51; (with_reducible refine (CJ.out _ HFj.out.turn).mono ?_); rintro y w3 ⟨v3, rfl, b3, n3, t3⟩; obtain ⟨p3, c3, hv3⟩ := b3.sl; have hl3 := oEl_len HS.out.1 (inn + j); rw [hl3] at hv3; subst hv3; have HB3 := Lib.hid (And.intro b3 (And.intro n3 t3)); have q1 : (seg (oEl size) (o + m) j).length + (oEl size (inn + j)).length ≤ maxLen := (by have := HJL.out; have := HS.out; unfold maxLen; omega); have q2 : ((seg (oEl size) (o + m) j).length + (oEl size (inn + j)).length) * 1 ≤ 140737488355328 := (by have := HJL.out; have := HS.out; omega); have HQ := Lib.hid (And.intro q1 q2); have HR3 := Lib.hid (HBy.out.past t3); have HS3 := Lib.hid (Rd.src (Byts.rd b3) 35 5 bytesT (bcells_one _)); clear b3 n3 t3 hl3 q1 q2)
              | (at_builtin; refine wpList_append_w rfl (.tmp 58) (.tmp 63) 35 35 rfl HR3.out i5 _ 1 bytesT HI5.out.1 HI5.out.2.1 HI5.out.2.2.1 HI5.out.2.2.2 rfl rfl rfl HS3.out HQ.out.1 HQ.out.2 ?_; intro v7 W7 r7 t7 k7; obtain ⟨p7, c7, rfl⟩ := r7.sl; have R7 := Lib.hid (And.intro r7 (And.intro t7 k7)); clear r7 t7 k7))
            have hb' : Byts (.slice p7 ((seg (oEl size) (o + m) j).length + (oEl size (inn + j)).length) c7) (seg (oEl size) (o + m) (j + 1)) W7 := by
              have h9 := R7.out.1
              unfold Byts
              rw [seg_snoc, ← HE.out, List.length_append]
              rw [← HE.out] at h9
              unfold bcells at h9 ⊢
              rw [List.map_append]
              exact h9
            have hsz3 := (TT HFj.out.turn HB3.out.2.2).size
            have hsz7 := R7.out.2.1.size
            have HX' := Lib.hid (show ∀ k, Blk (.slice p7 ((seg (oEl size) (o + m) j).length + (oEl size (inn + j)).length) c7) k → wB.heap.size ≤ k from fun k hk => by
              rcases R7.out.2.2 k hk with h | h
              · exact HX.out k h
              · omega)
            have HB' := Lib.hid hb'
            have HF' := Lib.hid (show FSt wB W7 (E + 1) count size (eK ⟨true, []⟩ (seg (oEl size) o m) 1) G (Blk (.slice p7 ((seg (oEl size) (o + m) j).length + (oEl size (inn + j)).length) c7)) from (HFj.out.past HB3.out.2.2).more R7.out.2.1 (fun k hk => by
              rcases R7.out.2.2 k hk with h | h
              · exact .inl h
              · exact .inr ⟨by omega, by omega⟩) (fun k hk => HX.out k hk))
            clear hb' hsz3 hsz7
            go_roundg (k - (j + 1))
            case measure => omega
            case rel => exact ⟨j + 1, _, c7, p7, by omega, rfl, by go_num, rfl, HX', HB', HF'⟩
          · have hjk : j = k := by omega
            have hlt3 : ¬ (j : Int) < k := by omega
            have CW0 := or_write HFj.out HS.out.1 HS.out.2.1 hmc (k := j) (by omega) HBy.out (fun j hj => hj)
            have CW := Lib.hid (CW0.mono (R' := fun x w' => (∃ st : Int, (st == 0) = false ∧ x = .returned (.tuple #[.int .i64 0, .int .i64 st]) ∧ Hid (FSt wB w' (E + 1) count size (eK ⟨true, []⟩ (seg (oEl size) o m) 1) G NoBlock)) ∨ (∃ dn m2 : Nat, x = .returned (.tuple #[.int .i64 (dn : Int), .int .i64 0]) ∧ (¬ (dn : Int) < 1) ∧ (¬ (k : Int) < (dn : Int)) ∧ IntKind.i64.wrap ((inn : Int) + (dn : Int)) = (inn : Int) + (dn : Int) ∧ IntKind.i64.wrap ((inn : Int) + (dn : Int) - (o : Int)) = (m2 : Int) ∧ (¬ (count : Int) < (m2 : Int)) ∧ Hid (inn + dn = o + m2 ∧ inn + dn ≤ 8 * (i + 1) ∧ m2 ≤ count) ∧ Hid (FSt wB w' (E + 1) count size (eK ⟨true, []⟩ (seg (oEl size) o m2) 1) G NoBlock))) (by
              rintro x w' (⟨st, h1, h2, h3⟩ | ⟨dn, h1, h2, h3, h4, h5⟩)
              · exact .inl ⟨st, h1, h2, Lib.hid h3⟩
              · have hh := HE.out
                have hs := HS.out
                refine .inr ⟨dn, m + dn, h4, by omega, by omega, wrap_fit _ (by unfold fit; omega), ?_, by omega, Lib.hid ⟨by omega, by omega, h3⟩, Lib.hid h5⟩
                rw [show (inn : Int) + (dn : Int) - (o : Int) = ((m + dn : Nat) : Int) by omega]
                exact wrap_nat _ (by omega)))
            have e6 : IntKind.i64.wrap ((inn : Int) - (o : Int)) = (m : Int) := by rw [show (inn : Int) - (o : Int) = (m : Int) by have := HE.out; omega]; exact wrap_nat _ (by have := HS.out; omega)
            have e7 : ¬ (count : Int) < (m : Int) := by omega
            clear hz2 hj hjk hlt2 CW0
            go_wp2_with (first
              | (go_at_call 41; (with_reducible refine CW.out.mono ?_); rintro y w5 (⟨st, hst, rfl, K5⟩ | ⟨dn, m2, rfl, hd1, hd2, hd3, hd4, hd5, HD2, K5⟩))
              | (go_at_call 47; (with_reducible refine (or_len K5.out HS.out.1).mono ?_); rintro y w6 ⟨rfl, rfl⟩))
            · go_roundg (len - (i + 1))
              case measure => omega
              case rel => exact ⟨i + 1, inn, o, m, by omega, rfl, by go_num, rfl, rfl, HE, by omega, hmc, K5⟩
            · go_roundg (len - (i + 1))
              case measure => omega
              case rel => exact ⟨i + 1, inn + dn, o, m2, by omega, rfl, by go_num, by go_num, rfl, Lib.hid HD2.out.1, HD2.out.2.1, HD2.out.2.2, K5⟩
      · obtain ⟨k, hk⟩ : ∃ k : Nat, Int.tmod n 9 = -(k : Int) := ⟨(-(Int.tmod n 9)).toNat, by
          have h1 : Int.tmod n 9 = -(Int.tmod (-n) 9) := by rw [Int.neg_tmod, Int.neg_neg]
          have h2 := Int.tmod_nonneg 9 (show 0 ≤ -n by omega)
          omega⟩
        have hk8 : k ≤ 8 := by
          have h1 : Int.tmod n 9 = -(Int.tmod (-n) 9) := by rw [Int.neg_tmod, Int.neg_neg]
          have := Int.tmod_lt_of_pos (-n) (show (0 : Int) < 9 by decide)
          omega
        have ewk : IntKind.i64.wrap (k : Int) = (k : Int) := wrap_nat _ (by omega)
        have hkn : - -(k : Int) = (k : Int) := by omega
        have CE := Lib.hid (fun (j : Nat) (hj : j ≤ 1000000) (W : World) (t : Turn NoBlock wB W) => elem_any HS.out.1 HS.out.2.1 (t.cell e0 (fun h => h)) j hj)
        have CR := Lib.hid (or_read (k := k) HF.out HS.out.1)
        go_wp2_with (go_at_call 43; (with_reducible refine CR.out.mono ?_); rintro y w5 ⟨t, st, pv, cv, rfl, htm, b5, k5⟩; have B5 := Lib.hid b5; have K5 := Lib.hid k5; clear b5 k5)
        obtain ⟨N, hN⟩ : ∃ N, t * size = N := ⟨_, rfl⟩
        rw [hN] at B5 K5 ⊢
        have HN := Lib.hid hN
        clear hN
        have HM := Lib.hid (show t ≤ m ∧ o ≤ 1600 ∧ m ≤ 1600 by have := HE.out; omega)
        go_loopg [20, 9] t (fun z s20 s9 wr2 => ∃ (j L : Nat), j ≤ t ∧ z = t - j ∧ s20 = .int .i64 (L : Int) ∧ s9 = .int .i64 ((o : Int) + (j : Int)) ∧ Hid (j * size = L) ∧ Hid (Byts (.slice pv N cv) (seg (oEl size) o t) wr2) ∧ Hid (FSt wB wr2 (E + 1) count size (eK ⟨true, []⟩ (seg (oEl size) (o + t) (m - t)) 1) G (Blk (.slice pv N cv))))
        case atStart => exact ⟨0, 0, by omega, rfl, rfl, by simp, Lib.hid (Nat.zero_mul _), B5, K5⟩
        case round =>
          obtain ⟨j, L, hj, hz2, rfl, rfl, HL, HBy, HFj⟩ := hrel
          have er2 := HFj.out.turn.cell e0 (fun h => h)
          have hElr2 : E < wr.heap.size := Nat.lt_of_lt_of_le hEl HFj.out.turn.size
          by_cases hlt2 : j < t
          · have hjt : (j + 1) * size ≤ t * size := Nat.mul_le_mul_right _ hlt2
            rw [Nat.add_mul, Nat.one_mul, HL.out, HN.out] at hjt
            have hLN : (L : Int) < (N : Int) := by have := HS.out; omega
            have hNb : N ≤ 1600 * 64 := by rw [← HN.out]; exact Nat.mul_le_mul (by have := HM.out; omega) HS.out.2.1
            have hlen := seg_len (oEl_len HS.out.1) o t
            obtain ⟨p8, c8, hsl, hrd⟩ := rk_mid HBy.out.rk (l := L) (s := size) (by rw [hlen, HN.out]; exact hjt) HS.out.1
            have hel : ((seg (oEl size) o t).drop L).take size = oEl size (o + j) := by
              rw [← HL.out, (seg_take (oEl_len HS.out.1) o t j (by omega)).2]
              have := (seg_take (oEl_len HS.out.1) (o + j) (t - j) 1 (by omega)).1
              rw [Nat.one_mul, seg_one] at this
              exact this
            rw [hel] at hrd
            have ewL : IntKind.i64.wrap ((L : Int) + (size : Int)) = (L : Int) + (size : Int) := wrap_fit _ (by have := HS.out; unfold fit; omega)
            have ewo : IntKind.i64.wrap ((o : Int) + (j : Int) + 1) = (o : Int) + (j : Int) + 1 := wrap_fit _ (by have := HM.out; unfold fit; omega)
            have HRD := Lib.hid hrd
            have CJ := Lib.hid (show ∀ (W : World) (t : Turn NoBlock wB W), Calls Try.prog 51 #[.int .i64 ((o : Int) + (j : Int)), .pointer (some ⟨E, 0, none⟩)] W _ from fun W t => by rw [← Int.natCast_add]; exact CE.out (o + j) (by have := HM.out; omega) W t)
            clear hlen hel hrd hNb hjt
            go_upto_region 25 with (fail)
            go_region_held3 (fun W => W.cell? ⟨E, 0, none⟩ = some (.int .i64 (size : Int)) ∧ Turn NoBlock wr W) (first | exact ⟨er2, (Turn.refl _ _).drew⟩ | exact ⟨T3.out.cell er2 (fun h => h), T3.out⟩) (first
              | (go_at_call 51; (with_reducible refine (CJ.out _ (TT HFj.out.turn (by first | exact Turn.refl _ _ | exact (Turn.refl _ _).drew))).mono ?_); rintro y w3 ⟨v3, rfl, b3, n3, t3⟩; have T3 := Lib.hid (show Turn NoBlock wr w3 from TT ((Turn.refl NoBlock wr).drew) t3); have HB3 := Lib.hid b3; clear b3 n3 t3)
              | (go_at_call 27; (with_reducible refine (same7 _ _ _ _ (HRD.out.past T3.out) HB3.out.rd.rz).mono ?_); rintro y w4 ⟨rfl, rfl⟩))
            have er3 := T3.out.cell er2 (fun h => h)
            have hEl3 := Nat.lt_of_lt_of_le hElr2 T3.out.size
            have HLn := Lib.hid (show (j + 1) * size = L + size by rw [Nat.add_mul, Nat.one_mul, HL.out])
            have HBn := Lib.hid (HBy.out.past T3.out)
            have HFn := Lib.hid (HFj.out.past T3.out)
            go_wp2
            go_roundg (t - (j + 1))
            case measure => omega
            case rel => exact ⟨j + 1, L + size, by omega, rfl, by go_num, by go_num, HLn, HBn, HFn⟩
          · have hjt : j = t := by omega
            have hLN : ¬ (L : Int) < (N : Int) := by have h1 := HL.out; have h2 := HN.out; rw [hjt] at h1; omega
            obtain ⟨m2, hm2⟩ : ∃ m2, m - t = m2 := ⟨_, rfl⟩
            rw [hm2] at HFj
            have e9 : IntKind.i64.wrap ((inn : Int) - ((o : Int) + (j : Int))) = (m2 : Int) := by rw [show (inn : Int) - ((o : Int) + (j : Int)) = (m2 : Int) by have := HE.out; have := HM.out; omega]; exact wrap_nat _ (by have := HM.out; omega)
            have ea : ¬ (count : Int) < (m2 : Int) := by have := HM.out; omega
            have HD := Lib.hid (show inn = (o + t) + m2 ∧ m2 ≤ count ∧ o + j = o + t by have := HE.out; have := HM.out; omega)
            have HF2 := Lib.hid (HFj.out.fewer (Y := NoBlock) (fun _ h => h.elim))
            clear hz2 hj hlt2 hjt hm2
            go_wp2_with (go_at_call 47; (with_reducible refine (or_len HF2.out HS.out.1).mono ?_); rintro y w6 ⟨rfl, rfl⟩)
            go_roundg (len - (i + 1))
            case measure => omega
            case rel => exact ⟨i + 1, inn, o + t, m2, by omega, rfl, by go_num, rfl, by have := HD.out.2.2; rw [← this]; go_num, Lib.hid HD.out.1, by omega, HD.out.2.1, HF2⟩
    · have hlt1 : ¬ (i : Int) < len := by omega
      go_wp2_with (go_at_call 40; (with_reducible refine (cA.out _).mono ?_); rintro x w9 ⟨rfl, t9⟩)
      go_ret
      exact ⟨rfl, TT (TT HT.out.1 HF.out.turn) t9⟩
end Go.Proofs.Ytocaebcbmfejbaa
