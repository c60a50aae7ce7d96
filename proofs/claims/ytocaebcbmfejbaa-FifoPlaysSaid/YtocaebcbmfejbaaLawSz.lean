/-
  FifoSizes' walk. No conditions.
-/
import Derived.Test.YtocaebcbmfejbaaFLaw
import Derived.Test.YtocaebcbmfejbaaFRight
namespace Go.Proofs.Ytocaebcbmfejbaa
open Go.ChangeShapes Go.WideShapes Go.ChangeAt Go.RowKit

theorem FSt.lay {w0 w w' : World} {c count size : Nat} {K : Nat → Re} {G : Nat → Nat} {X : Nat → Prop} {v : Value} {b : List UInt8} (h : FSt w0 w c count size K G X) (t : Turn NoBlock w w') (hb : Byts v b w') (hf : ∀ k, Blk v k → w.heap.size ≤ k) : FSt w0 w' c count size K G (fun k => X k ∨ Blk v k) := by
  have h1 := h.past t
  refine ⟨h1.mem, h1.turn, h1.fresh, fun k hk => ?_⟩
  rcases hk with hk | hk
  · exact h1.ap k hk
  · exact ⟨hb.lt hk, fun hh => by have := hf k hk; have := h.mem.lt hh; omega⟩
theorem FSt.none {w0 w : World} {c count size : Nat} {K : Nat → Re} {G : Nat → Nat} {X : Nat → Prop} (h : FSt w0 w c count size K G X) : FSt w0 w c count size K G NoBlock := h.fewer (fun _ hk => hk.elim)
theorem make_any (w : World) (N : Nat) (hN : N ≤ 100000) : ∃ W', (Instr.makeSlice 35 (.int .i64 (N : Int)) (.int .i64 (N : Int))).run Try.prog w = .ok (.slice (some ⟨w.heap.size, 0, none⟩) N N) W' ∧ Byts (.slice (some ⟨w.heap.size, 0, none⟩) N N) (List.replicate N 0) W' ∧ Turn NoBlock w W' := by
  obtain ⟨i5, hi5, hz5, hs5, hb5⟩ := info_parts infoB
  obtain ⟨W1, hm1, ho1, hg1⟩ := run_make_full (P := Try.prog) w 0 35 5 i5 _ 1 bytesT hi5 hz5 hs5 .i64 .i64 N (by rw [hb5]; omega) (by unfold maxLen; omega) (Nat.zero_le _)
  exact ⟨W1, hm1, made_bytes ho1, turn_grown hg1⟩
theorem blk_new {g n : Nat} {k : Nat} (h : Blk (.slice (some ⟨g, 0, none⟩) n n) k) : g = k := by simpa [Blk, Value.ownBlock] using h
/-- Zeros are written at end 0. -/
theorem zeros_write {w0 w w' : World} {c count size g N : Nat} {K : Nat → Re} {G : Nat → Nat} (h : FSt w0 w c count size K G NoBlock) (hg : w.heap.size = g) (t : Turn NoBlock w w') (hb : Byts (.slice (some ⟨g, 0, none⟩) N N) (List.replicate N 0) w') (hN : N ≤ 100000) (s : Int) (k : Nat) (K' : Nat → Re)
    (hs : wrS count size (K 0) (K 1) (List.replicate N 0) = s) (hk : wrN count size (K 0) (K 1) (List.replicate N 0) = k) (hK : wrK count size K 0 (List.replicate N 0) = K') :
    Calls Try.prog 41 #[.pointer (some ⟨c, 0, none⟩), .int .i64 0, .slice (some ⟨g, 0, none⟩) N N] w' fun x w2 => x = .returned (.tuple #[.int .i64 (k : Int), .int .i64 s]) ∧ FSt w0 w2 c count size K' G NoBlock := by
  subst hs hk hK
  have hl := h.lay t hb (fun k hk => by have := blk_new hk; omega)
  refine (hl.write0 hb.rk (by rw [List.length_replicate]; omega) (fun k hk => .inr (.inr hk))).mono (fun _ _ hh => ⟨hh.1, hh.2.1.none⟩)
def fK0 : Nat → Re := fun _ => ⟨true, []⟩
def fK1 (B : Nat) : Nat → Re := updN fK0 1 ⟨true, List.replicate B 0⟩
theorem szs_1 {count size : Nat} (h1 : 1 ≤ count) (h2 : 1 ≤ size) : wrS count size (fK0 0) (fK0 1) (List.replicate (count * size + size) 0) = 0 ∧ wrN count size (fK0 0) (fK0 1) (List.replicate (count * size + size) 0) = count ∧ wrK count size fK0 0 (List.replicate (count * size + size) 0) = fK1 (count * size) := by
  have hl : (List.replicate (count * size + size) (0 : UInt8)).length = (count + 1) * size := by rw [List.length_replicate, Nat.add_mul, Nat.one_mul]
  have hp : 0 < (count + 1) * size := Nat.mul_pos (by omega) (by omega)
  have hq : 0 < count * size := Nat.mul_pos (by omega) (by omega)
  have hs : wrS count size (fK0 0) (fK0 1) (List.replicate (count * size + size) 0) = 0 := by
    unfold wrS
    rw [hl, Nat.mul_mod_left]
    simp [fK0]
    omega
  obtain ⟨e1, e2⟩ := wrE_def count size (fK0 0) (fK0 1) (List.replicate (count * size + size) 0) count hs (by rw [hl, Nat.mul_div_cancel _ (by omega)]; simp [fK0])
  refine ⟨hs, e1, ?_⟩
  unfold wrK fK1
  show updN fK0 1 (wrE count size (fK0 0) (fK0 1) _) = _
  rw [e2]
  simp [fK0, List.take_replicate, Nat.min_eq_left (show count * size ≤ count * size + size by omega)]
theorem szs_2 {count size : Nat} (h2 : 1 ≤ size) : wrS count size (fK1 (count * size) 0) (fK1 (count * size) 1) (List.replicate size 0) = -22 ∧ wrN count size (fK1 (count * size) 0) (fK1 (count * size) 1) (List.replicate size 0) = 0 ∧ wrK count size (fK1 (count * size)) 0 (List.replicate size 0) = fK1 (count * size) := by
  have hs : wrS count size (fK1 (count * size) 0) (fK1 (count * size) 1) (List.replicate size 0) = -22 := by
    unfold wrS
    simp [fK1, fK0, updN, Nat.mod_self]
    omega
  refine ⟨hs, by unfold wrN; rw [if_neg (by rw [hs]; decide)], ?_⟩
  unfold wrK wrE
  show updN _ 1 (if wrS count size (fK1 (count * size) 0) (fK1 (count * size) 1) (List.replicate size 0) = 0 then _ else _) = _
  rw [hs, if_neg (by decide)]
  exact updN_self _ _
theorem sz_shows {w0 w : World} {c count size : Nat} {G : Nat → Nat} {X : Nat → Prop} (h : FSt w0 w c count size fK0 G X) (hs : shF count size (fK0 0) (fK0 1) = 2) : Calls Try.prog 49 #[.pointer (some ⟨c, 0, none⟩), .int .i64 0] w fun x w' => x = .returned (.int .i64 2) ∧ Turn NoBlock w w' := by
  have := h.shows0
  rw [hs] at this
  exact this
theorem sz_len0 {w0 w : World} {c count size : Nat} {G : Nat → Nat} {X : Nat → Prop} (h : FSt w0 w c count size fK0 G X) : Calls Try.prog 47 #[.pointer (some ⟨c, 0, none⟩), .int .i64 0] w fun x w' => x = .returned (.int .i64 0) ∧ w = w' := by
  have := h.len0
  rw [show ((fK0 0).d.length / size : Nat) = 0 from Nat.zero_div _] at this
  exact this
theorem sz_len1 {w0 w : World} {c count size : Nat} {G : Nat → Nat} {X : Nat → Prop} (h : FSt w0 w c count size (fK1 (count * size)) G X) (hs : ((fK1 (count * size) 1).d.length / size : Nat) = count) : Calls Try.prog 47 #[.pointer (some ⟨c, 0, none⟩), .int .i64 1] w fun x w' => x = .returned (.int .i64 (count : Int)) ∧ w = w' := by
  have := h.len1
  rw [hs] at this
  exact this
set_option maxRecDepth 20000 in
set_option maxHeartbeats 2000000 in
theorem sizes_no (a b : Int) (w : World) (h : ¬ good a b) : Calls Try.prog 7 #[.int .i64 a, .int .i64 b] w fun e w' => e = .returned (.bool true) ∧ Turn NoBlock w w' := by
  have cA := Lib.hid awake13
  have cN := Lib.hid (fnew_no a b w h)
  have cR := Lib.hid ((fright13 a b w).mono (fun x w' hh => (show x = .returned (.bool false) ∧ w = w' from ⟨hh.1.elim (fun h1 => (h h1.2).elim) (fun h1 => h1.1), hh.2⟩)))
  clear h
  go_enter Try.func7, Try.ntmps7
  go_wp2_with (first
    | (go_at_call 38; (with_reducible refine cN.out.mono ?_); rintro x w1 ⟨rfl, rfl⟩)
    | (go_at_call 39; (with_reducible refine cR.out.mono ?_); rintro x w2 ⟨rfl, rfl⟩)
    | (go_at_call 40; (with_reducible refine (cA.out _).mono ?_); rintro x w3 ⟨rfl, t3⟩))
  go_ret
  exact ⟨rfl, t3⟩
set_option maxRecDepth 20000 in
set_option maxHeartbeats 2000000 in
theorem sizes_yes (count size : Nat) (w : World) (h : good (count : Int) (size : Int)) : Calls Try.prog 7 #[.int .i64 (count : Int), .int .i64 (size : Int)] w fun e w' => e = .returned (.bool true) ∧ Turn NoBlock w w' := by
  have cA := Lib.hid awake13
  obtain ⟨c, hc⟩ : ∃ c, w.heap.size = c := ⟨_, rfl⟩
  have c1 := fnew_yes count size w h
  rw [hc] at c1
  have cN := Lib.hid c1
  have cR := Lib.hid ((fright13 (count : Int) (size : Int) w))
  have HG := Lib.hid h
  have h1 : 1 ≤ count := by have := h.1; omega
  have h2 : 1 ≤ size := by have := h.2.1; omega
  have h3 : size ≤ 64 := by have := h.2.2.2.1; omega
  have h4 : count * size ≤ 4096 := by have := h.2.2.2.2.2; rw [← Int.natCast_mul] at this; omega
  obtain ⟨B, hB⟩ : ∃ B, count * size + size = B := ⟨_, rfl⟩
  have e1 : IntKind.i64.wrap ((count : Int) * (size : Int)) = (count : Int) * (size : Int) := by rw [← Int.natCast_mul]; exact wrap_nat _ (by omega)
  have e2 : IntKind.i64.wrap ((count : Int) * (size : Int) + (size : Int)) = (B : Int) := by rw [← Int.natCast_mul, ← Int.natCast_add, hB]; exact wrap_nat _ (by omega)
  have z1 := szs_1 h1 h2
  have z2 := szs_2 (count := count) h2
  rw [hB] at z1
  have Z1 := Lib.hid z1
  have Z2 := Lib.hid z2
  have MB := Lib.hid (fun W => make_any W B (by omega))
  have MS := Lib.hid (fun W => make_any W size (by omega))
  have HL := Lib.hid (show ((fK1 (count * size) 1).d.length / size : Nat) = count from by
    show (List.replicate (count * size) (0 : UInt8)).length / size = count
    rw [List.length_replicate, Nat.mul_div_cancel _ (by omega)])
  have HLE := Lib.hid (show B ≤ 100000 ∧ size ≤ 100000 by omega)
  have hsh : shF count size (fK0 0) (fK0 1) = 2 := by
    have hp : 0 < count * size := Nat.mul_pos (by omega) (by omega)
    have hne : ¬ (0 = count * size) := by omega
    unfold shF
    simp [fK0, hne]
  have HS := Lib.hid hsh
  clear hc c1 h h1 h2 h3 h4 hB z1 z2 hsh
  go_enter Try.func7, Try.ntmps7
  go_wp2_with (first
    | (go_at_call 38; (with_reducible refine cN.out.mono ?_); rintro x w1 ⟨rfl, G, k1⟩; have K1 := Lib.hid (show FSt w w1 c count size fK0 G NoBlock from k1); clear k1)
    | (go_at_call 39; (with_reducible refine (fright13 (count : Int) (size : Int) _).mono ?_); rintro x w2 ⟨hx, rfl⟩; obtain rfl : x = .returned (.bool true) := hx.elim (fun h => h.1) (fun h => (h.2 HG.out).elim); clear hx)
    | (go_at_call 46; (with_reducible refine K1.out.szc.mono ?_); rintro x w2 ⟨rfl, rfl⟩)
    | (go_at_call 47; (with_reducible refine (sz_len1 K4.out HL.out).mono ?_); rintro x w2 ⟨rfl, rfl⟩)
    | (go_at_call 47; (with_reducible refine (sz_len0 K1.out).mono ?_); rintro x w2 ⟨rfl, rfl⟩)
    | (go_at_call 49; (with_reducible refine (sz_shows K1.out HS.out).mono ?_); rintro x w2 ⟨rfl, t2⟩; have K2 := Lib.hid (K1.out.past t2); obtain ⟨W3, hm3, hb3, ht3⟩ := MB.out w2; obtain ⟨g3, hg3⟩ : ∃ g3, w2.heap.size = g3 := ⟨_, rfl⟩; rw [hg3] at hm3 hb3; have M3 := Lib.hid (And.intro hg3 (And.intro hb3 ht3)); clear hb3 ht3 t2 hg3)
    | (go_at_call 41; (with_reducible refine (zeros_write K2.out M3.out.1 M3.out.2.2 M3.out.2.1 HLE.out.1 0 count _ Z1.out.1 Z1.out.2.1 Z1.out.2.2).mono ?_); rintro x w3 ⟨rfl, k3⟩; have K3 := Lib.hid k3; obtain ⟨W4, hm4, hb4, ht4⟩ := MS.out w3; obtain ⟨g4, hg4⟩ : ∃ g4, w3.heap.size = g4 := ⟨_, rfl⟩; rw [hg4] at hm4 hb4; have M4 := Lib.hid (And.intro hg4 (And.intro hb4 ht4)); clear hb4 ht4 k3 hg4)
    | (go_at_call 41; (with_reducible refine (zeros_write K3.out M4.out.1 M4.out.2.2 M4.out.2.1 HLE.out.2 (-22) 0 _ Z2.out.1 Z2.out.2.1 Z2.out.2.2).mono ?_); rintro x w4 ⟨rfl, k4⟩; have K4 := Lib.hid k4; clear k4)
    | (go_at_call 40; (with_reducible refine (cA.out _).mono ?_); rintro x w9 ⟨rfl, t9⟩))
  go_ret
  exact ⟨rfl, TT K4.out.turn t9⟩
end Go.Proofs.Ytocaebcbmfejbaa
