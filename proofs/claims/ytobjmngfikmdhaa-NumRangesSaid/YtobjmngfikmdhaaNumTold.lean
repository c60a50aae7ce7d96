/-
  What the reference tells of sums and products, by value.
-/
import Derived.Test.YtobjmngfikmdhaaNumCalls
import Derived.Test.YtobjmngfikmdhaaNumInt
import Derived.Deep.QuietTactic
import Derived.BigQuiet
import Derived.Deep.RegionHeld3
import Derived.Deep.DeepCutAuto
namespace Go.Proofs.Ytobjmngfikmdhaa
open Go.ChangeShapes Go.WideShapes Go.ChangeAt Go.RowKit

theorem below_next {w w1 w2 : World} (h : Below w.heap.size w w1) (k : Below w1.heap.size w1 w2) : Below w.heap.size w w2 := h.trans (k.mono h.size)
theorem cell_keep {w1 w2 : World} {p : Addr} {v : Value} (hb : Below w1.heap.size w1 w2) (h : w1.cell? p = some v) : w2.cell? p = some v :=
  (hb.cell (World.block_lt_of_cell? w1 p h)).trans h
theorem dig_bd (n : Int) (h : fit n) (i : Nat) : 0 ≤ dig n i ∧ dig n i < 65536 := ⟨(dig_step n i h).1, (dig_step n i h).2.1⟩
theorem add_two (a b : Int) (ha : fit a) (hb : fit b) :
    ∃ (s : Int) (ok : Bool), (∀ w, Calls Try.prog 14 #[.int .i64 a, .int .i64 b] w fun e w' => e = .returned (.tuple #[.int .i64 s, .bool ok]) ∧ w = w') ∧ (ok = true ∧ s = a + b ∧ fit (a + b) ∨ ok = false ∧ s = 0 ∧ ¬ fit (a + b)) := by
  by_cases h : fit (a + b)
  · exact ⟨_, _, fun w => add_yes a b w ha hb h, .inl ⟨rfl, rfl, h⟩⟩
  · exact ⟨_, _, fun w => add_no a b w ha hb h, .inr ⟨rfl, rfl, h⟩⟩
theorem sub_two (a b : Int) (ha : fit a) (hb : fit b) :
    ∃ (s : Int) (ok : Bool), (∀ w, Calls Try.prog 15 #[.int .i64 a, .int .i64 b] w fun e w' => e = .returned (.tuple #[.int .i64 s, .bool ok]) ∧ w = w') ∧ (ok = true ∧ s = a - b ∧ fit (a - b) ∨ ok = false ∧ s = 0 ∧ ¬ fit (a - b)) := by
  by_cases h : fit (a - b)
  · exact ⟨_, _, fun w => sub_yes a b w ha hb h, .inl ⟨rfl, rfl, h⟩⟩
  · exact ⟨_, _, fun w => sub_no a b w ha hb h, .inr ⟨rfl, rfl, h⟩⟩
theorem mul_two (a b : Int) (ha : fit a) (hb : fit b) :
    ∃ (s : Int) (ok : Bool), (∀ w, Calls Try.prog 20 #[.int .i64 a, .int .i64 b] w fun e w' => e = .returned (.tuple #[.int .i64 s, .bool ok]) ∧ w = w') ∧ (ok = true ∧ s = a * b ∧ fit (a * b) ∨ ok = false ∧ s = 0 ∧ ¬ fit (a * b)) := by
  by_cases h : fit (a * b)
  · exact ⟨_, _, fun w => mul_yes a b w ha hb h, .inl ⟨rfl, rfl, h⟩⟩
  · exact ⟨_, _, fun w => mul_no a b w ha hb h, .inr ⟨rfl, rfl, h⟩⟩
/-- Two answers that are told alike are one. -/
theorem told_one {v : Int} {n m : Int} {p q : Bool} (h1 : p = true ∧ n = v ∧ fit v ∨ p = false ∧ n = 0 ∧ ¬ fit v) (h2 : q = true ∧ m = v ∧ fit v ∨ q = false ∧ m = 0 ∧ ¬ fit v) : m = n ∧ q = p := by
  rcases h1 with ⟨rfl, rfl, h⟩ | ⟨rfl, rfl, h⟩ <;> rcases h2 with ⟨rfl, rfl, k⟩ | ⟨rfl, rfl, k⟩
  · exact ⟨rfl, rfl⟩
  · exact absurd h k
  · exact absurd k h
  · exact ⟨rfl, rfl⟩
theorem told_zero {v : Int} {n : Int} {p : Bool} (h1 : p = true ∧ n = v ∧ fit v ∨ p = false ∧ n = 0 ∧ ¬ fit v) : p = false → n = 0 := by
  rcases h1 with ⟨rfl, rfl, h⟩ | ⟨rfl, rfl, h⟩
  · intro h; cases h
  · intro _; rfl

theorem prod_signed (x y u v : Int) (s t : Bool) (hx : x = signed s u) (hy : y = signed t v) : x * y = signed (!(s == t)) (u * v) := by
  subst hx hy
  cases s <;> cases t <;> simp [signed, Int.neg_mul, Int.mul_neg, Int.neg_neg]

/-- What the product's digits read as. -/
theorem prod_int (a b : Int) (ha : fit a) (hb : fit b) :
    ∃ (n : Int) (ok : Bool), (∀ w, Calls Try.prog 28 #[.agg #[.int .i64 (pdig (dig a) (dig b) 0), .int .i64 (pdig (dig a) (dig b) 1), .int .i64 (pdig (dig a) (dig b) 2), .int .i64 (pdig (dig a) (dig b) 3), .int .i64 (pdig (dig a) (dig b) 4), .int .i64 (pdig (dig a) (dig b) 5), .int .i64 (pdig (dig a) (dig b) 6), .int .i64 (pdig (dig a) (dig b) 7), .int .i64 (pdig (dig a) (dig b) 8), .int .i64 (pdig (dig a) (dig b) 9), .int .i64 (pdig (dig a) (dig b) 10), .int .i64 (pdig (dig a) (dig b) 11), .bool (!(decide (a < 0) == decide (b < 0)))]] w fun e w' => e = .returned (.tuple #[.int .i64 n, .bool ok]) ∧ Below w.heap.size w w') ∧ (ok = true ∧ n = a * b ∧ fit (a * b) ∨ ok = false ∧ n = 0 ∧ ¬ fit (a * b)) := by
  have hd := pdig_bd (dig a) (dig b) (dig_bd a ha) (dig_bd b hb)
  obtain ⟨n, ok, hc, hr⟩ := int_val (pdig (dig a) (dig b)) (!(decide (a < 0) == decide (b < 0))) hd
  refine ⟨n, ok, hc, ?_⟩
  have hv := pdig_val (dig a) (dig b)
  have ea : a = signed (decide (a < 0)) (val5 (dig a)) := (of_num a ha).2
  have eb : b = signed (decide (b < 0)) (val5 (dig b)) := (of_num b hb).2
  have hprod : a * b = signed (!(decide (a < 0) == decide (b < 0))) (val5 (dig a) * val5 (dig b)) := prod_signed _ _ _ _ _ _ ea eb
  have l0 := hd 0; have l1 := hd 1; have l2 := hd 2; have l3 := hd 3; have l4 := hd 4
  have l5 := hd 5; have l6 := hd 6; have l7 := hd 7; have l8 := hd 8; have l9 := hd 9
  have l10 : pdig (dig a) (dig b) 10 = 0 := rfl
  have l11 : pdig (dig a) (dig b) 11 = 0 := rfl
  have hn := val5_bd (dig a) (fun i _ => dig_bd a ha i)
  have hm := val5_bd (dig b) (fun i _ => dig_bd b hb i)
  have hV : 0 ≤ val5 (dig a) * val5 (dig b) := Int.mul_nonneg hn hm
  rw [hprod]
  generalize val5 (dig a) * val5 (dig b) = V at *
  generalize pdig (dig a) (dig b) = d at *
  generalize (!(decide (a < 0) == decide (b < 0))) = s at *
  clear hprod ea eb hn hm
  have hz : (∀ j, 4 ≤ j → j < 12 → d j = 0) → val4 d = V := by
    intro h
    have h4 := h 4 (by omega) (by omega); have h5 := h 5 (by omega) (by omega); have h6 := h 6 (by omega) (by omega); have h7 := h 7 (by omega) (by omega); have h8 := h 8 (by omega) (by omega); have h9 := h 9 (by omega) (by omega)
    rw [h4, h5, h6, h7, h8, h9] at hv
    omega
  have hbig : (∃ j, 4 ≤ j ∧ j < 12 ∧ d j ≠ 0) → 18446744073709551616 ≤ V := by
    rintro ⟨j, h1, h2, h3⟩
    have hl : 0 ≤ val4 d := by unfold val4; omega
    match j, h1, h2 with
    | 4, _, _ => omega
    | 5, _, _ => omega
    | 6, _, _ => omega
    | 7, _, _ => omega
    | 8, _, _ => omega
    | 9, _, _ => omega
    | 10, _, _ => exact absurd l10 h3
    | 11, _, _ => exact absurd l11 h3
  rcases hr with ⟨h1, h2, h3, h4⟩ | ⟨h1, h2, h3 | h3⟩
  · rw [hz h4] at h2 h3
    exact .inl ⟨h1, h2, h3⟩
  · refine .inr ⟨h1, h2, ?_⟩
    by_cases h4 : ∃ j, 4 ≤ j ∧ j < 12 ∧ d j ≠ 0
    · have := hbig h4
      cases s <;> (unfold fit signed; simp; omega)
    · rw [hz (fun j k1 k2 => Decidable.of_not_not fun k => h4 ⟨j, k1, k2, k⟩)] at h3
      exact h3
  · refine .inr ⟨h1, h2, ?_⟩
    have := hbig h3
    cases s <;> (unfold fit signed; simp; omega)


/-! ### Five digits: as what lies behind them is 0 -/
def pad (r : Nat → Int) (i : Nat) : Int := if i < 5 then r i else 0
theorem turn5 (r : Nat → Int) (q : Bool) (w : World) :
    Calls Try.prog 18 #[.agg #[.int .i64 (r 0), .int .i64 (r 1), .int .i64 (r 2), .int .i64 (r 3), .int .i64 (r 4), .int .i64 0, .int .i64 0, .int .i64 0, .int .i64 0, .int .i64 0, .int .i64 0, .int .i64 0, .bool q]] w fun e w' => e = .returned (.agg #[.int .i64 (r 0), .int .i64 (r 1), .int .i64 (r 2), .int .i64 (r 3), .int .i64 (r 4), .int .i64 0, .int .i64 0, .int .i64 0, .int .i64 0, .int .i64 0, .int .i64 0, .int .i64 0, .bool (!q)]) ∧ Below w.heap.size w w' :=
  turn_any (pad r) q w
theorem pad_bd (r : Nat → Int) (h : ∀ i, i < 5 → 0 ≤ r i ∧ r i < 65536) (i : Nat) : 0 ≤ pad r i ∧ pad r i < 65536 := by
  unfold pad
  split
  · exact h i (by omega)
  · omega
theorem int5 (r : Nat → Int) (q : Bool) (v : Int) (h : Num5 r q v) :
    ∃ (n : Int) (ok : Bool), (∀ w, Calls Try.prog 28 #[.agg #[.int .i64 (r 0), .int .i64 (r 1), .int .i64 (r 2), .int .i64 (r 3), .int .i64 (r 4), .int .i64 0, .int .i64 0, .int .i64 0, .int .i64 0, .int .i64 0, .int .i64 0, .int .i64 0, .bool q]] w fun e w' => e = .returned (.tuple #[.int .i64 n, .bool ok]) ∧ Below w.heap.size w w') ∧ (ok = true ∧ n = v ∧ fit v ∨ ok = false ∧ n = 0 ∧ ¬ fit v) := by
  obtain ⟨h1, rfl⟩ := h
  obtain ⟨n, ok, hc, hr⟩ := int_val (pad r) q (pad_bd r h1)
  refine ⟨n, ok, hc, ?_⟩
  have l0 := h1 0 (by omega); have l1 := h1 1 (by omega); have l2 := h1 2 (by omega); have l3 := h1 3 (by omega); have l4 := h1 4 (by omega)
  have e4 : pad r 4 = r 4 := rfl
  have ev : val4 (pad r) = r 0 + r 1 * 65536 + r 2 * 4294967296 + r 3 * 281474976710656 := rfl
  have es : (if q = true then -val5 r else val5 r) = signed q (val5 r) := rfl
  rw [es]
  have e5 : val5 r = val4 (pad r) + r 4 * 18446744073709551616 := by rw [ev]; unfold val5; omega
  have hz : r 4 = 0 ↔ ∀ j, 4 ≤ j → j < 12 → pad r j = 0 := by
    constructor
    · intro h j h2 h3
      by_cases h4 : j = 4
      · subst h4; rw [e4]; exact h
      · unfold pad; rw [if_neg (by omega)]
    · intro h; rw [← e4]; exact h 4 (by omega) (by omega)
  have hnf : r 4 ≠ 0 → ¬ fit (signed q (val5 r)) := by
    intro h
    rw [e5, ev]
    cases q <;> (unfold fit signed; simp; omega)
  rcases hr with ⟨k1, k2, k3, k4⟩ | ⟨k1, k2, k3 | ⟨j, k3, k4, k5⟩⟩
  · have := hz.2 k4
    have e6 : val5 r = val4 (pad r) := by omega
    rw [e6]
    exact .inl ⟨k1, k2, k3⟩
  · refine .inr ⟨k1, k2, ?_⟩
    by_cases h4 : r 4 = 0
    · have e6 : val5 r = val4 (pad r) := by omega
      rw [e6]; exact k3
    · exact hnf h4
  · refine .inr ⟨k1, k2, hnf fun h4 => k5 (hz.1 h4 j k3 k4)⟩
theorem same5 (n : Int) (ok : Bool) (r : Nat → Int) (q : Bool) (w : World) (c1 : ∀ w, Calls Try.prog 28 #[.agg #[.int .i64 (r 0), .int .i64 (r 1), .int .i64 (r 2), .int .i64 (r 3), .int .i64 (r 4), .int .i64 0, .int .i64 0, .int .i64 0, .int .i64 0, .int .i64 0, .int .i64 0, .int .i64 0, .bool q]] w fun e w' => e = .returned (.tuple #[.int .i64 n, .bool ok]) ∧ Below w.heap.size w w') (h0 : ok = false → n = 0) :
    Calls Try.prog 16 #[.int .i64 n, .bool ok, .agg #[.int .i64 (r 0), .int .i64 (r 1), .int .i64 (r 2), .int .i64 (r 3), .int .i64 (r 4), .int .i64 0, .int .i64 0, .int .i64 0, .int .i64 0, .int .i64 0, .int .i64 0, .int .i64 0, .bool q]] w fun e w' => e = .returned (.bool true) ∧ Below w.heap.size w w' :=
  same_true n ok (pad r) q w c1 h0
theorem num5_turn (r : Nat → Int) (q : Bool) (v : Int) (h : Num5 r q v) : Num5 r (!q) (-v) := by
  obtain ⟨h1, rfl⟩ := h
  refine ⟨h1, ?_⟩
  cases q <;> simp
theorem dig_size (n : Int) (h : fit n) : val5 (dig n) ≤ 9223372036854775808 := by
  have h1 := (of_num n h).2
  have h2 := val5_bd (dig n) (fun i _ => dig_bd n h i)
  unfold fit at h
  split at h1 <;> omega
end Go.Proofs.Ytobjmngfikmdhaa
