/-
  More plain arithmetic for the statements of layer 1 (num); no run of the program in this text.
-/
import Derived.Test.YtobjmngfikmdhaaNumMath
namespace Go.Proofs.Ytobjmngfikmdhaa
open Go.RowKit

theorem hide {p : Prop} (h : p) : Hid p := h

theorem prod_strict (a b P : Int) (h : a * b = P) : (0 < a → 0 < b → 0 < P) ∧ (a < 0 → b < 0 → 0 < P) ∧ (a < 0 → 0 < b → P < 0) ∧ (0 < a → b < 0 → P < 0) := by
  subst h
  exact ⟨fun h1 h2 => Int.mul_pos h1 h2, fun h1 h2 => Int.mul_pos_of_neg_of_neg h1 h2, fun h1 h2 => Int.mul_neg_of_neg_of_pos h1 h2, fun h1 h2 => Int.mul_neg_of_pos_of_neg h1 h2⟩
theorem sign_check (a b P : Int) (ha : a ≠ 0) (hb : b ≠ 0) (hs : (0 < a → 0 < b → 0 < P) ∧ (a < 0 → b < 0 → 0 < P) ∧ (a < 0 → 0 < b → P < 0) ∧ (0 < a → b < 0 → P < 0)) :
    (decide (P < 0) != (decide (a < 0) != decide (b < 0))) = false := by
  by_cases h1 : a < 0 <;> by_cases h2 : b < 0
  · have e : ¬ P < 0 := by omega
    rw [decide_eq_true h1, decide_eq_true h2, decide_eq_false e]; rfl
  · have e : P < 0 := by omega
    rw [decide_eq_true h1, decide_eq_false h2, decide_eq_true e]; rfl
  · have e : P < 0 := by omega
    rw [decide_eq_false h1, decide_eq_true h2, decide_eq_true e]; rfl
  · have e : ¬ P < 0 := by omega
    rw [decide_eq_false h1, decide_eq_false h2, decide_eq_false e]; rfl
theorem and_one_i64 (x : Nat) (h : x < 9223372036854775808) : bits .and .i64 (x : Int) 1 = ((x % 2 : Nat) : Int) := by
  show IntKind.i64.wrap ((BitVec.ofInt 64 (x : Int) &&& BitVec.ofInt 64 1).toNat : Int) = _
  have e : (BitVec.ofInt 64 (x : Int) &&& BitVec.ofInt 64 1).toNat = x % 2 := by
    rw [BitVec.toNat_and, BitVec.ofInt_natCast, BitVec.toNat_ofNat, Nat.mod_eq_of_lt (by omega)]
    exact Nat.and_one_is_mod x
  rw [e]
  have : x % 2 < 2 := Nat.mod_lt _ (by omega)
  simp [IntKind.wrap, IntKind.bits, IntKind.signed]
  omega

/-- The sum of n times those powers of 2 below the k-th that make up F, modulo 2^64. -/
def partOf (F : Nat) (n : Int) : Nat → Int
  | 0 => 0
  | k + 1 => if F / 2 ^ k % 2 = 1 then (partOf F n k + n * 2 ^ k) % 18446744073709551616 else partOf F n k
def bitOf (F k : Nat) : Bool := decide (F / 2 ^ k % 2 = 1)
theorem bit_test_of (F k : Nat) (hF : F < 9223372036854775808) : (bits .and .i64 ((F : Int) / 2 ^ k) 1 == 1) = bitOf F k := by
  have h : F / 2 ^ k < 9223372036854775808 := Nat.lt_of_le_of_lt (Nat.div_le_self _ _) hF
  have e : ((F : Int) / 2 ^ k) = ((F / 2 ^ k : Nat) : Int) := by
    rw [Int.natCast_ediv, Int.natCast_pow]; rfl
  rw [e, and_one_i64 _ h]
  unfold bitOf
  generalize F / 2 ^ k = y
  rw [Bool.eq_iff_iff, beq_iff_eq, decide_eq_true_eq]
  omega
theorem wrap_sum (p n q : Int) : IntKind.u64.wrap (p + IntKind.u64.wrap (IntKind.u64.wrap n * q)) = (p + n * q) % 18446744073709551616 := by
  have e : (n % 18446744073709551616 * q) % 18446744073709551616 = n * q % 18446744073709551616 := by
    rw [Int.mul_emod (n % 18446744073709551616), Int.emod_emod_of_dvd n (Int.dvd_refl _), ← Int.mul_emod]
  rw [IntKind.wrap_u64, IntKind.wrap_u64, IntKind.wrap_u64, e, Int.add_emod_emod]
theorem partOf_true (F : Nat) (n : Int) (k : Nat) (h : bitOf F k = true) : IntKind.u64.wrap (partOf F n k + IntKind.u64.wrap (IntKind.u64.wrap n * 2 ^ k)) = partOf F n (k + 1) := by
  rw [wrap_sum]
  unfold bitOf at h
  rw [partOf, if_pos (of_decide_eq_true h)]
theorem partOf_false (F : Nat) (n : Int) (k : Nat) (h : bitOf F k = false) : partOf F n k = partOf F n (k + 1) := by
  unfold bitOf at h
  rw [partOf, if_neg (of_decide_eq_false h)]
theorem partOf_eq (F : Nat) (n : Int) (k : Nat) : partOf F n k = n * ((F % 2 ^ k : Nat) : Int) % 18446744073709551616 := by
  induction k with
  | zero => rw [partOf, Nat.pow_zero, Nat.mod_one]; simp
  | succ k ih =>
    rw [partOf, Nat.mod_pow_succ]
    by_cases h : F / 2 ^ k % 2 = 1
    · rw [if_pos h, h, ih, Int.emod_add_emod]
      congr 1
      rw [Nat.mul_one, Int.natCast_add, Int.mul_add, Int.natCast_pow]
      rfl
    · have h0 : F / 2 ^ k % 2 = 0 := by omega
      rw [if_neg h, h0, ih, Nat.mul_zero, Nat.add_zero]

/-- At the document's factor. -/
def factor : Nat := 2862933555777941757
def part (n : Int) (k : Nat) : Int := partOf factor n k
def bit (k : Nat) : Bool := bitOf factor k
theorem bit_test (k : Nat) : (bits .and .i64 (2862933555777941757 / 2 ^ k) 1 == 1) = bit k := bit_test_of factor k (by unfold factor; omega)
theorem part_zero (n : Int) : part n 0 = 0 := rfl
theorem part_true (n : Int) (k : Nat) (h : bit k = true) : IntKind.u64.wrap (part n k + IntKind.u64.wrap (IntKind.u64.wrap n * 2 ^ k)) = part n (k + 1) := partOf_true factor n k h
theorem part_false (n : Int) (k : Nat) (h : bit k = false) : part n k = part n (k + 1) := partOf_false factor n k h
theorem part_all (n : Int) : part n 64 = n * 2862933555777941757 % 18446744073709551616 := partOf_eq factor n 64
/-- What the law holds the answer against. -/
theorem mixes_end (n : Int) : (IntKind.u64.wrap (mixv n) == bits .and .u64 (IntKind.u64.wrap (part n 64 + 3037000493)) 9223372036854775807) = true := by
  rw [beq_iff_eq, mask63, part_all, IntKind.wrap_u64]
  have h := mixv_nonneg n
  rw [Int.emod_eq_of_lt h.1 (by omega)]
  unfold mixv
  generalize n * 2862933555777941757 = X
  omega
end Go.Proofs.Ytobjmngfikmdhaa
