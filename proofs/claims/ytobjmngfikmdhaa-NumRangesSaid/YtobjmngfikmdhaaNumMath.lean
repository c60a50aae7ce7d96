/-
  Plain arithmetic under layer 1 (num): when a sum, a difference or a product of two numbers of 64 bits is a number; no run of the program in this text.
-/
import Derived.WalkKit
namespace Go.Proofs.Ytobjmngfikmdhaa
open Go.RowKit

/-- A number of 64 bits. -/
def fit (n : Int) : Prop := -9223372036854775808 ≤ n ∧ n ≤ 9223372036854775807

theorem wrap_i64_toInt (x : BitVec 64) : IntKind.i64.wrap (x.toNat : Int) = x.toInt := by
  have hx := x.isLt
  rw [BitVec.toInt_eq_toNat_cond]
  have e : IntKind.i64.wrap (x.toNat : Int) = (if (x.toNat : Int) % 18446744073709551616 ≥ 9223372036854775808 then (x.toNat : Int) % 18446744073709551616 - 18446744073709551616 else (x.toNat : Int) % 18446744073709551616) := by
    simp [IntKind.wrap, IntKind.bits, IntKind.signed]
  rw [e]
  split <;> split <;> omega

theorem and_i64 (a b : Int) : bits .and .i64 a b = (BitVec.ofInt 64 a &&& BitVec.ofInt 64 b).toInt := by
  show IntKind.i64.wrap ((BitVec.ofInt 64 a &&& BitVec.ofInt 64 b).toNat : Int) = _
  exact wrap_i64_toInt _
theorem xor_i64 (a b : Int) : bits .xor .i64 a b = (BitVec.ofInt 64 a ^^^ BitVec.ofInt 64 b).toInt := by
  show IntKind.i64.wrap ((BitVec.ofInt 64 a ^^^ BitVec.ofInt 64 b).toNat : Int) = _
  exact wrap_i64_toInt _

theorem msb_ofInt (a : Int) (h : fit a) : (BitVec.ofInt 64 a).msb = decide (a < 0) := by
  unfold fit at h
  rw [BitVec.msb_eq_toInt, BitVec.toInt_ofInt_eq_self (by omega) (by omega) (by omega)]

/-- The sign of '(a ^ b) & (c ^ d)'. -/
theorem sign_of (a b c d : Int) (ha : fit a) (hb : fit b) (hc : fit c) (hd : fit d) :
    bits .and .i64 (bits .xor .i64 a b) (bits .xor .i64 c d) < 0 ↔ (a < 0 ↔ ¬ b < 0) ∧ (c < 0 ↔ ¬ d < 0) := by
  rw [and_i64, xor_i64, xor_i64, BitVec.ofInt_toInt, BitVec.ofInt_toInt, ← decide_eq_true_eq (p := BitVec.toInt _ < 0), ← BitVec.msb_eq_toInt, BitVec.msb_and, BitVec.msb_xor, BitVec.msb_xor,
    msb_ofInt a ha, msb_ofInt b hb, msb_ofInt c hc, msb_ofInt d hd]
  simp only [Bool.and_eq_true, bne_iff_ne, ne_eq, decide_eq_decide]
  omega

theorem add_lt (a b : Int) (ha : fit a) (hb : fit b) (h : fit (a + b)) :
    0 ≤ bits .and .i64 (bits .xor .i64 a (a + b)) (bits .xor .i64 b (a + b)) := by
  have := sign_of a (a + b) b (a + b) ha h hb h
  unfold fit at *; omega
theorem add_ge (a b : Int) (ha : fit a) (hb : fit b) (h : ¬ fit (a + b)) :
    bits .and .i64 (bits .xor .i64 a (wrap64 (a + b))) (bits .xor .i64 b (wrap64 (a + b))) < 0 := by
  have hw : fit (wrap64 (a + b)) := by unfold fit wrap64; omega
  have := sign_of a (wrap64 (a + b)) b (wrap64 (a + b)) ha hw hb hw
  unfold fit wrap64 at *; omega
theorem sub_lt (a b : Int) (ha : fit a) (hb : fit b) (h : fit (a - b)) :
    0 ≤ bits .and .i64 (bits .xor .i64 a b) (bits .xor .i64 a (a - b)) := by
  have := sign_of a b a (a - b) ha hb ha h
  unfold fit at *; omega
theorem sub_ge (a b : Int) (ha : fit a) (hb : fit b) (h : ¬ fit (a - b)) :
    bits .and .i64 (bits .xor .i64 a b) (bits .xor .i64 a (wrap64 (a - b))) < 0 := by
  have hw : fit (wrap64 (a - b)) := by unfold fit wrap64; omega
  have := sign_of a b a (wrap64 (a - b)) ha hb ha hw
  unfold fit wrap64 at *; omega

/-- n times 2862933555777941757, and 3037000493, modulo 2^63. -/
def mixv (n : Int) : Int := (n * 2862933555777941757 + 3037000493) % 9223372036854775808

theorem mask63 (n : Int) : bits .and .u64 (IntKind.u64.wrap n) 9223372036854775807 = n % 9223372036854775808 := by
  rw [IntKind.wrap_u64]
  have h := bits_and_u64_nat (n % 18446744073709551616).toNat 9223372036854775807 (by omega) (by omega)
  have e : (n % 18446744073709551616).toNat &&& 9223372036854775807 = (n % 18446744073709551616).toNat % 9223372036854775808 := Nat.and_two_pow_sub_one_eq_mod _ 63
  rw [e] at h
  have c : (((n % 18446744073709551616).toNat : Nat) : Int) = n % 18446744073709551616 := by omega
  rw [c] at h
  rw [show (9223372036854775807 : Int) = ((9223372036854775807 : Nat) : Int) from rfl, h]
  omega
theorem mix_mod (n : Int) : (n % 18446744073709551616 * 2862933555777941757 % 18446744073709551616 + 3037000493) % 9223372036854775808 = (n * 2862933555777941757 + 3037000493) % 9223372036854775808 := by
  obtain ⟨k, hk⟩ : ∃ k, n % 18446744073709551616 * 2862933555777941757 = n * 2862933555777941757 - 9223372036854775808 * k :=
    ⟨2 * 2862933555777941757 * (n / 18446744073709551616), by omega⟩
  rw [hk]
  generalize n * 2862933555777941757 = X
  obtain ⟨j, hj⟩ : ∃ j, (X - 9223372036854775808 * k) % 18446744073709551616 = X - 9223372036854775808 * j :=
    ⟨k + 2 * ((X - 9223372036854775808 * k) / 18446744073709551616), by omega⟩
  rw [hj]
  omega
theorem mix_eq (n : Int) :
    wrap64 (bits .and .u64 (IntKind.u64.wrap (IntKind.u64.wrap (IntKind.u64.wrap n * 2862933555777941757) + 3037000493)) 9223372036854775807) = mixv n := by
  rw [mask63, IntKind.wrap_u64, IntKind.wrap_u64, mix_mod]
  unfold wrap64 mixv
  omega
theorem mixv_nonneg (n : Int) : 0 ≤ mixv n ∧ mixv n ≤ 9223372036854775807 := by unfold mixv; omega

theorem emod_le (n to : Int) (hn : 0 ≤ n) (ht : 1 ≤ to) : 0 ≤ n % to ∧ n % to ≤ n ∧ n % to < to := by
  have h1 := Int.mul_ediv_add_emod n to
  have h2 : 0 ≤ to * (n / to) := Int.mul_nonneg (by omega) (Int.ediv_nonneg hn (by omega))
  have h3 := Int.emod_nonneg n (b := to) (by omega)
  have h4 := Int.emod_lt_of_pos n (b := to) (by omega)
  omega

/-- The least of four. -/
def min4 (a n b m : Int) : Int := min (min (min a n) b) m
theorem min4_nonneg (a n b m : Int) : 0 ≤ min4 a n b m ↔ 0 ≤ a ∧ 0 ≤ n ∧ 0 ≤ b ∧ 0 ≤ m := by unfold min4; omega
theorem run_min_four {P : Program} (w : World) (ts : Array TypeId) (t : TypeId) (a n b m : Int) :
    (Builtin.min_ ts t #[.int .i64 a, .int .i64 n, .int .i64 b, .int .i64 m]).run P w = .ok (.int .i64 (min4 a n b m)) w := by
  have e : min4 a n b m = (if m < (if b < (if n < a then n else a) then b else (if n < a then n else a)) then m else (if b < (if n < a then n else a) then b else (if n < a then n else a))) := by
    unfold min4; omega
  rw [e]
  simp [Builtin.min_, Builtin.min2]

/-! The product of two numbers of 64 bits without sign, by halves: each step is a natural number. -/
theorem half_of (a : Nat) (ha : a < 18446744073709551616) : bits .and .u64 (a : Int) 4294967295 = ((a % 4294967296 : Nat) : Int) := by
  have h := bits_and_u64_nat a 4294967295 ha (by omega)
  rw [show a &&& 4294967295 = a % 4294967296 from Nat.and_two_pow_sub_one_eq_mod a 32] at h
  exact h
theorem div_cast (a : Nat) : (a : Int) / 4294967296 = ((a / 4294967296 : Nat) : Int) := by omega
theorem mul_cast (a b : Nat) : (a : Int) * (b : Int) = ((a * b : Nat) : Int) := (Int.natCast_mul a b).symm
theorem add_cast (a b : Nat) : (a : Int) + (b : Int) = ((a + b : Nat) : Int) := (Int.natCast_add a b).symm
theorem wrap_small (a : Nat) (ha : a < 18446744073709551616) : IntKind.u64.wrap (a : Int) = (a : Int) := by rw [IntKind.wrap_u64]; omega
theorem wrap_rest (a : Nat) : IntKind.u64.wrap (a : Int) = ((a % 18446744073709551616 : Nat) : Int) := by rw [IntKind.wrap_u64]; omega

theorem natAbs_prod (a b : Int) : a.natAbs * b.natAbs = (a * b).natAbs := (Int.natAbs_mul a b).symm
theorem prod_sign (a b : Int) : (0 ≤ a → 0 ≤ b → 0 ≤ a * b) ∧ (a < 0 → b < 0 → 0 ≤ a * b) ∧ (a < 0 → 0 ≤ b → a * b ≤ 0) ∧ (0 ≤ a → b < 0 → a * b ≤ 0) :=
  ⟨fun h1 h2 => Int.mul_nonneg h1 h2, fun h1 h2 => Int.mul_nonneg_of_nonpos_of_nonpos (by omega) (by omega), fun h1 h2 => Int.mul_nonpos_of_nonpos_of_nonneg (by omega) h2, fun h1 h2 => Int.mul_nonpos_of_nonneg_of_nonpos h1 (by omega)⟩

/-- What is known of a product that is a number of 64 bits, by the signs. -/
theorem natAbs_le (a : Int) (h : fit a) : a.natAbs < 18446744073709551616 := by unfold fit at h; omega
theorem prod_cases (a b : Int) : a * b = ((a.natAbs * b.natAbs : Nat) : Int) ∧ ((decide (a < 0) = true ∧ decide (b < 0) = true) ∨ (decide (a < 0) = false ∧ decide (b < 0) = false)) ∨ a * b = -((a.natAbs * b.natAbs : Nat) : Int) ∧ ((decide (a < 0) = true ∧ decide (b < 0) = false) ∨ (decide (a < 0) = false ∧ decide (b < 0) = true)) := by
  have h := prod_sign a b
  have e := natAbs_prod a b
  simp only [decide_eq_true_eq, decide_eq_false_iff_not]
  omega
theorem neg_wrap (p : Nat) (h : p ≤ 9223372036854775808) : wrap64 (IntKind.u64.wrap (-(p : Int))) = -(p : Int) := by
  rw [IntKind.wrap_u64]; unfold wrap64; omega
theorem pos_wrap (p : Nat) (h : p ≤ 9223372036854775807) : wrap64 (p : Int) = (p : Int) := by unfold wrap64; omega

theorem same_rest (X Y H : Int) (h : X % H = Y % H) : X - Y = H * (X / H - Y / H) := by
  have h1 := Int.mul_ediv_add_emod X H
  have h2 := Int.mul_ediv_add_emod Y H
  rw [Int.mul_sub]
  omega
theorem undo_factor (d F G H T k : Int) (h1 : F * G - H * T = 1) (h : d * F = H * k) : d = H * (k * G - d * T) :=
  calc d = d * (F * G - H * T) := by rw [h1, Int.mul_one]
    _ = (d * F) * G - H * (d * T) := by rw [Int.mul_sub, Int.mul_assoc, Int.mul_left_comm d H T]
    _ = H * (k * G - d * T) := by rw [h, Int.mul_sub, Int.mul_assoc]
theorem affine_iff (a b F A G H T : Int) (h1 : F * G - H * T = 1) : (a * F + A) % H = (b * F + A) % H ↔ a % H = b % H := by
  constructor
  · intro h
    have h2 := same_rest _ _ _ h
    have h3 : (a - b) * F = H * ((a * F + A) / H - (b * F + A) / H) := by rw [← h2, Int.sub_mul]; omega
    have h4 := undo_factor (a - b) F G H T _ h1 h3
    have h5 : a = b + H * (((a * F + A) / H - (b * F + A) / H) * G - (a - b) * T) := by omega
    rw [h5, Int.add_mul_emod_self_left]
  · intro h
    have h2 := same_rest _ _ _ h
    have h3 : a * F + A = b * F + A + H * ((a / H - b / H) * F) := by
      rw [← Int.mul_assoc, ← h2, Int.sub_mul]; omega
    rw [h3, Int.add_mul_emod_self_left]
theorem mixv_iff (a b : Int) : mixv a = mixv b ↔ a % 9223372036854775808 = b % 9223372036854775808 :=
  affine_iff a b 2862933555777941757 3037000493 6910325060097862741 9223372036854775808 2144964056186308417 (by decide)
theorem mixed_eq (a b : Int) : (mixv a == mixv b) = (IntKind.u64.wrap (IntKind.u64.wrap a * 2) == IntKind.u64.wrap (IntKind.u64.wrap b * 2)) := by
  rw [Bool.eq_iff_iff, beq_iff_eq, beq_iff_eq, mixv_iff, IntKind.wrap_u64, IntKind.wrap_u64, IntKind.wrap_u64, IntKind.wrap_u64]
  omega
end Go.Proofs.Ytobjmngfikmdhaa
