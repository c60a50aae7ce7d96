/-
  Plain arithmetic under layer 5 (signal): the bits of a number of 64 bits. No run of the program in this text.
-/
import Derived.WalkKit
import Derived.Laws.Closers25b
import Derived.Laws.BitsAllLaws
namespace Go.Proofs.Ytacdhlhkpdlekaa
open Go.RowKit

/-- A number of 64 bits. -/
def fit (n : Int) : Prop := -9223372036854775808 ≤ n ∧ n ≤ 9223372036854775807
/-- The bit i of a number, as 64 bits. -/
def bitB (a : Int) (i : Nat) : Bool := (BitVec.ofInt 64 a).getLsbD i

theorem fit_bits (op : BinOp) (a b : Int) : fit (bits op .i64 a b) := ⟨bits_lo_i64 op a b, bits_hi_i64 op a b⟩

theorem wrap_toNat (x : BitVec 64) : IntKind.i64.wrap (x.toNat : Int) = x.toInt := by
  have hx := x.isLt
  rw [BitVec.toInt_eq_toNat_cond]
  have e : IntKind.i64.wrap (x.toNat : Int) = (if (x.toNat : Int) % 18446744073709551616 ≥ 9223372036854775808 then (x.toNat : Int) % 18446744073709551616 - 18446744073709551616 else (x.toNat : Int) % 18446744073709551616) := by
    simp [IntKind.wrap, IntKind.bits, IntKind.signed]
  rw [e]
  split <;> split <;> omega
theorem of_and (a b : Int) : BitVec.ofInt 64 (bits .and .i64 a b) = BitVec.ofInt 64 a &&& BitVec.ofInt 64 b := by
  show BitVec.ofInt 64 (IntKind.i64.wrap ((BitVec.ofInt 64 a &&& BitVec.ofInt 64 b).toNat : Int)) = _
  rw [wrap_toNat, BitVec.ofInt_toInt]
theorem of_or (a b : Int) : BitVec.ofInt 64 (bits .or .i64 a b) = BitVec.ofInt 64 a ||| BitVec.ofInt 64 b := by
  show BitVec.ofInt 64 (IntKind.i64.wrap ((BitVec.ofInt 64 a ||| BitVec.ofInt 64 b).toNat : Int)) = _
  rw [wrap_toNat, BitVec.ofInt_toInt]
theorem of_andNot (a b : Int) : BitVec.ofInt 64 (bits .andNot .i64 a b) = BitVec.ofInt 64 a &&& ~~~(BitVec.ofInt 64 b) := by
  show BitVec.ofInt 64 (IntKind.i64.wrap ((BitVec.ofInt 64 a &&& ~~~(BitVec.ofInt 64 b)).toNat : Int)) = _
  rw [wrap_toNat, BitVec.ofInt_toInt]

theorem bit_and (a b : Int) (i : Nat) : bitB (bits .and .i64 a b) i = (bitB a i && bitB b i) := by
  unfold bitB; rw [of_and, BitVec.getLsbD_and]
theorem bit_or (a b : Int) (i : Nat) : bitB (bits .or .i64 a b) i = (bitB a i || bitB b i) := by
  unfold bitB; rw [of_or, BitVec.getLsbD_or]
theorem bit_andNot (a b : Int) (i : Nat) (h : i < 64) : bitB (bits .andNot .i64 a b) i = (bitB a i && !bitB b i) := by
  unfold bitB; rw [of_andNot, BitVec.getLsbD_and, BitVec.getLsbD_not]; simp [h]

theorem of_inj (a b : Int) (ha : fit a) (hb : fit b) (h : BitVec.ofInt 64 a = BitVec.ofInt 64 b) : a = b := by
  unfold fit at *
  have e := congrArg BitVec.toInt h
  rw [BitVec.toInt_ofInt_eq_self (by omega) (by omega) (by omega), BitVec.toInt_ofInt_eq_self (by omega) (by omega) (by omega)] at e
  exact e
theorem bits_ext (a b : Int) (ha : fit a) (hb : fit b) (h : ∀ i, i < 64 → bitB a i = bitB b i) : a = b :=
  of_inj a b ha hb (BitVec.eq_of_getLsbD_eq fun i hi => h i hi)

theorem fit_div (a : Int) (ha : fit a) (i : Nat) : fit (a / 2 ^ i) := by
  unfold fit at *
  have h1 : (0 : Int) < 2 ^ i := Int.pow_pos (by decide)
  generalize (2 : Int) ^ i = p at h1
  have h2 : (9223372036854775808 : Int) * 1 ≤ 9223372036854775808 * p := Int.mul_le_mul_of_nonneg_left (by omega) (by decide)
  constructor
  · rw [Int.le_ediv_iff_mul_le h1]; omega
  · have : a / p < 9223372036854775808 := by rw [Int.ediv_lt_iff_lt_mul h1]; omega
    omega
theorem shr_one (a : Int) (ha : fit a) (i : Nat) (hi : i < 64) : bits .and .i64 (a / 2 ^ i) 1 = if bitB a i then 1 else 0 := by
  have e : BitVec.ofInt 64 (a / 2 ^ i) = (BitVec.ofInt 64 a).sshiftRight i := by
    refine BitVec.eq_of_toInt_eq ?_
    have hf := fit_div a ha i
    unfold fit at ha hf
    rw [BitVec.toInt_sshiftRight, BitVec.toInt_ofInt_eq_self (by omega) (by omega) (by omega), BitVec.toInt_ofInt_eq_self (by omega) (by omega) (by omega), Int.shiftRight_eq_div_pow]
    simp
  refine of_inj _ _ (fit_bits _ _ _) (by unfold fit; split <;> omega) ?_
  rw [of_and, e]
  refine BitVec.eq_of_getLsbD_eq fun j hj => ?_
  rw [BitVec.getLsbD_and]
  unfold bitB
  rcases Nat.eq_zero_or_pos j with rfl | hp
  · have : ((BitVec.ofInt 64 a).sshiftRight i).getLsbD 0 = (BitVec.ofInt 64 a).getLsbD i := by
      rw [BitVec.getLsbD_sshiftRight]; simp [hi]
    rw [this]
    cases (BitVec.ofInt 64 a).getLsbD i <;> rfl
  · have h1 : (BitVec.ofInt 64 1).getLsbD j = false := by
      show (1#64).getLsbD j = false
      rw [BitVec.getLsbD_one]; simp; omega
    rw [h1, Bool.and_false]
    split
    · exact h1.symm
    · simp

/-- Are all bits of b in a? -/
def hasB (a b : Int) : Bool := decide (bits .and .i64 a b = b)
theorem hasB_iff (a b : Int) (hb : fit b) : hasB a b = true ↔ ∀ i, i < 64 → bitB b i = true → bitB a i = true := by
  unfold hasB
  rw [decide_eq_true_iff]
  constructor
  · intro h i hi h1
    have := bit_and a b i
    rw [h, h1] at this
    simpa using this.symm
  · intro h
    refine bits_ext _ _ (fit_bits _ _ _) hb fun i hi => ?_
    rw [bit_and]
    have := h i hi
    cases hb' : bitB b i <;> simp_all
end Go.Proofs.Ytacdhlhkpdlekaa
