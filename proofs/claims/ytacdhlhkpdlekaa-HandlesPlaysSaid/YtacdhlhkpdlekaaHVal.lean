/-
  What Value, Place and the reference's Mod answer. No conditions but that the arguments are numbers of 64 bits.
-/
import Derived.Test.YtacdhlhkpdlekaaHBits
import Derived.Test.YtacdhlhkpdlekaaProg
import Derived.Outline
import Derived.Lib.Hide
import Derived.Deep.QuietTactic
import Derived.BigQuiet
import Derived.ProofKit
namespace Go.Proofs.Ytacdhlhkpdlekaa
open Go.ChangeShapes Go.WideShapes Go.ChangeAt Go.RowKit

theorem ret_bool {a b : Bool} (h : a = b) : Ending.returned (.bool a) = .returned (.bool b) := by rw [h]
theorem ret_int {k : IntKind} {a b : Int} (h : a = b) : Ending.returned (.int k a) = .returned (.int k b) := by rw [h]

theorem wrap_nat (n : Nat) (h : n < 9223372036854775808) : IntKind.i64.wrap (n : Int) = n := by
  have e : IntKind.i64.wrap (n : Int) = (if (n : Int) % 18446744073709551616 ≥ 9223372036854775808 then (n : Int) % 18446744073709551616 - 18446744073709551616 else (n : Int) % 18446744073709551616) := by
    simp [IntKind.wrap, IntKind.bits, IntKind.signed]
  rw [e]; split <;> omega
theorem or_nat (a b : Nat) (ha : a < 2 ^ 62) (hb : b < 2 ^ 62) : bits .or .i64 (a : Int) (b : Int) = ((a ||| b : Nat) : Int) := by
  show IntKind.i64.wrap ((BitVec.ofInt 64 a ||| BitVec.ofInt 64 b).toNat : Int) = _
  rw [BitVec.ofInt_natCast, BitVec.ofInt_natCast, BitVec.toNat_or, BitVec.toNat_ofNat, BitVec.toNat_ofNat, Nat.mod_eq_of_lt (by omega), Nat.mod_eq_of_lt (by omega)]
  have := Nat.or_lt_two_pow ha hb
  exact wrap_nat _ (by omega)
theorem and_nat (a b : Nat) (ha : a < 2 ^ 63) (hb : b < 2 ^ 63) : bits .and .i64 (a : Int) (b : Int) = ((a &&& b : Nat) : Int) := by
  show IntKind.i64.wrap ((BitVec.ofInt 64 a &&& BitVec.ofInt 64 b).toNat : Int) = _
  rw [BitVec.ofInt_natCast, BitVec.ofInt_natCast, BitVec.toNat_and, BitVec.toNat_ofNat, BitVec.toNat_ofNat, Nat.mod_eq_of_lt (by omega), Nat.mod_eq_of_lt (by omega)]
  have : a &&& b ≤ a := Nat.and_le_left
  exact wrap_nat _ (by omega)

/-- The value of a place and a draw. -/
def valS (p : Nat) (d : Int) : Int := (d % 65536) * 1048576 + p * 4 + 3
theorem valS_or (p : Nat) (d : Int) (hp : p < 65536) :
    bits .or .i64 (bits .or .i64 ((d % 65536) * 1048576) ((p : Int) * 4)) 3 = valS p d := by
  obtain ⟨k, hk, hk'⟩ : ∃ k : Nat, d % 65536 = k ∧ k < 65536 := ⟨(d % 65536).toNat, by omega, by omega⟩
  unfold valS
  rw [hk]
  have e1 : (k : Int) * 1048576 = ((2 ^ 20 * k : Nat) : Int) := by omega
  have e2 : (p : Int) * 4 = ((2 ^ 2 * p : Nat) : Int) := by omega
  rw [e1, e2, or_nat _ _ (by omega) (by omega), ← Nat.two_pow_add_eq_or_of_lt (by omega)]
  have e3 : 2 ^ 20 * k + 2 ^ 2 * p = 2 ^ 2 * (2 ^ 18 * k + p) := by omega
  rw [e3, show (3 : Int) = ((3 : Nat) : Int) from rfl, or_nat _ _ (by omega) (by omega), ← Nat.two_pow_add_eq_or_of_lt (by omega)]
  omega

/-- The place in a value; -1, if it is no value. -/
def placeS (v : Int) : Int := if v < 0 ∨ 68719476736 ≤ v ∨ v % 4 ≠ 3 ∨ 65536 ≤ v / 4 % 262144 then -1 else v / 4 % 262144

theorem wrap64_small (n : Nat) (h : n < 9223372036854775808) : wrap64 (n : Int) = n := by unfold wrap64; omega
theorem draw16 (d : Int) : wrap64 ((IntKind.u64.wrap d).tmod 65536) = d % 65536 := by
  have e : IntKind.u64.wrap d = d % 18446744073709551616 := by simp [IntKind.wrap, IntKind.bits, IntKind.signed]
  have h0 : 0 ≤ d % 18446744073709551616 := Int.emod_nonneg _ (by decide)
  rw [e, Int.tmod_eq_emod_of_nonneg h0, Int.emod_emod_of_dvd d (show (65536 : Int) ∣ 18446744073709551616 by decide)]
  obtain ⟨k, hk, hk'⟩ : ∃ k : Nat, d % 65536 = k ∧ k < 65536 := ⟨(d % 65536).toNat, by omega, by omega⟩
  rw [hk]
  exact wrap64_small k (by omega)
theorem draw36 (d : Int) : wrap64 (wrap64 ((IntKind.u64.wrap d).tmod 65536) * 1048576) = d % 65536 * 1048576 := by
  rw [draw16 d]
  obtain ⟨k, hk, hk'⟩ : ∃ k : Nat, d % 65536 = k ∧ k < 65536 := ⟨(d % 65536).toNat, by omega, by omega⟩
  rw [hk, show (k : Int) * 1048576 = ((k * 1048576 : Nat) : Int) by omega, wrap64_small _ (by omega)]
theorem tmod_neg (d : Int) : ∃ t, d.tmod 65536 = t ∧ -65536 < t ∧ t < 65536 ∧ (t = d % 65536 ∧ 0 ≤ t ∨ t + 65536 = d % 65536 ∧ t < 0) := by
  refine ⟨_, rfl, ?_⟩
  rcases Int.le_total 0 d with h0 | h0
  · rw [Int.tmod_eq_emod_of_nonneg h0]; omega
  · have h := Int.neg_tmod (-d) 65536
    rw [Int.neg_neg] at h
    rw [h, Int.tmod_eq_emod_of_nonneg (by omega)]
    omega

theorem value_yes (p : Nat) (d : Int) (w : World) (hp : p < 65536) :
    Calls Try.prog 19 #[.int .i64 p, .int .i64 d] w fun e w' => e = .returned (.int .i64 (valS p d)) ∧ w = w' := by
  have H := Lib.hid (show bits .or .i64 (bits .or .i64 (wrap64 (wrap64 ((IntKind.u64.wrap d).tmod 65536) * 1048576)) ((p : Int) * 4)) 3 = valS p d by rw [draw36 d]; exact valS_or p d hp)
  go_enter Try.func19, Try.ntmps19
  go_wp2
  go_ret
  exact ⟨ret_int H.out, rfl⟩
theorem value_no (p d : Int) (w : World) (hp : p < 0 ∨ (0 ≤ p ∧ 65536 ≤ p)) :
    Calls Try.prog 19 #[.int .i64 p, .int .i64 d] w fun e w' => e = .returned (.int .i64 0) ∧ w = w' := by
  rcases hp with h | ⟨h, h'⟩
  all_goals
    go_enter Try.func19, Try.ntmps19
    go_wp2
    go_ret
    exact ⟨rfl, rfl⟩
theorem mod_any (d : Int) (w : World) :
    Calls Try.prog 20 #[.int .i64 d] w fun e w' => e = .returned (.int .i64 (d % 65536)) ∧ w = w' := by
  obtain ⟨t, ht, h1, h2, h3⟩ := tmod_neg d
  rcases h3 with ⟨h3, h4⟩ | ⟨h3, h4⟩
  all_goals
    rw [← h3]
    clear h3
    go_enter Try.func20, Try.ntmps20
    go_wp2
    go_ret
    exact ⟨rfl, rfl⟩
theorem place_any (v : Int) (w : World) (hv : fit v) :
    Calls Try.prog 21 #[.int .i64 v] w fun e w' => e = .returned (.int .i64 (placeS v)) ∧ w = w' := by
  unfold fit at hv
  unfold placeS
  by_cases h1 : v < 0
  · rw [if_pos (.inl h1)]
    go_enter Try.func21, Try.ntmps21
    go_wp2
    go_ret
    exact ⟨rfl, rfl⟩
  by_cases h2 : 68719476736 ≤ v
  · rw [if_pos (.inr (.inl h2))]
    go_enter Try.func21, Try.ntmps21
    go_wp2
    go_ret
    exact ⟨rfl, rfl⟩
  have hb : bits .and .i64 v 3 = v % 4 := by
    obtain ⟨n, rfl⟩ : ∃ n : Nat, v = n := ⟨v.toNat, by omega⟩
    rw [show (3 : Int) = ((3 : Nat) : Int) from rfl, and_nat _ _ (by omega) (by omega), show (3 : Nat) = 2 ^ 2 - 1 from rfl, Nat.and_two_pow_sub_one_eq_mod]
    omega
  by_cases h3 : v % 4 = 3
  · have hb' : bits .and .i64 v 3 = 3 := by rw [hb, h3]
    by_cases h4 : 65536 ≤ v / 4 % 262144
    · rw [if_pos (.inr (.inr (.inr h4)))]
      clear hb
      go_enter Try.func21, Try.ntmps21
      go_wp2
      go_ret
      exact ⟨rfl, rfl⟩
    · rw [if_neg (by omega)]
      clear hb
      go_enter Try.func21, Try.ntmps21
      go_wp2
      go_ret
      exact ⟨rfl, rfl⟩
  · rw [if_pos (.inr (.inr (.inl h3)))]
    have hb' : (bits .and .i64 v 3 != 3) = true := by rw [hb]; simp [h3]
    clear hb
    go_enter Try.func21, Try.ntmps21
    go_wp2
    go_ret
    exact ⟨rfl, rfl⟩
end Go.Proofs.Ytacdhlhkpdlekaa
