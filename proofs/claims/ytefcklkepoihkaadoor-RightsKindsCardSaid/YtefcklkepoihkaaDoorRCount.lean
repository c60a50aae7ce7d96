/-
  How many bits of All: the contract of Count, and of the library's count under it. Conditions: none.
-/
import Derived.Test.YtefcklkepoihkaaDoorRCalls
import Derived.Laws.BitsAllLaws
namespace Go.Proofs.YtefcklkepoihkaaDoor
open Go.ChangeShapes Go.WideShapes Go.ChangeAt Go.RowKit
set_option maxRecDepth 100000
/-- How many of the k lowest bits. -/
def cnt (n : Nat) : Nat → Nat
  | 0 => 0
  | k + 1 => cnt n k + (if n.testBit k then 1 else 0)
/-- The library's count, step by step. -/
def f1 (x : Nat) : Nat := ((x / 2 &&& 6148914691236517205) + (x &&& 6148914691236517205)) % 18446744073709551616
def f2 (x : Nat) : Nat := ((x / 4 &&& 3689348814741910323) + (x &&& 3689348814741910323)) % 18446744073709551616
def f3 (x : Nat) : Nat := (x / 16 + x) % 18446744073709551616 &&& 1085102592571150095
def f4 (x : Nat) : Nat := (x + x / 256) % 18446744073709551616
def f5 (x : Nat) : Nat := (x + x / 65536) % 18446744073709551616
def f6 (x : Nat) : Nat := (x + x / 4294967296) % 18446744073709551616
theorem f_cnt : ∀ n, n < 4096 → f6 (f5 (f4 (f3 (f2 (f1 n))))) % 128 = cnt n 12 := by decide +kernel
def i1 (x : Int) : Int := IntKind.u64.wrap (bits .and .u64 (x / 2) 6148914691236517205 + bits .and .u64 x 6148914691236517205)
def i2 (x : Int) : Int := IntKind.u64.wrap (bits .and .u64 (x / 4) 3689348814741910323 + bits .and .u64 x 3689348814741910323)
def i3 (x : Int) : Int := bits .and .u64 (IntKind.u64.wrap (x / 16 + x)) 1085102592571150095
def i4 (x : Int) : Int := IntKind.u64.wrap (x + x / 256)
def i5 (x : Int) : Int := IntKind.u64.wrap (x + x / 65536)
def i6 (x : Int) : Int := IntKind.u64.wrap (x + x / 4294967296)
theorem and_cast (x m : Nat) (hx : x < 18446744073709551616) (hm : m < 18446744073709551616) : bits .and .u64 (x : Int) (m : Int) = ((x &&& m : Nat) : Int) := u64_and_nat x m hx hm
theorem wrap_cast (x : Nat) : IntKind.u64.wrap (x : Int) = ((x % 18446744073709551616 : Nat) : Int) := by rw [IntKind.wrap_u64]; omega
theorem i1_cast (x : Nat) (hx : x < 18446744073709551616) : i1 x = (f1 x : Nat) ∧ f1 x < 18446744073709551616 := by
  refine ⟨?_, Nat.mod_lt _ (by decide)⟩
  have h1 := and_cast (x / 2) 6148914691236517205 (by omega) (by omega)
  have h2 := and_cast x 6148914691236517205 (by omega) (by omega)
  have h3 := wrap_cast ((x / 2 &&& 6148914691236517205) + (x &&& 6148914691236517205))
  simp only [Int.natCast_add, Int.natCast_ediv] at h1 h2 h3
  unfold i1 f1
  rw [← h3, ← h2, ← h1]; rfl
theorem i2_cast (x : Nat) (hx : x < 18446744073709551616) : i2 x = (f2 x : Nat) ∧ f2 x < 18446744073709551616 := by
  refine ⟨?_, Nat.mod_lt _ (by decide)⟩
  have h1 := and_cast (x / 4) 3689348814741910323 (by omega) (by omega)
  have h2 := and_cast x 3689348814741910323 (by omega) (by omega)
  have h3 := wrap_cast ((x / 4 &&& 3689348814741910323) + (x &&& 3689348814741910323))
  simp only [Int.natCast_add, Int.natCast_ediv] at h1 h2 h3
  unfold i2 f2
  rw [← h3, ← h2, ← h1]; rfl
theorem i3_cast (x : Nat) (_hx : x < 18446744073709551616) : i3 x = (f3 x : Nat) ∧ f3 x < 18446744073709551616 := by
  refine ⟨?_, Nat.lt_of_le_of_lt Nat.and_le_right (by decide)⟩
  have h3 := wrap_cast (x / 16 + x)
  have h1 := and_cast ((x / 16 + x) % 18446744073709551616) 1085102592571150095 (by omega) (by omega)
  unfold i3 f3
  rw [← h1, ← h3]
  simp only [Int.natCast_add, Int.natCast_ediv]; rfl
theorem i4_cast (x : Nat) : i4 x = (f4 x : Nat) ∧ f4 x < 18446744073709551616 := by
  refine ⟨?_, Nat.mod_lt _ (by decide)⟩
  unfold i4 f4; rw [← wrap_cast]; simp only [Int.natCast_add, Int.natCast_ediv]; rfl
theorem i5_cast (x : Nat) : i5 x = (f5 x : Nat) ∧ f5 x < 18446744073709551616 := by
  refine ⟨?_, Nat.mod_lt _ (by decide)⟩
  unfold i5 f5; rw [← wrap_cast]; simp only [Int.natCast_add, Int.natCast_ediv]; rfl
theorem i6_cast (x : Nat) : i6 x = (f6 x : Nat) ∧ f6 x < 18446744073709551616 := by
  refine ⟨?_, Nat.mod_lt _ (by decide)⟩
  unfold i6 f6; rw [← wrap_cast]; simp only [Int.natCast_add, Int.natCast_ediv]; rfl
theorem wrap64_eq (n : Int) : wrap64 n = IntKind.i64.wrap n := by
  simp [wrap64, IntKind.wrap, IntKind.bits, IntKind.signed]; omega
theorem and_127 (x : Nat) (hx : x < 18446744073709551616) : bits .and .i64 (wrap64 (x : Int)) 127 = ((x % 128 : Nat) : Int) := by
  refine bits_ext _ _ (fit_bits _ _ _) (by unfold fit; omega) fun i hi => ?_
  have h127 : ∀ i, i < 64 → bitB 127 i = decide (i < 7) := by decide +kernel
  rw [bit_and, h127 i hi]
  have e1 : bitB (wrap64 (x : Int)) i = x.testBit i := by
    rw [wrap64_eq]
    have : IntKind.i64.wrap (x : Int) = (BitVec.ofNat 64 x).toInt := by
      rw [← wrap_toNat, BitVec.toNat_ofNat, Nat.mod_eq_of_lt hx]
    rw [this]; unfold bitB
    rw [BitVec.ofInt_toInt, BitVec.getLsbD_ofNat]; simp [hi]
  have e2 : bitB ((x % 128 : Nat) : Int) i = (decide (i < 7) && x.testBit i) := by
    unfold bitB
    rw [BitVec.ofInt_natCast, BitVec.getLsbD_ofNat]
    rw [show (128 : Nat) = 2 ^ 7 from rfl, Nat.testBit_mod_two_pow]; simp [hi]
  rw [e1, e2, Bool.and_comm]
theorem ones_eq (n : Nat) (hn : n < 4096) : bits .and .i64 (wrap64 (i6 (i5 (i4 (i3 (i2 (i1 n))))))) 127 = ((cnt n 12 : Nat) : Int) := by
  obtain ⟨e1, b1⟩ := i1_cast n (by omega)
  obtain ⟨e2, b2⟩ := i2_cast _ b1
  obtain ⟨e3, b3⟩ := i3_cast _ b2
  obtain ⟨e4, b4⟩ := i4_cast (f3 (f2 (f1 n)))
  obtain ⟨e5, b5⟩ := i5_cast (f4 (f3 (f2 (f1 n))))
  obtain ⟨e6, b6⟩ := i6_cast (f5 (f4 (f3 (f2 (f1 n)))))
  rw [e1, e2, e3, e4, e5, e6, and_127 _ b6, f_cnt n hn]
theorem ones_any (n : Nat) (hn : n < 4096) (w : World) :
    Calls Tryd.prog 28 #[.int .u64 n] w fun e w' => e = .returned (.int .i64 ((cnt n 12 : Nat) : Int)) ∧ w = w' := by
  go_enter Tryd.func28, Tryd.ntmps28
  go_wp2
  go_ret
  exact ⟨ret_int (ones_eq n hn), rfl⟩
theorem count_any (a : Int) (w : World) :
    Calls Tryd.prog 19 #[.int .i64 a] w fun e w' => e = .returned (.int .i64 ((cnt (low a) 12 : Nat) : Int)) ∧ w = w' := by
  have h := and_4095 a
  have h2 : IntKind.u64.wrap ((low a : Nat) : Int) = ((low a : Nat) : Int) := by rw [wrap_cast]; have := low_lt a; omega
  have c := ones_any (low a) (low_lt a)
  go_enter Tryd.func19, Tryd.ntmps19
  go_wp2_with (go_at_call 28; (with_reducible refine (c _).mono ?_); rintro e w' ⟨rfl, rfl⟩)
  go_ret
  exact ⟨rfl, rfl⟩
end Go.Proofs.YtefcklkepoihkaaDoor
