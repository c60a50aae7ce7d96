/-
  The contracts of Text and of the document's text: the names of the bits, or a dash. Conditions: numbers of 64 bits, where the document's answer is asked.
-/
import Derived.Test.YtlecnhegfacfcaaSBuild
import Derived.Test.YtlecnhegfacfcaaSRef
namespace Go.Proofs.Ytlecnhegfacfcaa
open Go.ChangeShapes Go.WideShapes Go.ChangeAt Go.RowKit

theorem bit_pow (k i : Nat) (hi : i < 64) : bitB (((2 ^ k : Nat)) : Int) i = decide (k = i) := by
  rw [bit_nat _ i hi, Nat.testBit_two_pow]
theorem and_pow (a : Int) (k : Nat) (hk : k < 14) : bits .and .i64 a (2 ^ pl k) = if bitsOf a k then 2 ^ pl k else 0 := by
  have h16 := pl_16 k hk
  have hlt : 2 ^ pl k < 65536 := Nat.pow_lt_pow_right (by decide) h16
  have e : ((2 : Int) ^ pl k) = ((2 ^ pl k : Nat) : Int) := by simp
  have hf : fit (((2 ^ pl k : Nat)) : Int) := fit_nat _ (by omega)
  rw [e]
  refine bits_ext _ _ (fit_bits _ _ _) (by split; exact hf; unfold fit; omega) fun i hi => ?_
  rw [bit_and, bit_pow _ i hi]
  by_cases h : pl k = i
  · subst h
    unfold bitsOf
    cases hb : bitB a (pl k)
    · have h0 := bit_nat 0 (pl k) hi
      simpa using h0.symm
    · simp only [if_true, decide_true, Bool.and_self]
      rw [bit_pow _ _ hi]; simp
  · rw [decide_eq_false h, Bool.and_false]
    split
    · rw [bit_pow _ i hi, decide_eq_false h]
    · have h0 := bit_nat 0 i hi
      simpa using h0.symm
theorem pow_ne (k : Nat) : ((2 : Int) ^ pl k) ≠ 0 := by
  have : 0 < (2 : Int) ^ pl k := Int.pow_pos (by decide)
  omega
set_option maxHeartbeats 1000000 in
set_option maxRecDepth 20000 in
theorem text_any (a : Int) (w : World) :
    Calls Try.prog 23 #[.int .i64 a] w fun e w' => e = .returned (.string ⟨(textL (bitsOf a)).toArray⟩) ∧ Below w.heap.size w w' := by
  go_enter Try.func23, Try.ntmps23
  go_wp2
  go_loopw [5] (fun i wr => ∃ k : Nat, k ≤ 14 ∧ i = .int .i64 k ∧ Lib.IsBuilder 47 5 w.heap.size w.heap.size (Lib.byteCells (textOf (bitsOf a) k)) wr ∧ Below w.heap.size w wr) (fun i _ => 14 - (intOf i).toNat)
  case atStart => exact ⟨0, by omega, rfl, Lib.fresh_isBuilder 47 5 w, (Below.refl _ w).alloc (Nat.le_refl _) _⟩
  case round =>
    obtain ⟨k, hk, rfl, hI, hbw⟩ := hrel
    have hsz := hbw.size
    by_cases hlt : k < 14
    · have cn := named_any k hlt
      have cm := meets_any a (2 ^ pl k)
      have ha := and_pow a k hlt
      have hp := pow_ne k
      cases hb : bitsOf a k
      · rw [hb] at ha
        simp only [Bool.false_eq_true, if_false] at ha
        rw [ha] at cm
        have HB := Lib.hid hb
        clear hb ha
        generalize (2 : Int) ^ pl k = P at cn cm hp
        go_wp2_with (first | (go_at_call 28; (with_reducible refine (cn _).mono ?_); rintro e w' ⟨rfl, rfl⟩) | (go_at_call 21; (with_reducible refine (cm _).mono ?_); rintro e w' ⟨rfl, rfl⟩))
        go_roundw
        case rel => exact ⟨k + 1, by omega, by go_num, by rw [text_no _ _ HB.out]; exact hI, hbw⟩
        case measure => simp [intOf]; omega
      · rw [hb] at ha
        simp only [if_true] at ha
        rw [ha] at cm
        have HB := Lib.hid hb
        have hsl : (⟨#[114, 119, 112, 115, 116, 122, 48, 49, 50, 51, 52, 53, 54, 55]⟩ : ByteArray).size = 14 := rfl
        have HL := Lib.hid (show (⟨#[114, 119, 112, 115, 116, 122, 48, 49, 50, 51, 52, 53, 54, 55]⟩ : ByteArray)[k]'(by rw [hsl]; exact hlt) = nameAt k from name_get k hlt)
        have hl14 : (textOf (bitsOf a) k).length + 1 ≤ 4096 := by have := text_len (bitsOf a) k; omega
        have c2 := write_any w.heap.size w.heap.size (Lib.byteCells (textOf (bitsOf a) k)) (((⟨#[114, 119, 112, 115, 116, 122, 48, 49, 50, 51, 52, 53, 54, 55]⟩ : ByteArray)[k]'(by rw [show (⟨#[114, 119, 112, 115, 116, 122, 48, 49, 50, 51, 52, 53, 54, 55]⟩ : ByteArray).size = 14 from rfl]; exact hlt)).toNat : Int) wr hI (by rw [Lib.byteCells_length]; exact hl14) hsz
        clear hb ha
        generalize (2 : Int) ^ pl k = P at cn cm hp
        have hp2 : (P == 0) = false := by simpa using hp
        go_wp2_with (first | (go_at_call 28; (with_reducible refine (cn _).mono ?_); rintro e w' ⟨rfl, rfl⟩) | (go_at_call 21; (with_reducible refine (cm _).mono ?_); rintro e w' ⟨rfl, rfl⟩) | (go_at_call 29; (with_reducible refine c2.mono ?_); rintro e w' ⟨rfl, hI2, hb2⟩))
        go_roundw
        case rel =>
          refine ⟨k + 1, by omega, by go_num, ?_, hbw.trans hb2⟩
          rw [text_yes _ _ HB.out, Lib.byteCells_append]
          rw [HL.out] at hI2
          exact Or.inr hI2
        case measure => simp [intOf]; omega
    · obtain rfl : k = 14 := by omega
      have c3 := str_any w.heap.size w.heap.size (textOf (bitsOf a) 14) wr hI hsz
      have c4 := len_any w.heap.size w.heap.size (Lib.byteCells (textOf (bitsOf a) 14)) wr hI
      rw [Lib.byteCells_length] at c4
      by_cases h0 : textOf (bitsOf a) 14 = []
      · have HR := Lib.hid (show textL (bitsOf a) = [45] by unfold textL; rw [if_pos h0])
        rw [h0] at c4
        clear h0 c3
        go_wp2_with (go_at_call 30; (with_reducible refine c4.mono ?_); rintro e w' ⟨rfl, rfl⟩)
        go_ret
        exact ⟨congrArg (fun l : List UInt8 => Ending.returned (.string ⟨l.toArray⟩)) HR.out.symm, hbw⟩
      · have HR := Lib.hid (show textL (bitsOf a) = textOf (bitsOf a) 14 by unfold textL; rw [if_neg h0])
        have hne : ((textOf (bitsOf a) 14).length : Int) ≠ 0 := fun e => h0 (List.length_eq_zero_iff.1 (by omega))
        generalize hc : ((textOf (bitsOf a) 14).length : Int) = c at c4 hne
        have hc0 : (c == 0) = false := by simpa using hne
        clear hc h0
        go_wp2_with (first | (go_at_call 30; (with_reducible refine c4.mono ?_); rintro e w' ⟨rfl, rfl⟩) | (go_at_call 31; (with_reducible refine c3.mono ?_); rintro e w' ⟨rfl, hb2⟩))
        go_ret
        exact ⟨congrArg (fun l : List UInt8 => Ending.returned (.string ⟨l.toArray⟩)) HR.out.symm, hbw.trans hb2⟩
end Go.Proofs.Ytlecnhegfacfcaa
