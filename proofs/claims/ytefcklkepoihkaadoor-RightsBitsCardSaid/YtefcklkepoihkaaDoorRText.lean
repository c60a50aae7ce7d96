/-
  The contract of Text: the letters of the bits of All, or a dash. Conditions: none.
-/
import Derived.Test.YtefcklkepoihkaaDoorRBuild
import Derived.Test.YtefcklkepoihkaaDoorRCount
import Derived.Test.YtefcklkepoihkaaDoorRLet
namespace Go.Proofs.YtefcklkepoihkaaDoor
open Go.ChangeShapes Go.WideShapes Go.ChangeAt Go.RowKit

theorem cnt_zero_b : (List.range 4096).all (fun n => decide (cnt n 12 = 0) == decide (n = 0)) = true := by decide +kernel
theorem cnt_zero (n : Nat) (h : n < 4096) : cnt n 12 = 0 ↔ n = 0 := by simpa using all_range cnt_zero_b n h
theorem letters_le (n k : Nat) : (lettersOf n k).length ≤ k := by
  induction k with
  | zero => simp [lettersOf]
  | succ k ih => rw [lettersOf]; split <;> simp <;> omega
set_option maxHeartbeats 1000000 in
set_option maxRecDepth 20000 in
theorem text_any (a : Int) (w : World) :
    Calls Tryd.prog 23 #[.int .i64 a] w fun e w' => e = .returned (.string ⟨(textL (low a)).toArray⟩) ∧ Below w.heap.size w w' := by
  have c0 := count_any a
  by_cases h0 : low a = 0
  · have HR := Lib.hid (show (⟨(textL (low a)).toArray⟩ : ByteArray) = ⟨#[45]⟩ by rw [h0]; decide +kernel)
    rw [(cnt_zero _ (low_lt a)).2 h0] at c0
    clear h0
    go_enter Tryd.func23, Tryd.ntmps23
    go_wp2_with (go_at_call 19; (with_reducible refine (c0 _).mono ?_); rintro e w' ⟨rfl, rfl⟩)
    go_ret
    exact ⟨congrArg (fun s => Ending.returned (.string s)) HR.out.symm, Below.refl _ _⟩
  · have HR := Lib.hid (show textL (low a) = lettersOf (low a) 12 by unfold textL; rw [if_neg (fun e => h0 ((letters_nil _ (low_lt a)).1 e))])
    have hne : ((cnt (low a) 12 : Nat) : Int) ≠ 0 := fun e => h0 ((cnt_zero _ (low_lt a)).1 (by omega))
    generalize hc : ((cnt (low a) 12 : Nat) : Int) = c at c0 hne
    have hc0 : (c == 0) = false := by simpa using hne
    clear hc h0
    go_enter Tryd.func23, Tryd.ntmps23
    go_wp2_with (go_at_call 19; (with_reducible refine (c0 _).mono ?_); rintro e w' ⟨rfl, rfl⟩)
    go_loopw [8] (fun i wr => ∃ k : Nat, k ≤ 12 ∧ i = .int .i64 k ∧ Lib.IsBuilder 51 5 w.heap.size w.heap.size (Lib.byteCells (lettersOf (low a) k)) wr ∧ Below w.heap.size w wr) (fun i _ => 12 - (intOf i).toNat)
    case atStart => exact ⟨0, by omega, rfl, Lib.fresh_isBuilder 51 5 w, (Below.refl _ w).alloc (Nat.le_refl _) _⟩
    case round =>
      obtain ⟨k, hk, rfl, hI, hbw⟩ := hrel
      have hsz := hbw.size
      by_cases hlt : k < 12
      · have hw : wrap64 (2 ^ k) = (2 : Int) ^ k := by
          have : ∀ k, k < 12 → wrap64 (2 ^ k) = (2 : Int) ^ k := by decide +kernel
          exact this k hlt
        have c1 := has_any a (wrap64 (2 ^ k))
        have hp := hasB_pow a k hlt
        rw [← hw] at hp
        cases hb : (low a).testBit k
        · rw [hp, hb] at c1
          have HB := Lib.hid hb
          clear hb hp hw
          go_wp2_with (go_at_call 20; (with_reducible refine (c1 _).mono ?_); rintro e w' ⟨rfl, rfl⟩)
          go_roundw
          case rel => exact ⟨k + 1, by omega, by go_num, by rw [letters_succ_no _ _ HB.out]; exact hI, hbw⟩
          case measure => simp [intOf]; omega
        · rw [hp, hb] at c1
          have HB := Lib.hid hb
          have hsl : (⟨#[68, 84, 82, 87, 83, 80, 65, 73, 77, 75, 71, 89]⟩ : ByteArray).size = 12 := rfl
          have HL := Lib.hid (show (⟨#[68, 84, 82, 87, 83, 80, 65, 73, 77, 75, 71, 89]⟩ : ByteArray)[k]'(by rw [hsl]; exact hlt) = letterAt k from letter_get k hlt)
          have hl12 : (lettersOf (low a) k).length + 1 ≤ 4096 := by have := letters_le (low a) k; omega
          have c2 := write_any w.heap.size w.heap.size (Lib.byteCells (lettersOf (low a) k)) (((⟨#[68, 84, 82, 87, 83, 80, 65, 73, 77, 75, 71, 89]⟩ : ByteArray)[k]'(by rw [show (⟨#[68, 84, 82, 87, 83, 80, 65, 73, 77, 75, 71, 89]⟩ : ByteArray).size = 12 from rfl]; exact hlt)).toNat : Int) wr hI (by rw [Lib.byteCells_length]; exact hl12) hsz
          clear hb hp hw
          go_wp2_with (first | (go_at_call 20; (with_reducible refine (c1 _).mono ?_); rintro e w' ⟨rfl, rfl⟩) | (go_at_call 29; (with_reducible refine c2.mono ?_); rintro e w' ⟨rfl, hI2, hb2⟩))
          go_roundw
          case rel =>
            refine ⟨k + 1, by omega, by go_num, ?_, hbw.trans hb2⟩
            rw [letters_succ_yes _ _ HB.out, Lib.byteCells_append]
            rw [HL.out] at hI2
            exact Or.inr hI2
          case measure => simp [intOf]; omega
      · obtain rfl : k = 12 := by omega
        have c3 := str_any w.heap.size w.heap.size (lettersOf (low a) 12) wr hI hsz
        go_wp2_with (go_at_call 30; (with_reducible refine c3.mono ?_); rintro e w' ⟨rfl, hb2⟩)
        go_ret
        exact ⟨congrArg (fun l : List UInt8 => Ending.returned (.string ⟨l.toArray⟩)) HR.out.symm, hbw.trans hb2⟩
end Go.Proofs.YtefcklkepoihkaaDoor
