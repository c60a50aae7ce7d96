/-
  Contracts of the document's answers for layer 4: letters, bits of letters, texts. Conditions: none.
-/
import Derived.Test.YtefcklkepoihkaaDoorRCalls
import Derived.Test.YtefcklkepoihkaaDoorRLet
import Derived.Laws.DeepStrings4
namespace Go.Proofs.YtefcklkepoihkaaDoor
open Go.ChangeShapes Go.WideShapes Go.ChangeAt Go.RowKit

theorem rletters_any (w : World) : Calls Tryd.prog 31 #[] w fun e w' => e = .returned (.string ⟨letters.toArray⟩) ∧ w = w' := by
  go_enter Tryd.func31, Tryd.ntmps31
  go_wp2
  go_ret
  exact ⟨rfl, rfl⟩
/-- The bit of a letter. -/
def bitL (c : UInt8) : Nat := match seek c 0 12 with
  | some k => 2 ^ k
  | none => 0
theorem seek_from (c : UInt8) (k : Nat) (hk : k < 12) (h : c ≠ letterAt k) : seek c k (12 - k) = seek c (k + 1) (12 - (k + 1)) := by
  rw [show 12 - k = (12 - (k + 1)) + 1 by omega]
  conv => lhs; unfold seek
  rw [if_neg h]
set_option maxRecDepth 20000 in
theorem rbit_any (c : UInt8) (w : World) :
    Calls Tryd.prog 32 #[.int .u8 c.toNat] w fun e w' => e = .returned (.int .i64 ((bitL c : Nat) : Int)) ∧ w = w' := by
  go_enter Tryd.func32, Tryd.ntmps32
  go_wp2
  go_loop [3, 4] (fun n i => ∃ (k : Nat) (p : Int), k ≤ 12 ∧ i = .int .i64 k ∧ n = .int .i64 p ∧ Hid (p = ((2 ^ k : Nat) : Int)) ∧ Hid (seek c 0 12 = seek c k (12 - k))) (fun _ i => 12 - (intOf i).toNat)
  case atStart => exact ⟨0, 1, by omega, rfl, rfl, Lib.hid rfl, Lib.hid rfl⟩
  case round =>
    obtain ⟨k, p, hk, rfl, rfl, HP, HS⟩ := hrel
    by_cases hlt : k < 12
    · have hp : 0 ≤ p ∧ p ≤ 4096 := by
        have h1 := HP.out
        have : 2 ^ k ≤ 4096 := Nat.pow_le_pow_right (n := 2) (by decide) hk
        generalize 2 ^ k = q at h1 this
        omega
      obtain ⟨hp0, hp1⟩ := hp
      have hsz : (ByteArray.mk letters.toArray).size = 12 := rfl
      have el : (ByteArray.mk letters.toArray)[k]'(by rw [hsz]; exact hlt) = letterAt k := by
        exact letter_get k hlt
      by_cases hc : c = letterAt k
      · have hb : ((((ByteArray.mk letters.toArray)[k]'(by rw [hsz]; exact hlt)).toNat : Int) == (c.toNat : Int)) = true := by rw [el, hc]; simp
        have HC := Lib.hid hc
        clear hc el
        go_wp2_with (go_at_call 31; (with_reducible refine (rletters_any _).mono ?_); rintro e w' ⟨rfl, rfl⟩)
        go_ret
        refine ⟨ret_int ?_, rfl⟩
        unfold bitL
        rw [HS.out, show 12 - k = (12 - (k + 1)) + 1 by omega]
        unfold seek
        rw [if_pos HC.out]
        exact HP.out
      · have hb : ((((ByteArray.mk letters.toArray)[k]'(by rw [hsz]; exact hlt)).toNat : Int) == (c.toNat : Int)) = false := by
          rw [el]
          simp only [beq_eq_false_iff_ne, ne_eq]
          intro e; exact hc (UInt8.toNat_inj.1 (by omega))
        have HS2 := Lib.hid (seek_from c k hlt hc)
        clear hc el
        go_wp2_with (go_at_call 31; (with_reducible refine (rletters_any _).mono ?_); rintro e w' ⟨rfl, rfl⟩)
        go_round
        case rel => exact ⟨k + 1, p * 2, by omega, by go_num, rfl, Lib.hid (by rw [HP.out, Nat.pow_succ]; omega), Lib.hid (HS.out.trans HS2.out)⟩
        case measure => simp [intOf]; omega
    · obtain rfl : k = 12 := by omega
      go_wp2
      go_ret
      refine ⟨ret_int ?_, rfl⟩
      unfold bitL
      rw [HS.out]; rfl

set_option maxRecDepth 20000 in
/-- Of: the sum of the letters' bits. -/
theorem rof_any (s : ByteArray) (hs : s.size ≤ 500) (w : World) :
    Calls Tryd.prog 26 #[.string s] w fun e w' => e = .returned (.int .i64 (((s.data.toList.map bitL).sum : Nat) : Int)) ∧ w = w' := by
  go_enter Tryd.func26, Tryd.ntmps26
  go_wp2
  go_loop [3, 4] (fun n i => ∃ k m : Nat, k ≤ s.size ∧ m ≤ 4096 * k ∧ i = .int .i64 k ∧ n = .int .i64 m ∧ Hid (m = ((s.data.toList.take k).map bitL).sum)) (fun _ i => s.size - (intOf i).toNat)
  case atStart => exact ⟨0, 0, by omega, by omega, rfl, rfl, Lib.hid rfl⟩
  case round =>
    obtain ⟨k, m, hk, hm, rfl, rfl, HM⟩ := hrel
    by_cases hlt : k < s.size
    · have hb : bitL s[k] ≤ 4096 := by
        unfold bitL
        split
        · next a h => have := (seek_some h).2.1; exact Nat.pow_le_pow_right (n := 2) (by decide) (show a ≤ 12 by omega)
        · omega
      have hts : s.data.toList.take (k + 1) = s.data.toList.take k ++ [s[k]] := by
        rw [List.take_succ_eq_append_getElem (by simpa using hlt)]; rfl
      have HT := Lib.hid hts
      clear hts
      have cb := rbit_any s[k]
      go_wp2_with (go_at_call 32; (with_reducible refine (cb _).mono ?_); rintro e w' ⟨rfl, rfl⟩)
      go_round
      case rel => exact ⟨k + 1, m + bitL s[k], by omega, by omega, by go_num, by go_num, Lib.hid (by rw [HT.out, List.map_append, List.sum_append, ← HM.out]; simp)⟩
      case measure => simp [intOf]; omega
    · obtain rfl : k = s.size := by omega
      go_wp2
      go_ret
      refine ⟨ret_int ?_, rfl⟩
      rw [HM.out, List.take_of_length_le (by simp)]

theorem letter_cut (k : Nat) (h : k < 12) : (ByteArray.mk letters.toArray).extract k (k + 1) = ⟨[letterAt k].toArray⟩ := by
  have : ∀ j : Nat, j < 12 → ((ByteArray.mk letters.toArray).extract j (j + 1)).data = (ByteArray.mk [letterAt j].toArray).data := by decide +kernel
  exact ByteArray.ext (this k h)
theorem toArr_append (l m : List UInt8) : (ByteArray.mk l.toArray) ++ (ByteArray.mk m.toArray) = ⟨(l ++ m).toArray⟩ := by
  apply ByteArray.ext
  simp [ByteArray.data_append]
set_option maxRecDepth 20000 in
/-- The document's text of a number. -/
theorem rtext_any (a : Int) (ha : fit a) (w : World) :
    Calls Tryd.prog 24 #[.int .i64 a] w fun e w' => e = .returned (.string ⟨(textL (low a)).toArray⟩) ∧ w = w' := by
  go_enter Tryd.func24, Tryd.ntmps24
  go_wp2
  go_loop [3, 4] (fun s i => ∃ k : Nat, ∃ t : ByteArray, k ≤ 12 ∧ t.size ≤ k ∧ i = .int .i64 k ∧ s = .string t ∧ Hid (t = ⟨(lettersOf (low a) k).toArray⟩)) (fun _ i => 12 - (intOf i).toNat)
  case atStart => exact ⟨0, ⟨#[]⟩, by omega, Nat.le_refl 0, rfl, rfl, Lib.hid rfl⟩
  case round =>
    obtain ⟨k, t, hk, ht, rfl, rfl, HT⟩ := hrel
    by_cases hlt : k < 12
    · have c1 := rhas_any a k ha (by omega)
      have hbl := bit_low a k hlt
      cases hb : (low a).testBit k
      · rw [hbl, hb] at c1
        have HB := Lib.hid hb
        clear hb hbl
        go_wp2_with (go_at_call 15; (with_reducible refine (c1 _).mono ?_); rintro e w' ⟨rfl, rfl⟩)
        go_round
        case rel => exact ⟨k + 1, t, by omega, by omega, by go_num, rfl, Lib.hid (by rw [HT.out, letters_succ_no _ _ HB.out])⟩
        case measure => simp [intOf]; omega
      · rw [hbl, hb] at c1
        have HB := Lib.hid hb
        clear hb hbl
        have hsz := letters_size
        have HC := Lib.hid (letter_cut k hlt)
        have hcs : ((ByteArray.mk letters.toArray).extract k (k + 1)).size = 1 := by rw [HC.out]; rfl
        have hsl : (Instr.slice 9 (.string (ByteArray.mk letters.toArray)) (some (.int .i64 (k : Int))) (some (.int .i64 ((k : Int) + 1))) none).run Tryd.prog w = .ok (.string ((ByteArray.mk letters.toArray).extract k (k + 1))) w := by
          rw [run_slice_string_if w 9 _ .i64 .i64 _ _ Tryd.underlying9, if_pos (by rw [hsz]; omega), if_pos (by omega)]
          rfl
        have hadd := run_string_add_sum (P := Tryd.prog) w t ((ByteArray.mk letters.toArray).extract k (k + 1)) (by omega)
        go_wp2_with (first | (go_at_call 15; (with_reducible refine (c1 _).mono ?_); rintro e w' ⟨rfl, rfl⟩) | (go_at_call 31; (with_reducible refine (rletters_any _).mono ?_); rintro e w' ⟨rfl, rfl⟩))
        go_round
        case rel => exact ⟨k + 1, t ++ (ByteArray.mk letters.toArray).extract k (k + 1), by omega, by rw [ByteArray.size_append, hcs]; omega, by go_num, rfl, Lib.hid (by rw [HT.out, HC.out, toArr_append, letters_succ_yes _ _ HB.out])⟩
        case measure => simp [intOf]; omega
    · obtain rfl : k = 12 := by omega
      by_cases h0 : lettersOf (low a) 12 = []
      · have HR := Lib.hid (show (⟨(textL (low a)).toArray⟩ : ByteArray) = ⟨#[45]⟩ by unfold textL; rw [if_pos h0])
        obtain rfl : t = ⟨#[]⟩ := by rw [HT.out, h0]
        clear h0 HT
        go_wp2
        go_ret
        exact ⟨congrArg (fun s => Ending.returned (.string s)) HR.out.symm, rfl⟩
      · have HR := Lib.hid (show textL (low a) = lettersOf (low a) 12 by unfold textL; rw [if_neg h0])
        have hne : t.toList ≠ [] := by
          rw [HT.out]; simpa [ByteArray.toList_eq] using h0
        have h1 : t.toList.isEmpty = false := by simpa using hne
        clear h0
        go_wp2
        go_ret
        exact ⟨congrArg (fun s => Ending.returned (.string s)) (HT.out.trans (by rw [HR.out])), rfl⟩
end Go.Proofs.YtefcklkepoihkaaDoor
