/-
  Contracts of the document's answers for layer 5: a bit's name, whether a text has it, the number of a text's names, whether all bits are in another number. Conditions: texts of at most 500 bytes, numbers of 64 bits.
-/
import Derived.Test.YtlecnhegfacfcaaSMath
import Derived.Laws.DeepStrings4
namespace Go.Proofs.Ytlecnhegfacfcaa
open Go.ChangeShapes Go.WideShapes Go.ChangeAt Go.RowKit

/-- The name of a bit; 0: it has none. -/
def nameZ (i : Nat) : UInt8 := [114, 119, 112, 115, 116, 122, 0, 0, 48, 49, 50, 51, 52, 53, 54, 55].getD i 0
theorem nameZ_pl (k : Nat) (h : k < 14) : nameZ (pl k) = nameAt k := by
  have : ∀ k, k < 14 → nameZ (pl k) = nameAt k := by decide +kernel
  exact this k h
theorem rname_any (i : Nat) (h : i < 16) (w : World) :
    Calls Try.prog 32 #[.int .i64 i] w fun e w' => e = .returned (.int .u8 (nameZ i).toNat) ∧ w = w' := by
  have hb : ∃ z : Int, (i : Int) = z ∧ (z = 0 ∨ z = 1 ∨ z = 2 ∨ z = 3 ∨ z = 4 ∨ z = 5 ∨ z = 6 ∨ z = 7 ∨ z = 8 ∨ z = 9 ∨ z = 10 ∨ z = 11 ∨ z = 12 ∨ z = 13 ∨ z = 14 ∨ z = 15) ∧ nameZ i = nameZ z.toNat := ⟨i, rfl, by omega, by simp⟩
  obtain ⟨z, e1, hb, e2⟩ := hb
  rw [e1, e2]
  clear e1 e2 h
  rcases hb with rfl | rfl | rfl | rfl | rfl | rfl | rfl | rfl | rfl | rfl | rfl | rfl | rfl | rfl | rfl | rfl
  all_goals
    go_enter Try.func32, Try.ntmps32
    go_wp2
    go_ret
    exact ⟨rfl, rfl⟩
theorem quiet_flip {P : Program} {f : FuncId} {args : Array Value} {w : World} {n : Nat} {v : Value}
    (h : Calls P f args (w.drewN n) fun e w' => e = .returned v ∧ w.drewN n = w') : Calls P f args (w.drewN n) fun e w'' => e = .returned v ∧ ∃ m, w'' = w.drewN m :=
  h.mono fun _ _ ⟨he, hm⟩ => ⟨he, n, hm.symm⟩
theorem below_drewN {B : Nat} {a w : World} (h : Below B a w) (n : Nat) : Below B a (w.drewN n) := ⟨h.os, h.tape, h.output, h.size, h.block⟩
theorem take_snoc (s : ByteArray) (k : Nat) (h : k < s.size) : s.data.toList.take (k + 1) = s.data.toList.take k ++ [s[k]] := by
  rw [List.take_succ_eq_append_getElem (by simpa using h)]; rfl
set_option maxRecDepth 20000 in
/-- Has the text the name of a bit? -/
theorem rin_any (s : ByteArray) (hs : s.size ≤ 500) (i : Nat) (hi : i < 16) (w : World) :
    Calls Try.prog 26 #[.string s, .int .i64 i] w fun e w' => e = .returned (.bool (decide (nameZ i ∈ s.data.toList))) ∧ Below w.heap.size w w' := by
  have cn := rname_any i hi
  generalize hc : nameZ i = c at cn
  clear hc
  go_enter Try.func26, Try.ntmps26
  go_wp2
  go_loopw [5] (fun j wr => ∃ k : Nat, k ≤ s.size ∧ j = .int .i64 k ∧ Hid (c ∉ s.data.toList.take k) ∧ Below w.heap.size w wr) (fun j _ => s.size - (intOf j).toNat)
  case atStart => exact ⟨0, by omega, rfl, Lib.hid (by simp), Below.refl _ _⟩
  case round =>
    obtain ⟨k, hk, rfl, HN, hbw⟩ := hrel
    by_cases hlt : k < s.size
    · have hlt' : (k : Int) < (s.size : Int) := by omega
      by_cases hc : s[k] = c
      · have hb : ((s[k].toNat : Int) == (c.toNat : Int)) = true := by rw [hc]; simp
        have HC := Lib.hid (show c ∈ s.data.toList by rw [← hc]; exact Array.getElem_mem_toList hlt)
        clear hc
        go_wp2
        go_quiet (first | (go_at_call 32; with_reducible exact quiet_flip (cn _)))
        go_wp2
        go_ret
        exact ⟨ret_bool (by simp [HC.out]), below_drewN hbw _⟩
      · have hb : ((s[k].toNat : Int) == (c.toNat : Int)) = false := by
          simp only [beq_eq_false_iff_ne, ne_eq]
          intro e; exact hc (UInt8.toNat_inj.1 (by omega))
        have HM := Lib.hid (show c ∉ s.data.toList.take (k + 1) by
          rw [take_snoc s k hlt, List.mem_append]
          rintro (h | h)
          · exact HN.out h
          · exact hc (List.mem_singleton.1 h).symm)
        clear hc
        go_wp2
        go_quiet (first | (go_at_call 32; with_reducible exact quiet_flip (cn _)))
        go_wp2
        go_roundw
        case rel => exact ⟨k + 1, by omega, by go_num, HM, below_drewN hbw _⟩
        case measure => simp [intOf]; omega
    · obtain rfl : k = s.size := by omega
      go_wp2
      go_ret
      refine ⟨ret_bool ?_, hbw⟩
      have := HN.out
      rw [List.take_of_length_le (by simp)] at this
      exact (decide_eq_false this).symm
/-- The number of the names in a text, of the first k bits. -/
def sumTo (l : List UInt8) : Nat → Nat
  | 0 => 0
  | k + 1 => sumTo l k + (if nameZ k ∈ l then 2 ^ k else 0)
theorem sumTo_lt (l : List UInt8) (k : Nat) : sumTo l k < 2 ^ k := by
  induction k with
  | zero => simp [sumTo]
  | succ k ih => rw [sumTo, Nat.pow_succ]; split <;> omega
theorem sumTo_yes (l : List UInt8) (k : Nat) (h : nameZ k ∈ l) : sumTo l (k + 1) = sumTo l k + 2 ^ k := by rw [sumTo, if_pos h]
theorem sumTo_no (l : List UInt8) (k : Nat) (h : ¬ nameZ k ∈ l) : sumTo l (k + 1) = sumTo l k := by rw [sumTo, if_neg h]; rfl
set_option maxRecDepth 20000 in
theorem rbits_any (s : ByteArray) (hs : s.size ≤ 500) (w : World) :
    Calls Try.prog 10 #[.string s] w fun e w' => e = .returned (.int .i64 ((sumTo s.data.toList 16 : Nat) : Int)) ∧ Below w.heap.size w w' := by
  go_enter Try.func10, Try.ntmps10
  go_wp2
  go_loopw [3, 4, 5] (fun n m i wr => ∃ k a b : Nat, k ≤ 16 ∧ a ≤ 65536 ∧ b ≤ 65536 ∧ n = .int .i64 a ∧ m = .int .i64 b ∧ i = .int .i64 k ∧ Hid (a = sumTo s.data.toList k ∧ b = 2 ^ k) ∧ Below w.heap.size w wr) (fun _ _ i _ => 16 - (intOf i).toNat)
  case atStart => exact ⟨0, 0, 1, by omega, by omega, by omega, rfl, rfl, rfl, Lib.hid ⟨rfl, rfl⟩, Below.refl _ _⟩
  case round =>
    obtain ⟨k, a, b, hk, ha, hb, rfl, rfl, rfl, HK, hbw⟩ := hrel
    have hsz := hbw.size
    by_cases hlt : k < 16
    · have cI := rin_any s hs k hlt wr
      have hl1 : a < b := by rw [HK.out.1, HK.out.2]; exact sumTo_lt _ k
      have hl2 : b ≤ 32768 := by
        rw [HK.out.2]; exact Nat.pow_le_pow_right (n := 2) (by decide) (show k ≤ 15 by omega)
      by_cases hm : nameZ k ∈ s.data.toList
      · rw [decide_eq_true hm] at cI
        have HM := Lib.hid (sumTo_yes _ _ hm)
        clear hm
        go_wp2_with (go_at_call 26; (with_reducible refine cI.mono ?_); rintro e w' ⟨rfl, hb1⟩)
        go_roundw
        case rel => exact ⟨k + 1, a + b, b * 2, by omega, by omega, by omega, by go_num, by go_num, by go_num, Lib.hid ⟨by rw [HM.out, HK.out.1, HK.out.2], by rw [HK.out.2, Nat.pow_succ]⟩, hbw.trans (hb1.mono hsz)⟩
        case measure => simp [intOf]; omega
      · rw [decide_eq_false hm] at cI
        have HM := Lib.hid (sumTo_no _ _ hm)
        clear hm
        go_wp2_with (go_at_call 26; (with_reducible refine cI.mono ?_); rintro e w' ⟨rfl, hb1⟩)
        go_roundw
        case rel => exact ⟨k + 1, a, b * 2, by omega, by omega, by omega, rfl, by go_num, by go_num, Lib.hid ⟨by rw [HM.out, HK.out.1], by rw [HK.out.2, Nat.pow_succ]⟩, hbw.trans (hb1.mono hsz)⟩
        case measure => simp [intOf]; omega
    · obtain rfl : k = 16 := by omega
      go_wp2
      go_ret
      exact ⟨ret_int (by rw [HK.out.1]), hbw⟩
/-- Are all bits of the second in the first? -/
theorem rsub_any (a b : Int) (ha : fit a) (hb : fit b) (w : World) :
    Calls Try.prog 18 #[.int .i64 a, .int .i64 b] w fun e w' => e = .returned (.bool (hasB a b)) ∧ w = w' := by
  go_enter Try.func18, Try.ntmps18
  go_wp2
  go_loop [5] (fun i => ∃ k : Nat, k ≤ 64 ∧ i = .int .i64 k ∧ Hid (∀ j, j < k → bitB b j = true → bitB a j = true)) (fun i => 64 - (intOf i).toNat)
  case atStart => exact ⟨0, by omega, rfl, Lib.hid fun j hj => by omega⟩
  case round =>
    obtain ⟨k, hk, rfl, HA⟩ := hrel
    by_cases hlt : k < 64
    · have s1 := shr_one b hb k hlt
      have s2 := shr_one a ha k hlt
      have hm : min k 64 = k := by omega
      rcases hbk : bitB b k with _ | _ <;> rcases hak : bitB a k with _ | _
      all_goals
        rw [hbk] at s1; rw [hak] at s2
        have HB : Hid (bitB b k = _) := Lib.hid hbk
        have HK : Hid (bitB a k = _) := Lib.hid hak
        clear hbk hak
        simp only [if_true, Bool.false_eq_true, if_false] at s1 s2
        go_wp2
        first
        | (go_ret
           refine ⟨ret_bool ?_, rfl⟩
           symm
           rw [← Bool.not_eq_true, hasB_iff a b hb]
           intro h
           have := h k hlt HB.out
           rw [HK.out] at this
           cases this)
        | (go_round
           case rel =>
             refine ⟨k + 1, by omega, by go_num, Lib.hid fun j hj h => ?_⟩
             rcases Nat.lt_succ_iff_lt_or_eq.1 hj with h' | rfl
             · exact HA.out j h' h
             · first | exact HK.out | (rw [HB.out] at h; cases h)
           case measure => simp [intOf]; omega)
    · obtain rfl : k = 64 := by omega
      go_wp2
      go_ret
      exact ⟨ret_bool ((hasB_iff a b hb).2 HA.out).symm, rfl⟩
end Go.Proofs.Ytlecnhegfacfcaa
