/-
  The contract of the document's text of a number. Condition: a number of 64 bits.
-/
import Derived.Test.YtlecnhegfacfcaaSText
import Derived.Laws.IdiomStrings
namespace Go.Proofs.Ytlecnhegfacfcaa
open Go.ChangeShapes Go.WideShapes Go.ChangeAt Go.RowKit

/-- The names of the first i bits that have one. -/
def refT (a : Int) : Nat → List UInt8
  | 0 => []
  | i + 1 => refT a i ++ (if bitB a i && nameZ i != 0 then [nameZ i] else [])
theorem refT_all (a : Int) : refT a 16 = textOf (bitsOf a) 14 := by
  simp [refT, textOf, nameZ, nameAt, names, bitsOf, pl]
theorem refT_no (a : Int) (i : Nat) (h : (bitB a i && nameZ i != 0) = false) : refT a (i + 1) = refT a i := by rw [refT, h]; simp
theorem refT_yes (a : Int) (i : Nat) (h : (bitB a i && nameZ i != 0) = true) : refT a (i + 1) = refT a i ++ [nameZ i] := by rw [refT, h]; simp
theorem toArr_append (l m : List UInt8) : (ByteArray.mk l.toArray) ++ (ByteArray.mk m.toArray) = ⟨(l ++ m).toArray⟩ := by
  apply ByteArray.ext
  simp [ByteArray.data_append]
theorem cell_one (w : World) (v : Value) (t : TypeId) : (w.alloc (.cells #[v] t)).cell? ⟨w.heap.size, 0, none⟩ = some v := by
  have hb : (w.alloc (.cells #[v] t)).heap[w.heap.size]? = some (.cells #[v] t) := by
    show (w.heap.push _)[w.heap.size]? = some _
    simp
  rw [Lib.cell_of_heap hb]; rfl
set_option maxRecDepth 20000 in
theorem rtext_any (a : Int) (ha : fit a) (w : World) :
    Calls Try.prog 24 #[.int .i64 a] w fun e w' => e = .returned (.string ⟨(textL (bitsOf a)).toArray⟩) ∧ Below w.heap.size w w' := by
  go_enter Try.func24, Try.ntmps24
  go_wp2
  go_loopw [3, 4] (fun s i wr => ∃ k : Nat, ∃ t : ByteArray, k ≤ 16 ∧ t.size ≤ k ∧ i = .int .i64 k ∧ s = .string t ∧ Hid (t = ⟨(refT a k).toArray⟩) ∧ Below w.heap.size w wr) (fun _ i _ => 16 - (intOf i).toNat)
  case atStart => exact ⟨0, ⟨#[]⟩, by omega, Nat.le_refl 0, rfl, rfl, Lib.hid rfl, Below.refl _ _⟩
  case round =>
    obtain ⟨k, t, hk, ht, rfl, rfl, HT, hbw⟩ := hrel
    by_cases hlt : k < 16
    · have s1 := shr_one a ha k (by omega)
      have hm : min k 64 = k := by omega
      have cn := rname_any k hlt
      cases hb : bitB a k
      · have HB := Lib.hid (refT_no a k (by rw [hb]; rfl))
        rw [hb] at s1
        simp only [Bool.false_eq_true, if_false] at s1
        clear hb
        go_wp2
        go_roundw
        case rel => exact ⟨k + 1, t, by omega, by omega, by go_num, rfl, Lib.hid (by rw [HT.out, HB.out]), hbw⟩
        case measure => simp [intOf]; omega
      · rw [hb] at s1
        simp only [if_true] at s1
        by_cases h0 : nameZ k = 0
        · have HB := Lib.hid (refT_no a k (by rw [hb, h0]; rfl))
          rw [h0] at cn
          clear hb h0
          go_wp2_with (go_at_call 32; (with_reducible refine (cn _).mono ?_); rintro e w' ⟨rfl, rfl⟩)
          go_roundw
          case rel => exact ⟨k + 1, t, by omega, by omega, by go_num, rfl, Lib.hid (by rw [HT.out, HB.out]), hbw⟩
          case measure => simp [intOf]; omega
        · have HB := Lib.hid (refT_yes a k (by rw [hb]; simp [h0]))
          have hne : ((nameZ k).toNat : Int) ≠ 0 := fun e => h0 (UInt8.toNat_inj.1 (by simpa using e))
          generalize nameZ k = c at cn hne HB
          have hne2 : ((c.toNat : Int) == 0) = false := by simpa using hne
          clear hb h0
          have hconv : (convert 45 9 (.slice (some ⟨wr.heap.size, 0, none⟩) 1 1)).run Try.prog (wr.alloc (Obj.cells #[.int .u8 c.toNat] 5)) = .ok (.string ⟨#[c]⟩) (wr.alloc (Obj.cells #[.int .u8 c.toNat] 5)) :=
            run_convert_bytes_back (wr.alloc (Obj.cells #[.int .u8 c.toNat] 5)) 45 9 5 ⟨wr.heap.size, 0, none⟩ 1 [c] Try.underlying45 Try.underlying5 Try.underlying9 (by
              intro j hj
              obtain rfl : j = 0 := by simpa using hj
              exact cell_one wr _ 5)
          have hs1 : (⟨#[c]⟩ : ByteArray).size = 1 := rfl
          have hadd := run_string_add_sum (P := Try.prog) (wr.alloc (Obj.cells #[.int .u8 c.toNat] 5)) t ⟨#[c]⟩ (by rw [hs1]; omega)
          have hw2 := hbw.alloc hbw.size (Obj.cells #[.int .u8 c.toNat] 5)
          go_wp2_with (go_at_call 32; (with_reducible refine (cn _).mono ?_); rintro e w' ⟨rfl, rfl⟩)
          go_roundw
          case rel => exact ⟨k + 1, t ++ ⟨#[c]⟩, by omega, by rw [ByteArray.size_append, hs1]; omega, by go_num, rfl, Lib.hid (by rw [HT.out, HB.out, ← toArr_append]), hw2⟩
          case measure => simp [intOf]; omega
    · obtain rfl : k = 16 := by omega
      have HA := refT_all a
      by_cases h0 : textOf (bitsOf a) 14 = []
      · have HR := Lib.hid (show (⟨(textL (bitsOf a)).toArray⟩ : ByteArray) = ⟨#[45]⟩ by unfold textL; rw [if_pos h0])
        obtain rfl : t = ⟨#[]⟩ := by rw [HT.out, HA, h0]
        clear h0 HT
        go_wp2
        go_ret
        exact ⟨ret_str HR.out.symm, hbw⟩
      · have HR := Lib.hid (show textL (bitsOf a) = textOf (bitsOf a) 14 by unfold textL; rw [if_neg h0])
        have hne : t.toList ≠ [] := by
          rw [HT.out, HA]; simpa [ByteArray.toList_eq] using h0
        have h1 : t.toList.isEmpty = false := by simpa using hne
        have HA' := Lib.hid HA
        clear h0 HA
        go_wp2
        go_ret
        exact ⟨ret_str (HT.out.trans (by rw [HR.out, HA'.out])), hbw⟩
end Go.Proofs.Ytlecnhegfacfcaa
