/-
  The statement SignalTexts answers true at all numbers and texts.
-/
import Derived.Test.YtlecnhegfacfcaaSOf
namespace Go.Proofs.Ytlecnhegfacfcaa
open Go.ChangeShapes Go.WideShapes Go.ChangeAt Go.RowKit

theorem arr_list (s : ByteArray) : (⟨s.data.toList.toArray⟩ : ByteArray) = s := by cases s; simp
set_option maxHeartbeats 4000000 in
set_option maxRecDepth 20000 in
theorem texts_walk (n : Int) (s : ByteArray) (hn : fit n) (w : World) :
    Calls Try.prog 6 #[.int .i64 n, .string s] w fun e w' => e = .returned (.bool true) ∧ Below w.heap.size w w' := by
  have cA := awake_at w
  have hb0 := Below.refl w.heap.size w
  by_cases hs : s.size ≤ 500
  · have hs' : ¬ (500 : Int) < (s.size : Int) := by omega
    have c1 := text_any n
    have c2 := rtext_any n hn
    have hl := textL_len (bitsOf n)
    have c3 := parse_any ⟨(textL (bitsOf n)).toArray⟩ (by rw [size_toArray]; omega)
    have c9 := rsub_any n (parV (textL (bitsOf n))) hn (par_fit _)
    rw [(hasB_iff n _ (par_fit _)).2 (par_sub n)] at c9
    have c10 := text_any (parV (textL (bitsOf n)))
    rw [par_text_back n] at c10
    simp only at c3
    rw [par_text_ok (bitsOf n)] at c3
    have c4 := parse_any s hs
    clear hl
    generalize (⟨(textL (bitsOf n)).toArray⟩ : ByteArray) = T at c1 c2 c3 c10
    generalize parV (textL (bitsOf n)) = L at c3 c9 c10
    by_cases hq : parS s.data.toList = 0
    · have c6 := text_any (parV s.data.toList)
      rw [par_back _ hq, arr_list] at c6
      rw [hq] at c4
      clear hq
      generalize parV s.data.toList = q at c4 c6
      go_enter Try.func6, Try.ntmps6
      go_wp2_with (first
        | (go_at_call 23; (with_reducible refine (lift (by assumption) (c1 _)).mono ?_); rintro e w' ⟨rfl, hb⟩)
        | (go_at_call 24; (with_reducible refine (lift (by assumption) (c2 _)).mono ?_); rintro e w' ⟨rfl, hb⟩)
        | (go_at_call 25; (with_reducible refine (lift (by assumption) (c3 _)).mono ?_); rintro e w' ⟨rfl, hb⟩)
        | (go_at_call 23; (with_reducible refine (lift (by assumption) (c10 _)).mono ?_); rintro e w' ⟨rfl, hb⟩)
        | (go_at_call 18; (with_reducible refine (c9 _).mono ?_); rintro e w' ⟨rfl, rfl⟩)
        | (go_at_call 25; (with_reducible refine (lift (by assumption) (c4 _)).mono ?_); rintro e w' ⟨rfl, hb⟩)
        | (go_at_call 23; (with_reducible refine (lift (by assumption) (c6 _)).mono ?_); rintro e w' ⟨rfl, hb⟩)
        | (go_at_call 16; (with_reducible refine (cA _ (by assumption)).mono ?_); rintro e w' ⟨rfl, hb⟩))
      go_ret
      exact ⟨rfl, by assumption⟩
    · obtain ⟨e1, e2, hne⟩ := par_no _ hq
      rw [e1, e2] at c4
      clear e1 e2 hq
      have c7 := rbits_any s hs
      have hfo : fit ((sumTo s.data.toList 16 : Nat) : Int) := fit_nat _ (Nat.lt_trans (sumTo_lt _ 16) (by decide))
      have c8 := rtext_any ((sumTo s.data.toList 16 : Nat) : Int) hfo
      generalize ((sumTo s.data.toList 16 : Nat) : Int) = o at c7 c8
      have hne2 := hne (bitsOf o)
      by_cases h0 : s.toList = []
      · have h0' : s.toList.isEmpty = true := by rw [h0]; rfl
        clear hne hne2 h0 c8
        go_enter Try.func6, Try.ntmps6
        go_wp2_with (first
          | (go_at_call 23; (with_reducible refine (lift (by assumption) (c1 _)).mono ?_); rintro e w' ⟨rfl, hb⟩)
          | (go_at_call 24; (with_reducible refine (lift (by assumption) (c2 _)).mono ?_); rintro e w' ⟨rfl, hb⟩)
          | (go_at_call 25; (with_reducible refine (lift (by assumption) (c3 _)).mono ?_); rintro e w' ⟨rfl, hb⟩)
          | (go_at_call 23; (with_reducible refine (lift (by assumption) (c10 _)).mono ?_); rintro e w' ⟨rfl, hb⟩)
          | (go_at_call 18; (with_reducible refine (c9 _).mono ?_); rintro e w' ⟨rfl, rfl⟩)
          | (go_at_call 25; (with_reducible refine (lift (by assumption) (c4 _)).mono ?_); rintro e w' ⟨rfl, hb⟩)
          | (go_at_call 16; (with_reducible refine (cA _ (by assumption)).mono ?_); rintro e w' ⟨rfl, hb⟩))
        go_ret
        exact ⟨rfl, by assumption⟩
      · have h0' : s.toList.isEmpty = false := by simpa using h0
        generalize hT2 : (⟨(textL (bitsOf o)).toArray⟩ : ByteArray) = T2 at c8
        have hcmp : (T2.toList == s.toList) = false := by
          rw [← hT2]
          simpa [ByteArray.toList_eq] using hne2
        have hcmp2 : (T2.toList != s.toList) = true := by rw [bne, hcmp]; rfl
        clear hne hne2 h0 hT2
        go_enter Try.func6, Try.ntmps6
        go_wp2_with (first
          | (go_at_call 23; (with_reducible refine (lift (by assumption) (c1 _)).mono ?_); rintro e w' ⟨rfl, hb⟩)
          | (go_at_call 24; (with_reducible refine (lift (by assumption) (c2 _)).mono ?_); rintro e w' ⟨rfl, hb⟩)
          | (go_at_call 25; (with_reducible refine (lift (by assumption) (c3 _)).mono ?_); rintro e w' ⟨rfl, hb⟩)
          | (go_at_call 23; (with_reducible refine (lift (by assumption) (c10 _)).mono ?_); rintro e w' ⟨rfl, hb⟩)
          | (go_at_call 18; (with_reducible refine (c9 _).mono ?_); rintro e w' ⟨rfl, rfl⟩)
          | (go_at_call 25; (with_reducible refine (lift (by assumption) (c4 _)).mono ?_); rintro e w' ⟨rfl, hb⟩)
          | (go_at_call 10; (with_reducible refine (lift (by assumption) (c7 _)).mono ?_); rintro e w' ⟨rfl, hb⟩)
          | (go_at_call 24; (with_reducible refine (lift (by assumption) (c8 _)).mono ?_); rintro e w' ⟨rfl, hb⟩)
          | (go_at_call 16; (with_reducible refine (cA _ (by assumption)).mono ?_); rintro e w' ⟨rfl, hb⟩))
        go_ret
        exact ⟨rfl, by assumption⟩
  · have hs' : (500 : Int) < (s.size : Int) := by omega
    go_enter Try.func6, Try.ntmps6
    go_wp2_with (go_at_call 16; (with_reducible refine (cA _ (by assumption)).mono ?_); rintro e w' ⟨rfl, hb⟩)
    go_ret
    exact ⟨rfl, by assumption⟩
end Go.Proofs.Ytlecnhegfacfcaa
