/-
  The statement RightsTexts answers true at all numbers and texts, where the table of default rights lies as it was laid.
-/
import Derived.Test.YtefcklkepoihkaaDoorLawReduces
import Derived.Test.YtefcklkepoihkaaDoorRRef
import Derived.Test.YtefcklkepoihkaaDoorRParse
namespace Go.Proofs.YtefcklkepoihkaaDoor
open Go.ChangeShapes Go.WideShapes Go.ChangeAt Go.RowKit

theorem lift {f : FuncId} {args : Array Value} {w W : World} {v : Ending} (hb : Below w.heap.size w W)
    (h : Calls Tryd.prog f args W fun e w' => e = v ∧ Below W.heap.size W w') : Calls Tryd.prog f args W fun e w' => e = v ∧ Below w.heap.size w w' :=
  h.mono fun _ _ ⟨he, h2⟩ => ⟨he, hb.trans (h2.mono hb.size)⟩
theorem awake_at (w : World) (hd : Defs w) (W : World) (hb : Below w.heap.size w W) : Calls Tryd.prog 14 #[] W fun e w' => e = .returned (.bool true) ∧ Below w.heap.size w w' :=
  lift hb (awake_any W (hd.below hb))
theorem text_len (n : Nat) (h : n < 4096) : (textL n).length ≤ 12 := by
  unfold textL
  split
  · decide
  · exact letters_len n h
theorem par_text (n : Nat) (h : n < 4096) : parV (textL n) = n ∧ parS (textL n) = 0 := by
  unfold parV parS
  rw [parse_text n h]
  exact ⟨rfl, rfl⟩
theorem par_some {l : List UInt8} {n : Nat} (h : parseL l = some n) : parV l = n ∧ parS l = 0 := by
  unfold parV parS
  rw [h]
  exact ⟨rfl, rfl⟩
theorem par_none {l : List UInt8} (h : parseL l = none) : parV l = 0 ∧ parS l = -10 := by
  unfold parV parS
  rw [h]
  exact ⟨rfl, rfl⟩
theorem arr_list (s : ByteArray) : (⟨s.data.toList.toArray⟩ : ByteArray) = s := ByteArray.ext (by simp)
set_option maxHeartbeats 4000000 in
set_option maxRecDepth 20000 in
theorem texts_walk (n : Int) (s : ByteArray) (hn : fit n) (w : World) (hd : Defs w) :
    Calls Tryd.prog 6 #[.int .i64 n, .string s] w fun e w' => e = .returned (.bool true) ∧ Below w.heap.size w w' := by
  have cA := awake_at w hd
  clear hd
  have hb0 := Below.refl w.heap.size w
  by_cases hs : s.size ≤ 500
  · have hs' : ¬ (500 : Int) < (s.size : Int) := by omega
    have c1 := text_any n
    have c2 := rtext_any n hn
    have c3 := parse_any ⟨(textL (low n)).toArray⟩ (by
      have := text_len (low n) (low_lt n)
      simp [ByteArray.size]; omega)
    have hp := par_text (low n) (low_lt n)
    have c3' : ∀ w, Calls Tryd.prog 25 #[.string ⟨(textL (low n)).toArray⟩] w fun e w' => e = .returned (.tuple #[.int .i64 ((low n : Nat) : Int), .int .i64 0]) ∧ Below w.heap.size w w' := fun w => by
      have := c3 w
      rw [hp.1, hp.2] at this
      exact this
    have h4 := and_4095 n
    have c4 := parse_any s hs
    clear c3 hp hn
    generalize (⟨(textL (low n)).toArray⟩ : ByteArray) = T at c1 c2 c3'
    generalize ((low n : Nat) : Int) = L at c3' h4
    cases hq : parseL s.data.toList with
    | some p =>
      obtain ⟨hp1, hp2⟩ := text_parse hq
      obtain ⟨e1, e2⟩ := par_some hq
      rw [e1, e2] at c4
      have c5 := right_any (p : Int)
      rw [(right_iff (p : Int)).2 (by omega)] at c5
      have c6 := text_any (p : Int)
      rw [low_nat p hp1, hp2, arr_list] at c6
      clear e1 e2 hp1 hp2 hq
      generalize (p : Int) = q at c4 c5 c6
      go_enter Tryd.func6, Tryd.ntmps6
      go_wp2_with (first
        | (go_at_call 23; (with_reducible refine (lift (by assumption) (c1 _)).mono ?_); rintro e w' ⟨rfl, hb⟩)
        | (go_at_call 24; (with_reducible refine (c2 _).mono ?_); rintro e w' ⟨rfl, rfl⟩)
        | (go_at_call 25; (with_reducible refine (lift (by assumption) (c3' _)).mono ?_); rintro e w' ⟨rfl, hb⟩)
        | (go_at_call 25; (with_reducible refine (lift (by assumption) (c4 _)).mono ?_); rintro e w' ⟨rfl, hb⟩)
        | (go_at_call 11; (with_reducible refine (c5 _).mono ?_); rintro e w' ⟨rfl, rfl⟩)
        | (go_at_call 23; (with_reducible refine (lift (by assumption) (c6 _)).mono ?_); rintro e w' ⟨rfl, hb⟩)
        | (go_at_call 14; (with_reducible refine (cA _ (by assumption)).mono ?_); rintro e w' ⟨rfl, hb⟩))
      go_ret
      exact ⟨rfl, by assumption⟩
    | none =>
      obtain ⟨e1, e2⟩ := par_none hq
      rw [e1, e2] at c4
      have HQ := Lib.hid hq
      clear e1 e2 hq
      have c7 := rof_any s hs
      generalize (((s.data.toList.map bitL).sum : Nat) : Int) = o at c7
      have h8 := and_4095 o
      have c8 := rtext_any ((low o : Nat) : Int) (fit_nat _ (low_lt o))
      rw [low_nat _ (low_lt o)] at c8
      have hne : textL (low o) ≠ s.data.toList := no_text HQ.out _ (low_lt o)
      generalize ((low o : Nat) : Int) = o2 at h8 c8
      by_cases h0 : s.toList = []
      · have h0' : s.toList.isEmpty = true := by rw [h0]; rfl
        clear hne h0 c8 h8
        go_enter Tryd.func6, Tryd.ntmps6
        go_wp2_with (first
          | (go_at_call 23; (with_reducible refine (lift (by assumption) (c1 _)).mono ?_); rintro e w' ⟨rfl, hb⟩)
          | (go_at_call 24; (with_reducible refine (c2 _).mono ?_); rintro e w' ⟨rfl, rfl⟩)
          | (go_at_call 25; (with_reducible refine (lift (by assumption) (c3' _)).mono ?_); rintro e w' ⟨rfl, hb⟩)
          | (go_at_call 25; (with_reducible refine (lift (by assumption) (c4 _)).mono ?_); rintro e w' ⟨rfl, hb⟩)
          | (go_at_call 14; (with_reducible refine (cA _ (by assumption)).mono ?_); rintro e w' ⟨rfl, hb⟩))
        go_ret
        exact ⟨rfl, by assumption⟩
      · have h0' : s.toList.isEmpty = false := by simpa using h0
        generalize hT2 : (⟨(textL (low o)).toArray⟩ : ByteArray) = T2 at c8
        have hcmp : (T2.toList == s.toList) = false := by
          rw [← hT2]
          simpa [ByteArray.toList_eq] using hne
        have hcmp2 : (T2.toList != s.toList) = true := by rw [bne, hcmp]; rfl
        clear hne h0 hT2
        go_enter Tryd.func6, Tryd.ntmps6
        go_wp2_with (first
          | (go_at_call 23; (with_reducible refine (lift (by assumption) (c1 _)).mono ?_); rintro e w' ⟨rfl, hb⟩)
          | (go_at_call 24; (with_reducible refine (c2 _).mono ?_); rintro e w' ⟨rfl, rfl⟩)
          | (go_at_call 25; (with_reducible refine (lift (by assumption) (c3' _)).mono ?_); rintro e w' ⟨rfl, hb⟩)
          | (go_at_call 25; (with_reducible refine (lift (by assumption) (c4 _)).mono ?_); rintro e w' ⟨rfl, hb⟩)
          | (go_at_call 26; (with_reducible refine (c7 _).mono ?_); rintro e w' ⟨rfl, rfl⟩)
          | (go_at_call 24; (with_reducible refine (c8 _).mono ?_); rintro e w' ⟨rfl, rfl⟩)
          | (go_at_call 14; (with_reducible refine (cA _ (by assumption)).mono ?_); rintro e w' ⟨rfl, hb⟩))
        go_ret
        exact ⟨rfl, by assumption⟩
  · have hs' : (500 : Int) < (s.size : Int) := by omega
    go_enter Tryd.func6, Tryd.ntmps6
    go_wp2_with (go_at_call 14; (with_reducible refine (cA _ (by assumption)).mono ?_); rintro e w' ⟨rfl, hb⟩)
    go_ret
    exact ⟨rfl, by assumption⟩
end Go.Proofs.YtefcklkepoihkaaDoor
