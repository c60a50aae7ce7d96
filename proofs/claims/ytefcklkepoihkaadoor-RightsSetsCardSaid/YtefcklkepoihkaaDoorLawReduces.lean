/-
  The statement RightsReduces answers true at all pairs of numbers, where the table of default rights lies as it was laid.
-/
import Derived.Test.YtefcklkepoihkaaDoorRAwake
namespace Go.Proofs.YtefcklkepoihkaaDoor
open Go.ChangeShapes Go.WideShapes Go.ChangeAt Go.RowKit

/-- A number is right just if it lies from 0 to 4095. -/
theorem right_iff (b : Int) : hasB 4095 b = true ↔ 0 ≤ b ∧ b ≤ 4095 := by
  unfold hasB
  rw [decide_eq_true_iff]
  have h : bits .and .i64 4095 b = bits .and .i64 b 4095 := by
    refine bits_ext _ _ (fit_bits _ _ _) (fit_bits _ _ _) fun i _ => ?_
    rw [bit_and, bit_and, Bool.and_comm]
  rw [h, and_4095]
  unfold low
  omega
theorem has_self (a : Int) (ha : fit a) : hasB a a = true := (hasB_iff a a ha).2 fun _ _ h => h
theorem fit_wf {a : Int} (h : (Lit.int .i64 a).wf = true) : fit a := by
  unfold fit
  simpa [Lit.wf, IntKind.min, IntKind.max, IntKind.bits, IntKind.signed] using h
set_option maxRecDepth 20000 in
theorem reduces_walk (a b : Int) (ha : fit a) (hb : fit b) (w : World) (hd : Defs w) :
    Calls Tryd.prog 5 #[.int .i64 a, .int .i64 b] w fun e w' => e = .returned (.bool true) ∧ Below w.heap.size w w' := by
  have cA := awake_any w hd
  clear hd
  have c1 := reduce_any a b w
  by_cases h0 : b = 2147483648
  · have e1 : redV a b = a := by simp [redV, h0]
    have e2 : redS a b = 0 := by simp [redS, h0]
    rw [e1, e2] at c1
    subst h0
    clear e1 e2 ha hb
    go_enter Tryd.func5, Tryd.ntmps5
    go_wp2_with (first | (go_at_call 22; (with_reducible refine c1.mono ?_); rintro e w' ⟨rfl, rfl⟩) | (go_at_call 14; (with_reducible refine cA.mono ?_); rintro e w' ⟨rfl, hb⟩))
    go_ret
    exact ⟨rfl, hb⟩
  · have cS := sub_any a b ha hb w
    by_cases hok : (0 ≤ b ∧ b ≤ 4095) ∧ hasB a b = true
    · obtain ⟨⟨h1, h2⟩, h3⟩ := hok
      have hr := (right_iff b).2 ⟨h1, h2⟩
      have e1 : redV a b = b := by simp [redV, h0, hr, h3]
      have e2 : redS a b = 0 := by simp [redS, h0, hr, h3]
      rw [e1, e2] at c1
      have c2 := reduce_any b b w
      have e3 : redV b b = b := by simp [redV, h0, hr, has_self b hb]
      have e4 : redS b b = 0 := by simp [redS, h0, hr, has_self b hb]
      rw [e3, e4] at c2
      have c3 := has_any a b w
      rw [h3] at c3 cS
      clear e1 e2 e3 e4 ha hb hr h3
      go_enter Tryd.func5, Tryd.ntmps5
      go_wp2_with (first | (go_at_call 22; (with_reducible refine c1.mono ?_); rintro e w' ⟨rfl, rfl⟩) | (go_at_call 22; (with_reducible refine c2.mono ?_); rintro e w' ⟨rfl, rfl⟩) | (go_at_call 18; (with_reducible refine cS.mono ?_); rintro e w' ⟨rfl, rfl⟩) | (go_at_call 20; (with_reducible refine c3.mono ?_); rintro e w' ⟨rfl, rfl⟩) | (go_at_call 14; (with_reducible refine cA.mono ?_); rintro e w' ⟨rfl, hb⟩))
      go_ret
      exact ⟨rfl, hb⟩
    · have hn : ¬ (hasB 4095 b = true ∧ hasB a b = true) := fun h => hok ⟨(right_iff b).1 h.1, h.2⟩
      have e1 : redV a b = 0 := by unfold redV; rw [if_neg h0, if_neg hn]
      have e2 : redS a b = -10 := by unfold redS; rw [if_neg h0, if_neg hn]
      rw [e1, e2] at c1
      have hcase : b < 0 ∨ (¬ b < 0 ∧ 4095 < b) ∨ (¬ b < 0 ∧ ¬ 4095 < b ∧ hasB a b = false) := by
        by_cases g1 : b < 0
        · exact .inl g1
        · by_cases g2 : 4095 < b
          · exact .inr (.inl ⟨g1, g2⟩)
          · exact .inr (.inr ⟨g1, g2, by
              cases h : hasB a b
              · rfl
              · exact absurd ⟨⟨by omega, by omega⟩, h⟩ hok⟩)
      clear e1 e2 hn hok ha hb
      rcases hcase with g | ⟨g1, g2⟩ | ⟨g1, g2, g3⟩
      · go_enter Tryd.func5, Tryd.ntmps5
        go_wp2_with (first | (go_at_call 22; (with_reducible refine c1.mono ?_); rintro e w' ⟨rfl, rfl⟩) | (go_at_call 14; (with_reducible refine cA.mono ?_); rintro e w' ⟨rfl, hb⟩))
        go_ret
        exact ⟨rfl, hb⟩
      · go_enter Tryd.func5, Tryd.ntmps5
        go_wp2_with (first | (go_at_call 22; (with_reducible refine c1.mono ?_); rintro e w' ⟨rfl, rfl⟩) | (go_at_call 14; (with_reducible refine cA.mono ?_); rintro e w' ⟨rfl, hb⟩))
        go_ret
        exact ⟨rfl, hb⟩
      · rw [g3] at cS
        clear g3
        go_enter Tryd.func5, Tryd.ntmps5
        go_wp2_with (first | (go_at_call 22; (with_reducible refine c1.mono ?_); rintro e w' ⟨rfl, rfl⟩) | (go_at_call 18; (with_reducible refine cS.mono ?_); rintro e w' ⟨rfl, rfl⟩) | (go_at_call 14; (with_reducible refine cA.mono ?_); rintro e w' ⟨rfl, hb⟩))
        go_ret
        exact ⟨rfl, hb⟩
end Go.Proofs.YtefcklkepoihkaaDoor
