/-
  The statement RightsSets answers true at all triples of numbers, where the table of default rights lies as it was laid.
-/
import Derived.Test.YtefcklkepoihkaaDoorLawReduces
namespace Go.Proofs.YtefcklkepoihkaaDoor
open Go.ChangeShapes Go.WideShapes Go.ChangeAt Go.RowKit

theorem or_parts (a b : Int) (ha : fit a) : bits .or .i64 (bits .and .i64 a b) (bits .andNot .i64 a b) = a := by
  refine bits_ext _ _ (fit_bits _ _ _) ha fun i hi => ?_
  rw [bit_or, bit_and, bit_andNot _ _ _ hi]
  cases bitB a i <;> cases bitB b i <;> rfl
theorem bit_zero (i : Nat) : bitB 0 i = false := by
  unfold bitB
  simp
theorem and_parts (a b : Int) : bits .and .i64 (bits .and .i64 a b) (bits .andNot .i64 a b) = 0 := by
  refine bits_ext _ _ (fit_bits _ _ _) (by unfold fit; omega) fun i hi => ?_
  rw [bit_and, bit_and, bit_andNot _ _ _ hi, bit_zero]
  cases bitB a i <;> cases bitB b i <;> rfl
theorem and_comm64 (a b : Int) : bits .and .i64 b a = bits .and .i64 a b := by
  refine bits_ext _ _ (fit_bits _ _ _) (fit_bits _ _ _) fun i hi => ?_
  rw [bit_and, bit_and, Bool.and_comm]
theorem has_meet (a b : Int) : hasB a (bits .and .i64 a b) = true := by
  rw [hasB_iff _ _ (fit_bits _ _ _)]
  intro i hi h
  rw [bit_and] at h
  exact (Bool.and_eq_true _ _ ▸ h).1
theorem has_or (a b c : Int) (hb : fit b) (hc : fit c) : hasB a (bits .or .i64 b c) = (hasB a b && hasB a c) := by
  rw [Bool.eq_iff_iff, Bool.and_eq_true, hasB_iff _ _ (fit_bits _ _ _), hasB_iff _ _ hb, hasB_iff _ _ hc]
  constructor
  · intro h
    exact ⟨fun i hi h1 => h i hi (by rw [bit_or, h1]; rfl), fun i hi h1 => h i hi (by rw [bit_or, h1, Bool.or_true])⟩
  · rintro ⟨h1, h2⟩ i hi h
    rw [bit_or] at h
    rcases (Bool.or_eq_true _ _ ▸ h) with h | h
    · exact h1 i hi h
    · exact h2 i hi h
theorem has_trans (a b c : Int) (hb : fit b) (hc : fit c) (h1 : hasB a b = true) (h2 : hasB b c = true) : hasB a c = true := by
  rw [hasB_iff _ _ hb] at h1
  rw [hasB_iff _ _ hc] at h2 ⊢
  exact fun i hi h => h1 i hi (h2 i hi h)
/-- The four ends of the statement. -/
theorem sets_cases (a b c : Int) (ha : fit a) (hb : fit b) (hc : fit c) :
    redS a b = -10 ∨ (redS a b = 0 ∧ (redS (redV a b) c = -10 ∨ (redS (redV a b) c = 0 ∧ c = 2147483648 ∧ redV (redV a b) c = redV a b) ∨
      (redS (redV a b) c = 0 ∧ redS a c = 0 ∧ redV (redV a b) c = redV a c))) := by
  by_cases h0 : redS a b = -10
  · exact .inl h0
  · have hx : redS a b = 0 ∧ hasB a (redV a b) = true ∧ fit (redV a b) := by
      unfold redS redV at *
      by_cases h : b = 2147483648
      · rw [if_pos h, if_pos h]; exact ⟨rfl, has_self a ha, ha⟩
      · rw [if_neg h] at h0 ⊢
        by_cases h' : hasB 4095 b = true ∧ hasB a b = true
        · rw [if_neg h, if_pos h', if_pos h']; exact ⟨rfl, h'.2, hb⟩
        · rw [if_neg h'] at h0; exact absurd rfl h0
    obtain ⟨h1, h2, h3⟩ := hx
    refine .inr ⟨h1, ?_⟩
    generalize redV a b = x at h2 h3
    by_cases hs : c = 2147483648
    · refine .inr (.inl ⟨by unfold redS; rw [if_pos hs], hs, by unfold redV; rw [if_pos hs]⟩)
    · by_cases h' : hasB 4095 c = true ∧ hasB x c = true
      · have h'' : hasB 4095 c = true ∧ hasB a c = true := ⟨h'.1, has_trans a x c h3 hc h2 h'.2⟩
        refine .inr (.inr ⟨?_, ?_, ?_⟩)
        · unfold redS; rw [if_neg hs, if_pos h']
        · unfold redS; rw [if_neg hs, if_pos h'']
        · unfold redV; rw [if_neg hs, if_pos h', if_neg hs, if_pos h'']
      · exact .inl (by unfold redS; rw [if_neg hs, if_neg h'])
set_option maxHeartbeats 4000000 in
set_option maxRecDepth 20000 in
theorem sets_walk (a b c : Int) (ha : fit a) (hb : fit b) (hc : fit c) (w : World) (hd : Defs w) :
    Calls Tryd.prog 7 #[.int .i64 a, .int .i64 b, .int .i64 c] w fun e w' => e = .returned (.bool true) ∧ Below w.heap.size w w' := by
  have cA := awake_any w hd
  clear hd
  have c1 := meet_any a b
  have c2 := without_any a b
  have c3 := meet_any b a
  have c4 := has_any a (bits .and .i64 a b)
  have c5 := has_any a (bits .or .i64 b c)
  have c6 := has_any a b
  have c7 := has_any a c
  have c8 := has_any b c
  have d1 := reduce_any a b
  have d2 := reduce_any (redV a b) c
  have d3 := reduce_any a c
  have hcase := sets_cases a b c ha hb hc
  have hor := or_parts a b ha
  have hand := and_parts a b
  have htr := has_trans a b c hb hc
  rw [and_comm64] at c3
  rw [has_meet] at c4
  rw [has_or a b c hb hc] at c5
  clear ha hb hc
  generalize bits .and .i64 a b = M at c1 c3 c4 hor hand
  generalize bits .andNot .i64 a b = N at c2 hor hand
  generalize hasB a b = h1 at c5 c6 htr
  generalize hasB a c = h2 at c5 c7 htr
  generalize hasB b c = h3 at c8 htr
  generalize redV (redV a b) c = Y at d2 hcase
  generalize redS (redV a b) c = T at d2 hcase
  generalize redV a b = X at d1 d2 hcase
  generalize redS a b = S at d1 hcase
  generalize redV a c = Z at d3 hcase
  generalize redS a c = U at d3 hcase
  have hh : (h1 = true ∧ h2 = true ∧ h3 = true) ∨ (h1 = true ∧ h2 = true ∧ h3 = false) ∨ (h1 = true ∧ h2 = false ∧ h3 = false) ∨ (h1 = false ∧ h2 = true ∧ h3 = true) ∨ (h1 = false ∧ h2 = true ∧ h3 = false) ∨ (h1 = false ∧ h2 = false ∧ h3 = true) ∨ (h1 = false ∧ h2 = false ∧ h3 = false) := by
    cases h1 <;> cases h2 <;> cases h3 <;> simp_all
  have hz : (U == 0) = (U == 0) := rfl
  clear htr
  rcases hcase with rfl | ⟨rfl, rfl | ⟨rfl, rfl, rfl⟩ | ⟨rfl, rfl, rfl⟩⟩
  rotate_left 2
  · generalize hu : (U == 0) = u
    generalize hy : (Y == Z) = y
    clear hz
    rcases u with _ | _ <;> rcases y with _ | _ <;> rcases hh with ⟨rfl, rfl, rfl⟩ | ⟨rfl, rfl, rfl⟩ | ⟨rfl, rfl, rfl⟩ | ⟨rfl, rfl, rfl⟩ | ⟨rfl, rfl, rfl⟩ | ⟨rfl, rfl, rfl⟩ | ⟨rfl, rfl, rfl⟩
    all_goals
      go_enter Tryd.func7, Tryd.ntmps7
      go_wp2_with (first
        | (go_at_call 16; (with_reducible refine (c1 _).mono ?_); rintro e w' ⟨rfl, rfl⟩)
        | (go_at_call 17; (with_reducible refine (c2 _).mono ?_); rintro e w' ⟨rfl, rfl⟩)
        | (go_at_call 16; (with_reducible refine (c3 _).mono ?_); rintro e w' ⟨rfl, rfl⟩)
        | (go_at_call 20; (with_reducible refine (c4 _).mono ?_); rintro e w' ⟨rfl, rfl⟩)
        | (go_at_call 20; (with_reducible refine (c5 _).mono ?_); rintro e w' ⟨rfl, rfl⟩)
        | (go_at_call 20; (with_reducible refine (c6 _).mono ?_); rintro e w' ⟨rfl, rfl⟩)
        | (go_at_call 20; (with_reducible refine (c7 _).mono ?_); rintro e w' ⟨rfl, rfl⟩)
        | (go_at_call 20; (with_reducible refine (c8 _).mono ?_); rintro e w' ⟨rfl, rfl⟩)
        | (go_at_call 22; (with_reducible refine (d1 _).mono ?_); rintro e w' ⟨rfl, rfl⟩)
        | (go_at_call 22; (with_reducible refine (d2 _).mono ?_); rintro e w' ⟨rfl, rfl⟩)
        | (go_at_call 22; (with_reducible refine (d3 _).mono ?_); rintro e w' ⟨rfl, rfl⟩)
        | (go_at_call 14; (with_reducible refine cA.mono ?_); rintro e w' ⟨rfl, hb⟩))
      go_ret
      exact ⟨rfl, hb⟩
  all_goals
    rcases hh with ⟨rfl, rfl, rfl⟩ | ⟨rfl, rfl, rfl⟩ | ⟨rfl, rfl, rfl⟩ | ⟨rfl, rfl, rfl⟩ | ⟨rfl, rfl, rfl⟩ | ⟨rfl, rfl, rfl⟩ | ⟨rfl, rfl, rfl⟩
  all_goals
      clear hz
      go_enter Tryd.func7, Tryd.ntmps7
      go_wp2_with (first
        | (go_at_call 16; (with_reducible refine (c1 _).mono ?_); rintro e w' ⟨rfl, rfl⟩)
        | (go_at_call 17; (with_reducible refine (c2 _).mono ?_); rintro e w' ⟨rfl, rfl⟩)
        | (go_at_call 16; (with_reducible refine (c3 _).mono ?_); rintro e w' ⟨rfl, rfl⟩)
        | (go_at_call 20; (with_reducible refine (c4 _).mono ?_); rintro e w' ⟨rfl, rfl⟩)
        | (go_at_call 20; (with_reducible refine (c5 _).mono ?_); rintro e w' ⟨rfl, rfl⟩)
        | (go_at_call 20; (with_reducible refine (c6 _).mono ?_); rintro e w' ⟨rfl, rfl⟩)
        | (go_at_call 20; (with_reducible refine (c7 _).mono ?_); rintro e w' ⟨rfl, rfl⟩)
        | (go_at_call 20; (with_reducible refine (c8 _).mono ?_); rintro e w' ⟨rfl, rfl⟩)
        | (go_at_call 22; (with_reducible refine (d1 _).mono ?_); rintro e w' ⟨rfl, rfl⟩)
        | (go_at_call 22; (with_reducible refine (d2 _).mono ?_); rintro e w' ⟨rfl, rfl⟩)
        | (go_at_call 22; (with_reducible refine (d3 _).mono ?_); rintro e w' ⟨rfl, rfl⟩)
        | (go_at_call 14; (with_reducible refine cA.mono ?_); rintro e w' ⟨rfl, hb⟩))
      go_ret
      exact ⟨rfl, hb⟩
end Go.Proofs.YtefcklkepoihkaaDoor
