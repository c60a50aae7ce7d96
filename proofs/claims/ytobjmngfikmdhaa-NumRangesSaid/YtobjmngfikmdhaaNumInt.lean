/-
  The reference's product and reading of whole numbers, by value; when the statements' own same answers true.
-/
import Derived.Test.YtobjmngfikmdhaaNumBigE
import Derived.Test.YtobjmngfikmdhaaNumBigF
import Derived.Test.YtobjmngfikmdhaaNumAdd
import Derived.Test.YtobjmngfikmdhaaNumVal2
namespace Go.Proofs.Ytobjmngfikmdhaa
open Go.ChangeShapes Go.WideShapes Go.ChangeAt Go.RowKit

theorem mul_val (a b : Nat → Int) (s t : Bool) (ha : ∀ i, 0 ≤ a i ∧ a i < 65536) (hb : ∀ i, 0 ≤ b i ∧ b i < 65536) (w : World) :
    Calls Try.prog 21 #[.agg #[.int .i64 (a 0), .int .i64 (a 1), .int .i64 (a 2), .int .i64 (a 3), .int .i64 (a 4), .int .i64 0, .int .i64 0, .int .i64 0, .int .i64 0, .int .i64 0, .int .i64 0, .int .i64 0, .bool s], .agg #[.int .i64 (b 0), .int .i64 (b 1), .int .i64 (b 2), .int .i64 (b 3), .int .i64 (b 4), .int .i64 0, .int .i64 0, .int .i64 0, .int .i64 0, .int .i64 0, .int .i64 0, .int .i64 0, .bool t]] w fun e w' => e = .returned (.agg #[.int .i64 (pdig a b 0), .int .i64 (pdig a b 1), .int .i64 (pdig a b 2), .int .i64 (pdig a b 3), .int .i64 (pdig a b 4), .int .i64 (pdig a b 5), .int .i64 (pdig a b 6), .int .i64 (pdig a b 7), .int .i64 (pdig a b 8), .int .i64 (pdig a b 9), .int .i64 (pdig a b 10), .int .i64 (pdig a b 11), .bool (!(s == t))]) ∧ Below w.heap.size w w' :=
  mul_any' a b (row a b) (rcar a b) (fun i k => a i * b k) s t w (fun i k _ _ => ⟨rfl, dig_mul _ _ (ha i) (hb k)⟩) (row_bd a b ha hb) (rcar_bd a b ha hb) (fun _ => rfl) (fun _ => rfl) (fun _ _ => rfl)
    (fun _ _ _ hk => (if_pos hk).symm) (fun _ _ _ _ => rfl)

theorem hor_le (d : Nat → Int) (hd : ∀ i, 0 ≤ d i ∧ d i < 65536) (h : val4 d ≤ 9223372036854775807) : ∀ i, i < 3 → 0 ≤ hor d i ∧ hor d i ≤ 9223372036854775807 := by
  have h0 := hd 0
  have h1 := hd 1
  have h2 := hd 2
  have h3 := hd 3
  have e0 : hor d 0 = ((d 3 * 65536 + d 2) * 65536 + d 1) * 65536 + d 0 := rfl
  have e1 : hor d 1 = (d 3 * 65536 + d 2) * 65536 + d 1 := rfl
  have e2 : hor d 2 = d 3 * 65536 + d 2 := rfl
  unfold val4 at h
  intro i hi
  match i, hi with
  | 0, _ => rw [e0]; omega
  | 1, _ => rw [e1]; omega
  | 2, _ => rw [e2]; omega
theorem hor_ge (d : Nat → Int) (hd : ∀ i, 0 ≤ d i ∧ d i < 65536) (h3' : d 3 ≤ 32768) (h : val4 d ≤ 9223372036854775808) : ∀ i, i < 4 → -9223372036854775808 ≤ hor (fun i => -(d i)) i ∧ hor (fun i => -(d i)) i ≤ 0 := by
  have h0 := hd 0
  have h1 := hd 1
  have h2 := hd 2
  have h3 := hd 3
  have e0 : hor (fun i => -(d i)) 0 = ((-(d 3) * 65536 + -(d 2)) * 65536 + -(d 1)) * 65536 + -(d 0) := rfl
  have e1 : hor (fun i => -(d i)) 1 = (-(d 3) * 65536 + -(d 2)) * 65536 + -(d 1) := rfl
  have e2 : hor (fun i => -(d i)) 2 = -(d 3) * 65536 + -(d 2) := rfl
  have e3 : hor (fun i => -(d i)) 3 = -(d 3) := rfl
  unfold val4 at h
  intro i hi
  match i, hi with
  | 0, _ => rw [e0]; omega
  | 1, _ => rw [e1]; omega
  | 2, _ => rw [e2]; omega
  | 3, _ => rw [e3]; omega

/-- Reading a whole number whose digits from the fifth on are 0. -/
theorem int_low (d : Nat → Int) (s : Bool) (hd : ∀ i, 0 ≤ d i ∧ d i < 65536) :
    ∃ (n : Int) (ok : Bool), (∀ w, Calls Try.prog 28 #[.agg #[.int .i64 (d 0), .int .i64 (d 1), .int .i64 (d 2), .int .i64 (d 3), .int .i64 0, .int .i64 0, .int .i64 0, .int .i64 0, .int .i64 0, .int .i64 0, .int .i64 0, .int .i64 0, .bool s]] w fun e w' => e = .returned (.tuple #[.int .i64 n, .bool ok]) ∧ Below w.heap.size w w') ∧
      (ok = true ∧ n = signed s (val4 d) ∧ fit (signed s (val4 d)) ∨ ok = false ∧ n = 0 ∧ ¬ fit (signed s (val4 d))) := by
  have h0 := hd 0
  have h1 := hd 1
  have h2 := hd 2
  have h3 := hd 3
  have hv : val4 d = ((d 3 * 65536 + d 2) * 65536 + d 1) * 65536 + d 0 := by unfold val4; omega
  cases s
  · by_cases h : d 3 ≤ 32767
    · have hle : val4 d ≤ 9223372036854775807 := by unfold val4; omega
      refine ⟨_, _, fun w => int_py d (hor d) w (fun i _ => hd i) h (hor_le d hd hle) rfl rfl rfl, .inl ⟨rfl, hv.symm, ?_⟩⟩
      show fit (val4 d)
      unfold fit val4 at *
      omega
    · refine ⟨_, _, fun w => int_pn d w (fun i _ => hd i) (by omega), .inr ⟨rfl, rfl, ?_⟩⟩
      show ¬ fit (val4 d)
      unfold fit val4 at *
      omega
  · have he : ∀ i, i < 4 → -(d i) = (fun i => -(d i)) i ∧ -65535 ≤ (fun i => -(d i)) i ∧ (fun i => -(d i)) i ≤ 0 := by
      intro i _
      have := hd i
      show -(d i) = -(d i) ∧ -65535 ≤ -(d i) ∧ -(d i) ≤ 0
      omega
    by_cases h : 32768 < d 3
    · refine ⟨_, _, fun w => int_nn d (fun i => -(d i)) w (fun i _ => hd i) h he, .inr ⟨rfl, rfl, ?_⟩⟩
      show ¬ fit (-(val4 d))
      unfold fit val4 at *
      omega
    · by_cases hle : val4 d ≤ 9223372036854775808
      · refine ⟨_, _, fun w => int_ny d (hor (fun i => -(d i))) (fun i => -(d i)) w (fun i _ => hd i) (by omega) (hor_ge d hd (by omega) hle) he rfl rfl rfl rfl, .inl ⟨rfl, ?_, ?_⟩⟩
        · show ((-(d 3) * 65536 + -(d 2)) * 65536 + -(d 1)) * 65536 + -(d 0) = -(val4 d)
          rw [hv]; omega
        · show fit (-(val4 d))
          unfold fit val4 at *
          omega
      · have h3e : d 3 = 32768 := by unfold val4 at hle; omega
        have e1 : hor (fun i => -(d i)) 1 = (-(d 3) * 65536 + -(d 2)) * 65536 + -(d 1) := rfl
        have hg : ∀ i, 1 ≤ i → i < 4 → -9223372036854775808 ≤ hor (fun i => -(d i)) i ∧ hor (fun i => -(d i)) i ≤ 0 := by
          intro i hi1 hi
          have e2 : hor (fun i => -(d i)) 2 = -(d 3) * 65536 + -(d 2) := rfl
          have e3 : hor (fun i => -(d i)) 3 = -(d 3) := rfl
          match i, hi1, hi with
          | 1, _, _ => rw [e1]; omega
          | 2, _, _ => rw [e2]; omega
          | 3, _, _ => rw [e3]; omega
        have hnf : ¬ fit (-(val4 d)) := by unfold fit val4 at *; omega
        by_cases hz : hor (fun i => -(d i)) 1 * 65536 = -9223372036854775808
        · refine ⟨_, _, fun w => int_nf d (hor (fun i => -(d i))) (fun i => -(d i)) _ w (fun i _ => hd i) h3e hg he rfl rfl rfl (.inl ⟨hz, ?_, rfl⟩), .inr ⟨rfl, rfl, hnf⟩⟩
          show -(d 0) < 0
          rw [e1] at hz
          unfold val4 at hle
          omega
        · refine ⟨_, _, fun w => int_nf d (hor (fun i => -(d i))) (fun i => -(d i)) _ w (fun i _ => hd i) h3e hg he rfl rfl rfl (.inr ⟨?_, rfl⟩), .inr ⟨rfl, rfl, hnf⟩⟩
          rw [e1] at hz ⊢
          omega

/-- Reading a whole number: any twelve digits. -/
theorem int_val (d : Nat → Int) (s : Bool) (hd : ∀ i, 0 ≤ d i ∧ d i < 65536) :
    ∃ (n : Int) (ok : Bool), (∀ w, Calls Try.prog 28 #[.agg #[.int .i64 (d 0), .int .i64 (d 1), .int .i64 (d 2), .int .i64 (d 3), .int .i64 (d 4), .int .i64 (d 5), .int .i64 (d 6), .int .i64 (d 7), .int .i64 (d 8), .int .i64 (d 9), .int .i64 (d 10), .int .i64 (d 11), .bool s]] w fun e w' => e = .returned (.tuple #[.int .i64 n, .bool ok]) ∧ Below w.heap.size w w') ∧
      (ok = true ∧ n = signed s (val4 d) ∧ fit (signed s (val4 d)) ∧ (∀ j, 4 ≤ j → j < 12 → d j = 0) ∨ ok = false ∧ n = 0 ∧ (¬ fit (signed s (val4 d)) ∨ ∃ j, 4 ≤ j ∧ j < 12 ∧ d j ≠ 0)) := by
  by_cases f4 : d 4 ≠ 0
  · exact ⟨_, _, fun w => int_top4 d s w f4, .inr ⟨rfl, rfl, .inr ⟨4, by omega, by omega, f4⟩⟩⟩
  have e4 : d 4 = 0 := Decidable.of_not_not f4
  by_cases f5 : d 5 ≠ 0
  · exact ⟨_, _, fun w => int_top5 d s w e4 f5, .inr ⟨rfl, rfl, .inr ⟨5, by omega, by omega, f5⟩⟩⟩
  have e5 : d 5 = 0 := Decidable.of_not_not f5
  by_cases f6 : d 6 ≠ 0
  · exact ⟨_, _, fun w => int_top6 d s w e4 e5 f6, .inr ⟨rfl, rfl, .inr ⟨6, by omega, by omega, f6⟩⟩⟩
  have e6 : d 6 = 0 := Decidable.of_not_not f6
  by_cases f7 : d 7 ≠ 0
  · exact ⟨_, _, fun w => int_top7 d s w e4 e5 e6 f7, .inr ⟨rfl, rfl, .inr ⟨7, by omega, by omega, f7⟩⟩⟩
  have e7 : d 7 = 0 := Decidable.of_not_not f7
  by_cases f8 : d 8 ≠ 0
  · exact ⟨_, _, fun w => int_top8 d s w e4 e5 e6 e7 f8, .inr ⟨rfl, rfl, .inr ⟨8, by omega, by omega, f8⟩⟩⟩
  have e8 : d 8 = 0 := Decidable.of_not_not f8
  by_cases f9 : d 9 ≠ 0
  · exact ⟨_, _, fun w => int_top9 d s w e4 e5 e6 e7 e8 f9, .inr ⟨rfl, rfl, .inr ⟨9, by omega, by omega, f9⟩⟩⟩
  have e9 : d 9 = 0 := Decidable.of_not_not f9
  by_cases f10 : d 10 ≠ 0
  · exact ⟨_, _, fun w => int_top10 d s w e4 e5 e6 e7 e8 e9 f10, .inr ⟨rfl, rfl, .inr ⟨10, by omega, by omega, f10⟩⟩⟩
  have e10 : d 10 = 0 := Decidable.of_not_not f10
  by_cases f11 : d 11 ≠ 0
  · exact ⟨_, _, fun w => int_top11 d s w e4 e5 e6 e7 e8 e9 e10 f11, .inr ⟨rfl, rfl, .inr ⟨11, by omega, by omega, f11⟩⟩⟩
  have e11 : d 11 = 0 := Decidable.of_not_not f11
  obtain ⟨n, ok, hc, hr⟩ := int_low d s hd
  refine ⟨n, ok, fun w => ?_, ?_⟩
  · rw [e4, e5, e6, e7, e8, e9, e10, e11]
    exact hc w
  · rcases hr with ⟨h1, h2, h3⟩ | ⟨h1, h2, h3⟩
    · refine .inl ⟨h1, h2, h3, fun j h4 h5 => ?_⟩
      match j, h4, h5 with
      | 4, _, _ => exact e4
      | 5, _, _ => exact e5
      | 6, _, _ => exact e6
      | 7, _, _ => exact e7
      | 8, _, _ => exact e8
      | 9, _, _ => exact e9
      | 10, _, _ => exact e10
      | 11, _, _ => exact e11
    · exact .inr ⟨h1, h2, .inl h3⟩

set_option maxRecDepth 100000 in
set_option maxHeartbeats 2000000 in
theorem same_true (n : Int) (ok : Bool) (d : Nat → Int) (s : Bool) (w : World) (c1 : ∀ w, Calls Try.prog 28 #[.agg #[.int .i64 (d 0), .int .i64 (d 1), .int .i64 (d 2), .int .i64 (d 3), .int .i64 (d 4), .int .i64 (d 5), .int .i64 (d 6), .int .i64 (d 7), .int .i64 (d 8), .int .i64 (d 9), .int .i64 (d 10), .int .i64 (d 11), .bool s]] w fun e w' => e = .returned (.tuple #[.int .i64 n, .bool ok]) ∧ Below w.heap.size w w') (h0 : ok = false → n = 0) :
    Calls Try.prog 16 #[.int .i64 n, .bool ok, .agg #[.int .i64 (d 0), .int .i64 (d 1), .int .i64 (d 2), .int .i64 (d 3), .int .i64 (d 4), .int .i64 (d 5), .int .i64 (d 6), .int .i64 (d 7), .int .i64 (d 8), .int .i64 (d 9), .int .i64 (d 10), .int .i64 (d 11), .bool s]] w fun e w' => e = .returned (.bool true) ∧ Below w.heap.size w w' := by
  cases ok
  · obtain rfl := h0 rfl
    go_enter Try.func16, Try.ntmps16
    go_wp2_with (go_at_call 28; (with_reducible refine (c1 _).mono ?_); rintro e w1 ⟨rfl, hb⟩)
    go_ret
    refine ⟨rfl, ?_⟩
    exact Below.trans ((Below.refl _ _).alloc (Nat.le_refl _) _) (hb.mono (by simp))
  · clear h0
    go_enter Try.func16, Try.ntmps16
    go_wp2_with (go_at_call 28; (with_reducible refine (c1 _).mono ?_); rintro e w1 ⟨rfl, hb⟩)
    go_ret
    refine ⟨rfl, ?_⟩
    exact Below.trans ((Below.refl _ _).alloc (Nat.le_refl _) _) (hb.mono (by simp))
end Go.Proofs.Ytobjmngfikmdhaa
