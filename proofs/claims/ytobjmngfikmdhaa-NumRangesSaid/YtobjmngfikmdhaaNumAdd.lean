/-
  The reference's sum of whole numbers, by value.
-/
import Derived.Test.YtobjmngfikmdhaaNumBigA
import Derived.Test.YtobjmngfikmdhaaNumBigB
import Derived.Test.YtobjmngfikmdhaaNumBigC
import Derived.Test.YtobjmngfikmdhaaNumBigD
import Derived.Test.YtobjmngfikmdhaaNumVal
import Derived.WalkSmall
namespace Go.Proofs.Ytobjmngfikmdhaa
open Go.ChangeShapes Go.WideShapes Go.ChangeAt Go.RowKit

theorem bcell {W w1 : World} (hb : Below W.heap.size W w1) : (∀ b o, b < W.heap.size → w1.cell? ⟨b, o, none⟩ = W.cell? ⟨b, o, none⟩) ∧ (∀ b o, b < W.heap.size → w1.frozen? ⟨b, o, none⟩ = W.frozen? ⟨b, o, none⟩) :=
  ⟨fun b o h => hb.cell (p := ⟨b, o, none⟩) h, fun b o h => hb.frozen (p := ⟨b, o, none⟩) h⟩

theorem of_val (n : Int) (h : fit n) (w : World) :
    Calls Try.prog 13 #[.int .i64 n] w fun e w' => e = .returned (.agg #[.int .i64 (dig n 0), .int .i64 (dig n 1), .int .i64 (dig n 2), .int .i64 (dig n 3), .int .i64 (dig n 4), .int .i64 0, .int .i64 0, .int .i64 0, .int .i64 0, .int .i64 0, .int .i64 0, .int .i64 0, .bool (decide (n < 0))]) ∧ Below w.heap.size w w' :=
  of_any n (quot n) (dig n) w rfl (fun _ _ => rfl) (fun i _ => dig_cases n i h) (fun i _ => (quot_bd n h i).1)
theorem plus_val' (a b : Nat → Int) (s t : Bool) (ha : ∀ i, i < 5 → 0 ≤ a i ∧ a i < 65536) (hb : ∀ i, i < 5 → 0 ≤ b i ∧ b i < 65536) (h : val5 a + val5 b < 1208925819614629174706176) (w : World) :
    Calls Try.prog 30 #[.agg #[.int .i64 (a 0), .int .i64 (a 1), .int .i64 (a 2), .int .i64 (a 3), .int .i64 (a 4), .int .i64 0, .int .i64 0, .int .i64 0, .int .i64 0, .int .i64 0, .int .i64 0, .int .i64 0, .bool s], .agg #[.int .i64 (b 0), .int .i64 (b 1), .int .i64 (b 2), .int .i64 (b 3), .int .i64 (b 4), .int .i64 0, .int .i64 0, .int .i64 0, .int .i64 0, .int .i64 0, .int .i64 0, .int .i64 0, .bool t]] w fun e w' => e = .returned (.agg #[.int .i64 (psum a b 0), .int .i64 (psum a b 1), .int .i64 (psum a b 2), .int .i64 (psum a b 3), .int .i64 (psum a b 4), .int .i64 0, .int .i64 0, .int .i64 0, .int .i64 0, .int .i64 0, .int .i64 0, .int .i64 0, .bool s]) ∧ Below w.heap.size w w' :=
  plus_any a b (psum a b) (carry a b) s t w ha hb (fun i hi => carry_bd a b ha hb i (by omega)) rfl (plus_val a b ha hb h).1 (fun _ _ => rfl) (fun _ _ => rfl)
theorem minus_val' (a b : Nat → Int) (s t : Bool) (ha : ∀ i, i < 5 → 0 ≤ a i ∧ a i < 65536) (hb : ∀ i, i < 5 → 0 ≤ b i ∧ b i < 65536) (h : val5 b ≤ val5 a) (w : World) :
    Calls Try.prog 32 #[.agg #[.int .i64 (a 0), .int .i64 (a 1), .int .i64 (a 2), .int .i64 (a 3), .int .i64 (a 4), .int .i64 0, .int .i64 0, .int .i64 0, .int .i64 0, .int .i64 0, .int .i64 0, .int .i64 0, .bool s], .agg #[.int .i64 (b 0), .int .i64 (b 1), .int .i64 (b 2), .int .i64 (b 3), .int .i64 (b 4), .int .i64 0, .int .i64 0, .int .i64 0, .int .i64 0, .int .i64 0, .int .i64 0, .int .i64 0, .bool t]] w fun e w' => e = .returned (.agg #[.int .i64 (mdif a b 0), .int .i64 (mdif a b 1), .int .i64 (mdif a b 2), .int .i64 (mdif a b 3), .int .i64 (mdif a b 4), .int .i64 0, .int .i64 0, .int .i64 0, .int .i64 0, .int .i64 0, .int .i64 0, .int .i64 0, .bool s]) ∧ Below w.heap.size w w' :=
  minus_any a b (mdif a b) (borrow a b) s t w ha hb rfl (minus_val a b ha hb h).1 (fun i _ => mdif_cases a b i) (fun i _ => borrow_bd a b i)
theorem less_val' (a b : Nat → Int) (s t : Bool) (ha : ∀ i, i < 5 → 0 ≤ a i ∧ a i < 65536) (hb : ∀ i, i < 5 → 0 ≤ b i ∧ b i < 65536) (w : World) :
    Calls Try.prog 31 #[.agg #[.int .i64 (a 0), .int .i64 (a 1), .int .i64 (a 2), .int .i64 (a 3), .int .i64 (a 4), .int .i64 0, .int .i64 0, .int .i64 0, .int .i64 0, .int .i64 0, .int .i64 0, .int .i64 0, .bool s], .agg #[.int .i64 (b 0), .int .i64 (b 1), .int .i64 (b 2), .int .i64 (b 3), .int .i64 (b 4), .int .i64 0, .int .i64 0, .int .i64 0, .int .i64 0, .int .i64 0, .int .i64 0, .int .i64 0, .bool t]] w fun e w' => e = .returned (.bool (decide (val5 a < val5 b))) ∧ Below w.heap.size w w' := by
  by_cases e4 : a 4 = b 4
  · by_cases e3 : a 3 = b 3
    · by_cases e2 : a 2 = b 2
      · by_cases e1 : a 1 = b 1
        · by_cases e0 : a 0 = b 0
          · have h : decide (val5 a < val5 b) = false := by unfold val5; rw [e0, e1, e2, e3, e4]; simp
            rw [h]
            exact less_none a b s t w e4 e3 e2 e1 e0
          · rw [← less_val a b 0 (by omega) ha hb (fun i h1 h2 => by match i, h1, h2 with | 1, _, _ => exact e1 | 2, _, _ => exact e2 | 3, _, _ => exact e3 | 4, _, _ => exact e4) e0]
            exact less_0 a b s t w e4 e3 e2 e1 e0
        · rw [← less_val a b 1 (by omega) ha hb (fun i h1 h2 => by match i, h1, h2 with | 2, _, _ => exact e2 | 3, _, _ => exact e3 | 4, _, _ => exact e4) e1]
          exact less_1 a b s t w e4 e3 e2 e1
      · rw [← less_val a b 2 (by omega) ha hb (fun i h1 h2 => by match i, h1, h2 with | 3, _, _ => exact e3 | 4, _, _ => exact e4) e2]
        exact less_2 a b s t w e4 e3 e2
    · rw [← less_val a b 3 (by omega) ha hb (fun i h1 h2 => by match i, h1, h2 with | 4, _, _ => exact e4) e3]
      exact less_3 a b s t w e4 e3
  · rw [← less_val a b 4 (by omega) ha hb (fun i h1 h2 => by omega) e4]
    exact less_4 a b s t w e4

set_option maxRecDepth 100000 in
set_option maxHeartbeats 4000000 in
theorem add_same (a b r : Nat → Int) (s : Bool) (w : World) (c1 : ∀ w, Calls Try.prog 30 #[.agg #[.int .i64 (a 0), .int .i64 (a 1), .int .i64 (a 2), .int .i64 (a 3), .int .i64 (a 4), .int .i64 0, .int .i64 0, .int .i64 0, .int .i64 0, .int .i64 0, .int .i64 0, .int .i64 0, .bool s], .agg #[.int .i64 (b 0), .int .i64 (b 1), .int .i64 (b 2), .int .i64 (b 3), .int .i64 (b 4), .int .i64 0, .int .i64 0, .int .i64 0, .int .i64 0, .int .i64 0, .int .i64 0, .int .i64 0, .bool s]] w fun e w' => e = .returned (.agg #[.int .i64 (r 0), .int .i64 (r 1), .int .i64 (r 2), .int .i64 (r 3), .int .i64 (r 4), .int .i64 0, .int .i64 0, .int .i64 0, .int .i64 0, .int .i64 0, .int .i64 0, .int .i64 0, .bool s]) ∧ Below w.heap.size w w') :
    Calls Try.prog 17 #[.agg #[.int .i64 (a 0), .int .i64 (a 1), .int .i64 (a 2), .int .i64 (a 3), .int .i64 (a 4), .int .i64 0, .int .i64 0, .int .i64 0, .int .i64 0, .int .i64 0, .int .i64 0, .int .i64 0, .bool s], .agg #[.int .i64 (b 0), .int .i64 (b 1), .int .i64 (b 2), .int .i64 (b 3), .int .i64 (b 4), .int .i64 0, .int .i64 0, .int .i64 0, .int .i64 0, .int .i64 0, .int .i64 0, .int .i64 0, .bool s]] w fun e w' => e = .returned (.agg #[.int .i64 (r 0), .int .i64 (r 1), .int .i64 (r 2), .int .i64 (r 3), .int .i64 (r 4), .int .i64 0, .int .i64 0, .int .i64 0, .int .i64 0, .int .i64 0, .int .i64 0, .int .i64 0, .bool s]) ∧ Below w.heap.size w w' := by
  go_enter Try.func17, Try.ntmps17
  go_wp2_with (go_at_call 30; (with_reducible refine (c1 _).mono ?_); rintro e w1 ⟨rfl, hb⟩; obtain ⟨hc, hf⟩ := bcell hb)
  refine bodyPost_ret (v := .agg #[.int .i64 (r 0), .int .i64 (r 1), .int .i64 (r 2), .int .i64 (r 3), .int .i64 (r 4), .int .i64 0, .int .i64 0, .int .i64 0, .int .i64 0, .int .i64 0, .int .i64 0, .int .i64 0, .bool s]) (by simp [results, Try.results17, go_sem, hc]) rfl ⟨rfl, ?_⟩
  repeat (first | (with_reducible exact Below.refl _ _) | (with_reducible refine below_drewN ?_ _) | ((with_reducible refine Below.setCell ?_ ?_ _); rotate_left; (first | omega | (simp <;> omega))) | ((with_reducible refine Below.trans ?_ (hb.mono ?_)); rotate_left; (first | omega | (simp <;> omega))) | ((with_reducible refine Below.alloc ?_ ?_ _); rotate_left; (first | omega | (simp <;> omega))))

set_option maxRecDepth 100000 in
set_option maxHeartbeats 4000000 in
theorem add_lt' (a b r : Nat → Int) (s : Bool) (w : World) (c1 : ∀ w, Calls Try.prog 31 #[.agg #[.int .i64 (a 0), .int .i64 (a 1), .int .i64 (a 2), .int .i64 (a 3), .int .i64 (a 4), .int .i64 0, .int .i64 0, .int .i64 0, .int .i64 0, .int .i64 0, .int .i64 0, .int .i64 0, .bool s], .agg #[.int .i64 (b 0), .int .i64 (b 1), .int .i64 (b 2), .int .i64 (b 3), .int .i64 (b 4), .int .i64 0, .int .i64 0, .int .i64 0, .int .i64 0, .int .i64 0, .int .i64 0, .int .i64 0, .bool (!s)]] w fun e w' => e = .returned (.bool true) ∧ Below w.heap.size w w')
    (c2 : ∀ w, Calls Try.prog 32 #[.agg #[.int .i64 (b 0), .int .i64 (b 1), .int .i64 (b 2), .int .i64 (b 3), .int .i64 (b 4), .int .i64 0, .int .i64 0, .int .i64 0, .int .i64 0, .int .i64 0, .int .i64 0, .int .i64 0, .bool (!s)], .agg #[.int .i64 (a 0), .int .i64 (a 1), .int .i64 (a 2), .int .i64 (a 3), .int .i64 (a 4), .int .i64 0, .int .i64 0, .int .i64 0, .int .i64 0, .int .i64 0, .int .i64 0, .int .i64 0, .bool s]] w fun e w' => e = .returned (.agg #[.int .i64 (r 0), .int .i64 (r 1), .int .i64 (r 2), .int .i64 (r 3), .int .i64 (r 4), .int .i64 0, .int .i64 0, .int .i64 0, .int .i64 0, .int .i64 0, .int .i64 0, .int .i64 0, .bool (!s)]) ∧ Below w.heap.size w w') :
    Calls Try.prog 17 #[.agg #[.int .i64 (a 0), .int .i64 (a 1), .int .i64 (a 2), .int .i64 (a 3), .int .i64 (a 4), .int .i64 0, .int .i64 0, .int .i64 0, .int .i64 0, .int .i64 0, .int .i64 0, .int .i64 0, .bool s], .agg #[.int .i64 (b 0), .int .i64 (b 1), .int .i64 (b 2), .int .i64 (b 3), .int .i64 (b 4), .int .i64 0, .int .i64 0, .int .i64 0, .int .i64 0, .int .i64 0, .int .i64 0, .int .i64 0, .bool (!s)]] w fun e w' => e = .returned (.agg #[.int .i64 (r 0), .int .i64 (r 1), .int .i64 (r 2), .int .i64 (r 3), .int .i64 (r 4), .int .i64 0, .int .i64 0, .int .i64 0, .int .i64 0, .int .i64 0, .int .i64 0, .int .i64 0, .bool (!s)]) ∧ Below w.heap.size w w' := by
  cases s
  all_goals
    simp only [Bool.not_true, Bool.not_false] at c1 c2 ⊢
    go_enter Try.func17, Try.ntmps17
    go_wp2_with (first | (go_at_call 31; (with_reducible refine (c1 _).mono ?_); rintro e w1 ⟨rfl, hb⟩; obtain ⟨hc, hf⟩ := bcell hb; have hz : w.heap.size + 1 + 1 < w1.heap.size := by (have := hb.size; simp at this; omega)) | (go_at_call 32; (with_reducible refine (c2 _).mono ?_); rintro e w2 ⟨rfl, hb2⟩; obtain ⟨hc2, hf2⟩ := bcell hb2))
  · refine bodyPost_ret (v := .agg #[.int .i64 (r 0), .int .i64 (r 1), .int .i64 (r 2), .int .i64 (r 3), .int .i64 (r 4), .int .i64 0, .int .i64 0, .int .i64 0, .int .i64 0, .int .i64 0, .int .i64 0, .int .i64 0, .bool true]) (by simp [results, Try.results17, go_sem, hc, hc2, hz]) rfl ⟨rfl, ?_⟩
    repeat (first | (with_reducible exact Below.refl _ _) | (with_reducible refine below_drewN ?_ _) | ((with_reducible refine Below.setCell ?_ ?_ _); rotate_left; (first | omega | (simp <;> omega))) | ((with_reducible refine Below.trans ?_ (hb2.mono ?_)); rotate_left; (first | omega | (simp <;> omega))) | ((with_reducible refine Below.trans ?_ (hb.mono ?_)); rotate_left; (first | omega | (simp <;> omega))) | ((with_reducible refine Below.alloc ?_ ?_ _); rotate_left; (first | omega | (simp <;> omega))))
  · refine bodyPost_ret (v := .agg #[.int .i64 (r 0), .int .i64 (r 1), .int .i64 (r 2), .int .i64 (r 3), .int .i64 (r 4), .int .i64 0, .int .i64 0, .int .i64 0, .int .i64 0, .int .i64 0, .int .i64 0, .int .i64 0, .bool false]) (by simp [results, Try.results17, go_sem, hc, hc2, hz]) rfl ⟨rfl, ?_⟩
    repeat (first | (with_reducible exact Below.refl _ _) | (with_reducible refine below_drewN ?_ _) | ((with_reducible refine Below.setCell ?_ ?_ _); rotate_left; (first | omega | (simp <;> omega))) | ((with_reducible refine Below.trans ?_ (hb2.mono ?_)); rotate_left; (first | omega | (simp <;> omega))) | ((with_reducible refine Below.trans ?_ (hb.mono ?_)); rotate_left; (first | omega | (simp <;> omega))) | ((with_reducible refine Below.alloc ?_ ?_ _); rotate_left; (first | omega | (simp <;> omega))))

set_option maxRecDepth 100000 in
set_option maxHeartbeats 4000000 in
theorem add_ge' (a b r : Nat → Int) (s : Bool) (w : World) (c1 : ∀ w, Calls Try.prog 31 #[.agg #[.int .i64 (a 0), .int .i64 (a 1), .int .i64 (a 2), .int .i64 (a 3), .int .i64 (a 4), .int .i64 0, .int .i64 0, .int .i64 0, .int .i64 0, .int .i64 0, .int .i64 0, .int .i64 0, .bool s], .agg #[.int .i64 (b 0), .int .i64 (b 1), .int .i64 (b 2), .int .i64 (b 3), .int .i64 (b 4), .int .i64 0, .int .i64 0, .int .i64 0, .int .i64 0, .int .i64 0, .int .i64 0, .int .i64 0, .bool (!s)]] w fun e w' => e = .returned (.bool false) ∧ Below w.heap.size w w')
    (c2 : ∀ w, Calls Try.prog 32 #[.agg #[.int .i64 (a 0), .int .i64 (a 1), .int .i64 (a 2), .int .i64 (a 3), .int .i64 (a 4), .int .i64 0, .int .i64 0, .int .i64 0, .int .i64 0, .int .i64 0, .int .i64 0, .int .i64 0, .bool s], .agg #[.int .i64 (b 0), .int .i64 (b 1), .int .i64 (b 2), .int .i64 (b 3), .int .i64 (b 4), .int .i64 0, .int .i64 0, .int .i64 0, .int .i64 0, .int .i64 0, .int .i64 0, .int .i64 0, .bool (!s)]] w fun e w' => e = .returned (.agg #[.int .i64 (r 0), .int .i64 (r 1), .int .i64 (r 2), .int .i64 (r 3), .int .i64 (r 4), .int .i64 0, .int .i64 0, .int .i64 0, .int .i64 0, .int .i64 0, .int .i64 0, .int .i64 0, .bool s]) ∧ Below w.heap.size w w') :
    Calls Try.prog 17 #[.agg #[.int .i64 (a 0), .int .i64 (a 1), .int .i64 (a 2), .int .i64 (a 3), .int .i64 (a 4), .int .i64 0, .int .i64 0, .int .i64 0, .int .i64 0, .int .i64 0, .int .i64 0, .int .i64 0, .bool s], .agg #[.int .i64 (b 0), .int .i64 (b 1), .int .i64 (b 2), .int .i64 (b 3), .int .i64 (b 4), .int .i64 0, .int .i64 0, .int .i64 0, .int .i64 0, .int .i64 0, .int .i64 0, .int .i64 0, .bool (!s)]] w fun e w' => e = .returned (.agg #[.int .i64 (r 0), .int .i64 (r 1), .int .i64 (r 2), .int .i64 (r 3), .int .i64 (r 4), .int .i64 0, .int .i64 0, .int .i64 0, .int .i64 0, .int .i64 0, .int .i64 0, .int .i64 0, .bool s]) ∧ Below w.heap.size w w' := by
  cases s
  all_goals
    simp only [Bool.not_true, Bool.not_false] at c1 c2 ⊢
    go_enter Try.func17, Try.ntmps17
    go_wp2_with (first | (go_at_call 31; (with_reducible refine (c1 _).mono ?_); rintro e w1 ⟨rfl, hb⟩; obtain ⟨hc, hf⟩ := bcell hb; have hz : w.heap.size + 1 + 1 < w1.heap.size := by (have := hb.size; simp at this; omega)) | (go_at_call 32; (with_reducible refine (c2 _).mono ?_); rintro e w2 ⟨rfl, hb2⟩; obtain ⟨hc2, hf2⟩ := bcell hb2))
  · refine bodyPost_ret (v := .agg #[.int .i64 (r 0), .int .i64 (r 1), .int .i64 (r 2), .int .i64 (r 3), .int .i64 (r 4), .int .i64 0, .int .i64 0, .int .i64 0, .int .i64 0, .int .i64 0, .int .i64 0, .int .i64 0, .bool false]) (by simp [results, Try.results17, go_sem, hc, hc2, hz]) rfl ⟨rfl, ?_⟩
    repeat (first | (with_reducible exact Below.refl _ _) | (with_reducible refine below_drewN ?_ _) | ((with_reducible refine Below.setCell ?_ ?_ _); rotate_left; (first | omega | (simp <;> omega))) | ((with_reducible refine Below.trans ?_ (hb2.mono ?_)); rotate_left; (first | omega | (simp <;> omega))) | ((with_reducible refine Below.trans ?_ (hb.mono ?_)); rotate_left; (first | omega | (simp <;> omega))) | ((with_reducible refine Below.alloc ?_ ?_ _); rotate_left; (first | omega | (simp <;> omega))))
  · refine bodyPost_ret (v := .agg #[.int .i64 (r 0), .int .i64 (r 1), .int .i64 (r 2), .int .i64 (r 3), .int .i64 (r 4), .int .i64 0, .int .i64 0, .int .i64 0, .int .i64 0, .int .i64 0, .int .i64 0, .int .i64 0, .bool true]) (by simp [results, Try.results17, go_sem, hc, hc2, hz]) rfl ⟨rfl, ?_⟩
    repeat (first | (with_reducible exact Below.refl _ _) | (with_reducible refine below_drewN ?_ _) | ((with_reducible refine Below.setCell ?_ ?_ _); rotate_left; (first | omega | (simp <;> omega))) | ((with_reducible refine Below.trans ?_ (hb2.mono ?_)); rotate_left; (first | omega | (simp <;> omega))) | ((with_reducible refine Below.trans ?_ (hb.mono ?_)); rotate_left; (first | omega | (simp <;> omega))) | ((with_reducible refine Below.alloc ?_ ?_ _); rotate_left; (first | omega | (simp <;> omega))))

/-- The sum of two whole numbers, each of a size below 2^79. -/
theorem add_val (a b : Nat → Int) (s t : Bool) (u v : Int) (hu : Num5 a s u) (hv : Num5 b t v) (hs : val5 a + val5 b < 1208925819614629174706176) :
    ∃ (r : Nat → Int) (q : Bool), Num5 r q (u + v) ∧ val5 r ≤ val5 a + val5 b ∧ ∀ w, Calls Try.prog 17 #[.agg #[.int .i64 (a 0), .int .i64 (a 1), .int .i64 (a 2), .int .i64 (a 3), .int .i64 (a 4), .int .i64 0, .int .i64 0, .int .i64 0, .int .i64 0, .int .i64 0, .int .i64 0, .int .i64 0, .bool s], .agg #[.int .i64 (b 0), .int .i64 (b 1), .int .i64 (b 2), .int .i64 (b 3), .int .i64 (b 4), .int .i64 0, .int .i64 0, .int .i64 0, .int .i64 0, .int .i64 0, .int .i64 0, .int .i64 0, .bool t]] w fun e w' => e = .returned (.agg #[.int .i64 (r 0), .int .i64 (r 1), .int .i64 (r 2), .int .i64 (r 3), .int .i64 (r 4), .int .i64 0, .int .i64 0, .int .i64 0, .int .i64 0, .int .i64 0, .int .i64 0, .int .i64 0, .bool q]) ∧ Below w.heap.size w w' := by
  obtain ⟨ha, rfl⟩ := hu
  obtain ⟨hb, rfl⟩ := hv
  have na := val5_bd a ha
  have nb := val5_bd b hb
  by_cases hst : t = s
  · subst hst
    refine ⟨psum a b, t, ⟨fun i _ => (psum_step a b i).2, ?_⟩, Int.le_of_eq (plus_val a b ha hb hs).2, fun w => add_same a b (psum a b) t w (fun w => plus_val' a b t t ha hb hs w)⟩
    rw [(plus_val a b ha hb hs).2]
    split <;> omega
  · obtain rfl : t = !s := by cases s <;> cases t <;> simp_all
    clear hst
    have hl := fun w => less_val' a b s (!s) ha hb w
    by_cases h : val5 a < val5 b
    · rw [decide_eq_true h] at hl
      refine ⟨mdif b a, !s, ⟨fun i hi => mdif_bd b a i (hb i hi) (ha i hi), ?_⟩, ?_, fun w => add_lt' a b (mdif b a) s w hl (fun w => minus_val' b a (!s) s hb ha (by omega) w)⟩
      · rw [(minus_val b a hb ha (by omega)).2]
        cases s <;> simp <;> omega
      · rw [(minus_val b a hb ha (by omega)).2]; omega
    · rw [decide_eq_false h] at hl
      refine ⟨mdif a b, s, ⟨fun i hi => mdif_bd a b i (ha i hi) (hb i hi), ?_⟩, ?_, fun w => add_ge' a b (mdif a b) s w hl (fun w => minus_val' a b s (!s) ha hb (by omega) w)⟩
      · rw [(minus_val a b ha hb (by omega)).2]
        cases s <;> simp <;> omega
      · rw [(minus_val a b ha hb (by omega)).2]; omega
end Go.Proofs.Ytobjmngfikmdhaa
