/-
  The statement NumSigns answers true at all pairs of numbers of 64 bits.
-/
import Derived.Test.YtdpkkkkmohnhgaaNumCalls
import Derived.Test.YtdpkkkkmohnhgaaNumMath2
import Derived.Outline
import Derived.Deep.Light
namespace Go.Proofs.Ytdpkkkkmohnhgaa
open Go.ChangeShapes Go.WideShapes Go.ChangeAt Go.RowKit

theorem add_both (a b : Int) (ha : fit a) (hb : fit b) :
    ∃ (s : Int) (ok : Bool), (∀ w, Calls Try.prog 14 #[.int .i64 a, .int .i64 b] w fun e w' => e = .returned (.tuple #[.int .i64 s, .bool ok]) ∧ w = w') ∧ (ok = true ∧ s = a + b ∧ fit (a + b) ∨ ok = false ∧ s = 0 ∧ ¬ fit (a + b)) := by
  by_cases h : fit (a + b)
  · exact ⟨_, _, fun w => add_yes a b w ha hb h, .inl ⟨rfl, rfl, h⟩⟩
  · exact ⟨_, _, fun w => add_no a b w ha hb h, .inr ⟨rfl, rfl, h⟩⟩
theorem mul_both (a b : Int) (ha : fit a) (hb : fit b) :
    ∃ (s : Int) (ok : Bool), (∀ w, Calls Try.prog 20 #[.int .i64 a, .int .i64 b] w fun e w' => e = .returned (.tuple #[.int .i64 s, .bool ok]) ∧ w = w') ∧ (ok = true ∧ s = a * b ∧ fit (a * b) ∨ ok = false ∧ s = 0 ∧ ¬ fit (a * b)) := by
  by_cases h : fit (a * b)
  · exact ⟨_, _, fun w => mul_yes a b w ha hb h, .inl ⟨rfl, rfl, h⟩⟩
  · exact ⟨_, _, fun w => mul_no a b w ha hb h, .inr ⟨rfl, rfl, h⟩⟩
theorem sub_both (a b : Int) (ha : fit a) (hb : fit b) :
    ∃ (s : Int) (ok : Bool), (∀ w, Calls Try.prog 15 #[.int .i64 a, .int .i64 b] w fun e w' => e = .returned (.tuple #[.int .i64 s, .bool ok]) ∧ w = w') ∧ (ok = true ∧ s = a - b ∧ fit (a - b) ∨ ok = false ∧ s = 0 ∧ ¬ fit (a - b)) := by
  by_cases h : fit (a - b)
  · exact ⟨_, _, fun w => sub_yes a b w ha hb h, .inl ⟨rfl, rfl, h⟩⟩
  · exact ⟨_, _, fun w => sub_no a b w ha hb h, .inr ⟨rfl, rfl, h⟩⟩

set_option maxHeartbeats 1000000 in
theorem signs_walk (a b : Int) (w : World) (ha : fit a) (hb : fit b) :
    Calls Try.prog 9 #[.int .i64 a, .int .i64 b] w fun e w' => e = .returned (.bool true) ∧ w = w' := by
  obtain ⟨p, pk, c1, f1⟩ := mul_both a b ha hb
  obtain ⟨s, sk, c2, f2⟩ := add_both a b ha hb
  have h0 : fit 0 := by unfold fit; omega
  obtain ⟨n, nk, c3, f3⟩ := sub_both 0 a h0 ha
  have hn : fit n := by rcases f3 with ⟨-, rfl, h⟩ | ⟨-, rfl, -⟩ <;> assumption
  obtain ⟨z, zk, c4, f4⟩ := add_both a n ha hn
  have c5 := awake_any
  have hs := prod_strict a b _ rfl
  generalize a * b = P at *
  obtain ⟨x, hx⟩ : ∃ x, (a != 0) = x := ⟨_, rfl⟩
  obtain ⟨y, hy⟩ : ∃ y, (b != 0) = y := ⟨_, rfl⟩
  have H := hide (And.intro f1 (And.intro f2 (And.intro f3 (And.intro f4 (And.intro hs (And.intro ha (And.intro hb (And.intro hx hy))))))))
  clear f1 f2 f3 f4 hs ha hb hn h0
  go_enter Try.func9, Try.ntmps9
  go_wp2_with (first | (go_at_call 20; (with_reducible refine (c1 _).mono ?_); rintro e w' ⟨rfl, rfl⟩) | (go_at_call 14; (with_reducible refine (c2 _).mono ?_); rintro e w' ⟨rfl, rfl⟩) | (go_at_call 15; (with_reducible refine (c3 _).mono ?_); rintro e w' ⟨rfl, rfl⟩) | (go_at_call 14; (with_reducible refine (c4 _).mono ?_); rintro e w' ⟨rfl, rfl⟩) | (go_at_call 19; (with_reducible refine (c5 _).mono ?_); rintro e w' ⟨rfl, rfl⟩))
  all_goals go_ret
  all_goals first
    | exact ⟨rfl, rfl⟩
    | (exfalso
       go_light
       obtain ⟨f1, f2, f3, f4, hs, ha, hb, hx', hy'⟩ := H.out
       clear H c1 c2 c3 c4 c5 hx hy
       unfold fit at *
       first
       | (simp_all <;> omega)
       | (have hp : p = P := by simp_all
          have hxa : a ≠ 0 := by simp_all
          have hyb : b ≠ 0 := by simp_all
          have e := sign_check a b P hxa hyb hs
          rw [← hp] at e
          exact Bool.noConfusion (Eq.trans (Eq.symm e) (by assumption : (decide (p < 0) != (decide (a < 0) != decide (b < 0))) = true))))
end Go.Proofs.Ytdpkkkkmohnhgaa
