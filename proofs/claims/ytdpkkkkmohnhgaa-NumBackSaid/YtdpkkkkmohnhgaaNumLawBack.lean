/-
  The statement NumBack answers true at all numbers of 64 bits and all fours of such.
-/
import Derived.Test.YtdpkkkkmohnhgaaNumCalls
import Derived.Test.YtdpkkkkmohnhgaaNumMath2
import Derived.Outline
import Derived.Deep.Light
import Derived.Deep.DeepCutAuto
import Derived.Deep.QuietTactic
import Derived.BigQuiet
namespace Go.Proofs.Ytdpkkkkmohnhgaa
open Go.ChangeShapes Go.WideShapes Go.ChangeAt Go.RowKit

theorem add_two (a b : Int) (ha : fit a) (hb : fit b) :
    ∃ (s : Int) (ok : Bool), (∀ w, Calls Try.prog 14 #[.int .i64 a, .int .i64 b] w fun e w' => e = .returned (.tuple #[.int .i64 s, .bool ok]) ∧ w = w') ∧ (ok = true ∧ s = a + b ∧ fit (a + b) ∨ ok = false ∧ s = 0 ∧ ¬ fit (a + b)) := by
  by_cases h : fit (a + b)
  · exact ⟨_, _, fun w => add_yes a b w ha hb h, .inl ⟨rfl, rfl, h⟩⟩
  · exact ⟨_, _, fun w => add_no a b w ha hb h, .inr ⟨rfl, rfl, h⟩⟩
theorem mul_two (a b : Int) (ha : fit a) (hb : fit b) :
    ∃ (s : Int) (ok : Bool), (∀ w, Calls Try.prog 20 #[.int .i64 a, .int .i64 b] w fun e w' => e = .returned (.tuple #[.int .i64 s, .bool ok]) ∧ w = w') ∧ (ok = true ∧ s = a * b ∧ fit (a * b) ∨ ok = false ∧ s = 0 ∧ ¬ fit (a * b)) := by
  by_cases h : fit (a * b)
  · exact ⟨_, _, fun w => mul_yes a b w ha hb h, .inl ⟨rfl, rfl, h⟩⟩
  · exact ⟨_, _, fun w => mul_no a b w ha hb h, .inr ⟨rfl, rfl, h⟩⟩
theorem grown_drewN {w w' : World} (n : Nat) (h : Grown w w') : Grown w (w'.drewN n) := by
  induction n with
  | zero => exact h
  | succ n ih => exact ih.drew
theorem within_both (a n s : Int) (ha : fit a) (hn : fit n) (hs : fit s) :
    ∃ ok : Bool, (∀ w, Calls Try.prog 24 #[.int .i64 a, .int .i64 n, .int .i64 s] w fun e w' => e = .returned (.bool ok) ∧ w = w') ∧ (ok = true ↔ 0 ≤ a ∧ 0 ≤ n ∧ a + n ≤ s) := by
  by_cases h : 0 ≤ a ∧ 0 ≤ n ∧ a + n ≤ s
  · exact ⟨_, fun w => within_yes a n s w h hs.2, by simp [h]⟩
  · exact ⟨_, fun w => within_no a n s w h ha hn hs, by simpa using h⟩
theorem overlap_both (a n b m : Int) (ha : fit a) (hn : fit n) (hb : fit b) (hm : fit m) :
    ∃ ok : Bool, (∀ w, Calls Try.prog 26 #[.int .i64 a, .int .i64 n, .int .i64 b, .int .i64 m] w fun e w' => e = .returned (.bool ok) ∧ w = w') ∧
      (∀ w, Calls Try.prog 26 #[.int .i64 b, .int .i64 m, .int .i64 a, .int .i64 n] w fun e w' => e = .returned (.bool ok) ∧ w = w') ∧ (ok = true ↔ 0 ≤ a ∧ 1 ≤ n ∧ 0 ≤ b ∧ 1 ≤ m ∧ a < b + m ∧ b < a + n) := by
  by_cases h : 0 ≤ a ∧ 1 ≤ n ∧ 0 ≤ b ∧ 1 ≤ m ∧ a < b + m ∧ b < a + n
  · exact ⟨_, fun w => overlap_yes a n b m w h ha hn hb hm, fun w => overlap_yes b m a n w (by omega) hb hm ha hn, by simp [h]⟩
  · exact ⟨_, fun w => overlap_no a n b m w h ha hn hb hm, fun w => overlap_no b m a n w (by omega) hb hm ha hn, by simpa using h⟩

set_option maxRecDepth 100000 in
set_option maxHeartbeats 1000000 in
theorem back_walk (a b p q r s : Int) (w : World) (ha : fit a) (hb : fit b) (hp : fit p) (hq : fit q) (hr : fit r) (hs : fit s) :
    Calls Try.prog 8 #[.int .i64 a, .int .i64 b, .agg #[.int .i64 p, .int .i64 q, .int .i64 r, .int .i64 s]] w fun e w' => e = .returned (.bool true) ∧ Grown w w' := by
  have c5 := awake_any
  obtain ⟨x, xk, c1, g1⟩ := add_two a b ha hb
  have G1 := hide g1
  clear g1
  obtain ⟨y, yk, c2, g2⟩ := mul_two a b ha hb
  have G2 := hide g2
  clear g2
  obtain ⟨zk, c3, g3⟩ := within_both p q r hp hq hr
  obtain ⟨vk, c4, g4⟩ := within_both p q s hp hq hs
  have G3 := hide (And.intro g3 g4)
  clear g3 g4
  obtain ⟨ok, c6, c7, -⟩ := overlap_both p q r s hp hq hr hs
  obtain ⟨W, hW⟩ : ∃ W, w.alloc (.cells #[.int .i64 p, .int .i64 q, .int .i64 r, .int .i64 s] 34) = W := ⟨_, rfl⟩
  have hG : Grown w W := by rw [← hW]; exact (Grown.refl _).alloc _ _
  have f0 : W.cell? ⟨w.heap.size, 0, none⟩ = some (.int .i64 p) := by rw [← hW]; simp [World.cell?_alloc_new]
  have f1 : W.cell? ⟨w.heap.size, 1, none⟩ = some (.int .i64 q) := by rw [← hW]; simp [World.cell?_alloc_new]
  have f2 : W.cell? ⟨w.heap.size, 2, none⟩ = some (.int .i64 r) := by rw [← hW]; simp [World.cell?_alloc_new]
  have f3 : W.cell? ⟨w.heap.size, 3, none⟩ = some (.int .i64 s) := by rw [← hW]; simp [World.cell?_alloc_new]
  go_enter Try.func8, Try.ntmps8
  go_upto_region 1 with (fail)
  clear hW
  generalize w.heap.size = g at *
  have HG := hide hG
  clear hG
  go_upto_if 21 with (go_at_call 14; (with_reducible refine (c1 _).mono ?_); rintro e w' ⟨rfl, rfl⟩)
  go_cut [6] (fun s6 wx => s6 = .bool false ∧ wx = W)
  case first =>
    clear f0 f1 f2 f3 c1 c2 c3 c4 c5 c6 c7
    rcases G1.out with ⟨rfl, rfl, hf⟩ | ⟨rfl, rfl, hf⟩
    · have c2 := fun w => sub_yes (a + b) b w hf hb (by rw [Int.add_sub_cancel]; exact ha)
      rw [Int.add_sub_cancel] at c2
      have c3 := fun w => add_yes b a w hb ha (by rw [Int.add_comm]; exact hf)
      rw [Int.add_comm b a] at c3
      clear hf ha hb
      go_wp2_with (first | (go_at_call 15; (with_reducible refine (c2 _).mono ?_); rintro e w' ⟨rfl, rfl⟩) | (go_at_call 14; (with_reducible refine (c3 _).mono ?_); rintro e w' ⟨rfl, rfl⟩))
      go_meet
      exact ⟨rfl, rfl⟩
    · clear hf ha hb
      go_wp2
      go_meet
      exact ⟨rfl, rfl⟩
  case rest =>
    obtain ⟨rfl, rfl⟩ := hcut
    go_upto_region 8 with (go_at_call 20; (with_reducible refine (c2 _).mono ?_); rintro e w' ⟨rfl, rfl⟩)
    go_cut [67] (fun t wx => t = .bool false ∧ wx = wc)
    case first =>
      clear f0 f1 f2 f3 c1 c2 c3 c4 c5 c6 c7
      rcases G2.out with ⟨rfl, rfl, hf⟩ | ⟨rfl, rfl, hf⟩
      · by_cases hz : b = 0
        · have h1 : (b != 0) = false := by simp [hz]
          clear hz hf
          go_wp2
          go_meet
          exact ⟨rfl, rfl⟩
        · have h1 : (b != 0) = true := by simp [hz]
          have h2 : (b == 0) = false := by simp [hz]
          have h3 : (a * b).tdiv b = a := Int.mul_tdiv_cancel a hz
          unfold fit at ha
          generalize a * b = P at *
          go_wp2
          go_meet
          exact ⟨rfl, rfl⟩
      · clear hf
        go_wp2
        go_meet
        exact ⟨rfl, rfl⟩
    case rest =>
      obtain ⟨rfl, rfl⟩ := hcut
      go_upto_region 10 with (fail)
      go_cut [91] (fun t wx => t = .bool false ∧ wx = wc)
      case first =>
        have hh := G3.out
        clear c1 c2 c5 c6 c7
        have hz : zk = false ∨ zk = true ∧ s < r ∨ zk = true ∧ r ≤ s ∧ vk = true := by
          cases zk
          · exact .inl rfl
          · by_cases hd : r ≤ s
            · exact .inr (.inr ⟨rfl, hd, hh.2.2 (by have := hh.1.1 rfl; omega)⟩)
            · exact .inr (.inl ⟨rfl, by omega⟩)
        clear hh
        rcases hz with rfl | ⟨rfl, hd⟩ | ⟨rfl, hd, rfl⟩
        all_goals
          go_wp2_with (first | (go_at_call 24; (with_reducible refine (c3 _).mono ?_); rintro e w' ⟨rfl, rfl⟩) | (go_at_call 24; (with_reducible refine (c4 _).mono ?_); rintro e w' ⟨rfl, rfl⟩))
          go_meet
          exact ⟨rfl, rfl⟩
      case rest =>
        obtain ⟨rfl, rfl⟩ := hcut
        go_upto_region 12 with (fail)
        clear c1 c2 c3 c4
        have d6 := fun w => (c6 w).mono (R' := fun e w' => e = .returned (.bool ok) ∧ w' = w) fun _ _ h => ⟨h.1, h.2.symm⟩
        have d7 := fun w => (c7 w).mono (R' := fun e w' => e = .returned (.bool ok) ∧ w' = w) fun _ _ h => ⟨h.1, h.2.symm⟩
        have d5 := fun w => (c5 w).mono (R' := fun e w' => e = .returned (.bool true) ∧ w' = w) fun _ _ h => ⟨h.1, h.2.symm⟩
        clear c5 c6 c7
        go_quiet ((first | (go_at_call 26; (with_reducible exact Calls.quiet_of_same (d6 _))) | (go_at_call 26; (with_reducible exact Calls.quiet_of_same (d7 _))) | (go_at_call 19; (with_reducible exact Calls.quiet_of_same (d5 _)))))
        go_wp2
        go_ret
        exact ⟨rfl, grown_drewN nq HG.out⟩
end Go.Proofs.Ytdpkkkkmohnhgaa
