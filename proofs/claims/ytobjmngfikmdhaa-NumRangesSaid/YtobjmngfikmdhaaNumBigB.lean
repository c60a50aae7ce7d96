/-
  The reference's whole numbers: the lesser size off the greater.
-/
import Derived.Test.YtobjmngfikmdhaaRows
import Derived.Test.YtobjmngfikmdhaaNumMath2
import Derived.WalkKit
import Derived.ProofKit
import Derived.Outline
import Derived.Deep.DeepCutAuto
import Derived.Deep.QuietTactic
import Derived.BigQuiet
import Derived.LoopN
import Derived.WalkSmall
namespace Go.Proofs.Ytobjmngfikmdhaa
open Go.ChangeShapes Go.WideShapes Go.ChangeAt Go.RowKit

theorem setCell_drewN_b (w : World) (n : Nat) (a : Addr) (v : Value) : (w.drewN n).setCell a v = (w.setCell a v).drewN n := rfl
set_option maxRecDepth 100000 in
set_option maxHeartbeats 8000000 in
/-- The lesser size off the greater: c is what was borrowed, r the digits. -/
theorem minus_any (a b r c : Nat → Int) (s t : Bool) (w : World) (ha : ∀ i, i < 5 → 0 ≤ a i ∧ a i < 65536) (hb : ∀ i, i < 5 → 0 ≤ b i ∧ b i < 65536) (hc0 : c 0 = 0) (hc5 : c 5 = 0)
    (hr : ∀ i, i < 5 → (a i - b i - c i < 0 ∧ r i = a i - b i - c i + 65536 ∧ c (i + 1) = 1) ∨ (0 ≤ a i - b i - c i ∧ r i = a i - b i - c i ∧ c (i + 1) = 0)) (hc : ∀ i, i < 5 → 0 ≤ c i ∧ c i ≤ 1) :
    Calls Try.prog 32 #[.agg #[.int .i64 (a 0), .int .i64 (a 1), .int .i64 (a 2), .int .i64 (a 3), .int .i64 (a 4), .int .i64 0, .int .i64 0, .int .i64 0, .int .i64 0, .int .i64 0, .int .i64 0, .int .i64 0, .bool s], .agg #[.int .i64 (b 0), .int .i64 (b 1), .int .i64 (b 2), .int .i64 (b 3), .int .i64 (b 4), .int .i64 0, .int .i64 0, .int .i64 0, .int .i64 0, .int .i64 0, .int .i64 0, .int .i64 0, .bool t]] w fun e w' =>
      e = .returned (.agg #[.int .i64 (r 0), .int .i64 (r 1), .int .i64 (r 2), .int .i64 (r 3), .int .i64 (r 4), .int .i64 0, .int .i64 0, .int .i64 0, .int .i64 0, .int .i64 0, .int .i64 0, .int .i64 0, .bool s]) ∧ Below w.heap.size w w' := by
  have H := hide (And.intro ha (And.intro hb (And.intro hc hr)))
  have H0 := hide (And.intro hc0 hc5)
  clear ha hb hc hr hc0 hc5
  have hsd := setCell_drewN_b
  go_enter Try.func32, Try.ntmps32
  go_wp2
  refine wp_loop_rounds 13 ?_
  rw [rounds_succ]
  obtain ⟨k1, k2⟩ := H.out.1 0 (by omega)
  obtain ⟨k3, k4⟩ := H.out.2.1 0 (by omega)
  obtain ⟨k5, k6⟩ := H.out.2.2.1 0 (by omega)
  have k7 := hide (H.out.2.2.2 0 (by omega))
  rw [H0.out.1] at k7
  simp only [Int.sub_zero] at k7
  go_wp2
  go_quiet (fail)
  go_upto_if 28 with (fail)
  go_cut [6, 8] (fun s6 s8 wx => s6 = .int .i64 (c 1) ∧ s8 = .int .i64 (r 0) ∧ ∃ n, wx = World.drewN (World.alloc (World.alloc (World.alloc (World.alloc w (.cells #[.int .i64 (a 0), .int .i64 (a 1), .int .i64 (a 2), .int .i64 (a 3), .int .i64 (a 4), .int .i64 0, .int .i64 0, .int .i64 0, .int .i64 0, .int .i64 0, .int .i64 0, .int .i64 0, .bool s] 24)) (.cells #[.int .i64 (b 0), .int .i64 (b 1), .int .i64 (b 2), .int .i64 (b 3), .int .i64 (b 4), .int .i64 0, .int .i64 0, .int .i64 0, .int .i64 0, .int .i64 0, .int .i64 0, .int .i64 0, .bool t] 24)) (.cells #[.int .i64 0, .int .i64 0, .int .i64 0, .int .i64 0, .int .i64 0, .int .i64 0, .int .i64 0, .int .i64 0, .int .i64 0, .int .i64 0, .int .i64 0, .int .i64 0, .bool false] 24)) (.cells #[.int .i64 0, .int .i64 0, .int .i64 0, .int .i64 0, .int .i64 0, .int .i64 0, .int .i64 0, .int .i64 0, .int .i64 0, .int .i64 0, .int .i64 0, .int .i64 0, .bool s] 24)) n)
  case first =>
    rcases k7.out with ⟨h1, h2, h3⟩ | ⟨h1, h2, h3⟩
    all_goals
      simp only [Nat.reduceAdd] at h3
      have h4 := hide (And.intro h2 h3)
      clear h2 h3
      go_wp2
      go_meet
      exact ⟨by rw [h4.out.2], by rw [h4.out.1], _, rfl⟩
  case rest =>
  obtain ⟨rfl, rfl, nd, rfl⟩ := hcut
  clear k1 k2 k3 k4 k5 k6 k7
  go_wp2
  rw [rounds_succ]
  obtain ⟨k1, k2⟩ := H.out.1 1 (by omega)
  obtain ⟨k3, k4⟩ := H.out.2.1 1 (by omega)
  obtain ⟨k5, k6⟩ := H.out.2.2.1 1 (by omega)
  have k7 := hide (H.out.2.2.2 1 (by omega))
  go_wp2
  go_quiet (fail)
  go_upto_if 28 with (fail)
  go_cut [6, 8] (fun s6 s8 wx => s6 = .int .i64 (c 2) ∧ s8 = .int .i64 (r 1) ∧ ∃ n, wx = World.drewN (World.alloc (World.alloc (World.alloc (World.alloc w (.cells #[.int .i64 (a 0), .int .i64 (a 1), .int .i64 (a 2), .int .i64 (a 3), .int .i64 (a 4), .int .i64 0, .int .i64 0, .int .i64 0, .int .i64 0, .int .i64 0, .int .i64 0, .int .i64 0, .bool s] 24)) (.cells #[.int .i64 (b 0), .int .i64 (b 1), .int .i64 (b 2), .int .i64 (b 3), .int .i64 (b 4), .int .i64 0, .int .i64 0, .int .i64 0, .int .i64 0, .int .i64 0, .int .i64 0, .int .i64 0, .bool t] 24)) (.cells #[.int .i64 0, .int .i64 0, .int .i64 0, .int .i64 0, .int .i64 0, .int .i64 0, .int .i64 0, .int .i64 0, .int .i64 0, .int .i64 0, .int .i64 0, .int .i64 0, .bool false] 24)) (.cells #[.int .i64 (r 0), .int .i64 0, .int .i64 0, .int .i64 0, .int .i64 0, .int .i64 0, .int .i64 0, .int .i64 0, .int .i64 0, .int .i64 0, .int .i64 0, .int .i64 0, .bool s] 24)) n)
  case first =>
    rcases k7.out with ⟨h1, h2, h3⟩ | ⟨h1, h2, h3⟩
    all_goals
      simp only [Nat.reduceAdd] at h3
      have h4 := hide (And.intro h2 h3)
      clear h2 h3
      go_wp2
      go_meet
      exact ⟨by rw [h4.out.2], by rw [h4.out.1], _, rfl⟩
  case rest =>
  obtain ⟨rfl, rfl, nd, rfl⟩ := hcut
  clear k1 k2 k3 k4 k5 k6 k7
  go_wp2
  rw [rounds_succ]
  obtain ⟨k1, k2⟩ := H.out.1 2 (by omega)
  obtain ⟨k3, k4⟩ := H.out.2.1 2 (by omega)
  obtain ⟨k5, k6⟩ := H.out.2.2.1 2 (by omega)
  have k7 := hide (H.out.2.2.2 2 (by omega))
  go_wp2
  go_quiet (fail)
  go_upto_if 28 with (fail)
  go_cut [6, 8] (fun s6 s8 wx => s6 = .int .i64 (c 3) ∧ s8 = .int .i64 (r 2) ∧ ∃ n, wx = World.drewN (World.alloc (World.alloc (World.alloc (World.alloc w (.cells #[.int .i64 (a 0), .int .i64 (a 1), .int .i64 (a 2), .int .i64 (a 3), .int .i64 (a 4), .int .i64 0, .int .i64 0, .int .i64 0, .int .i64 0, .int .i64 0, .int .i64 0, .int .i64 0, .bool s] 24)) (.cells #[.int .i64 (b 0), .int .i64 (b 1), .int .i64 (b 2), .int .i64 (b 3), .int .i64 (b 4), .int .i64 0, .int .i64 0, .int .i64 0, .int .i64 0, .int .i64 0, .int .i64 0, .int .i64 0, .bool t] 24)) (.cells #[.int .i64 0, .int .i64 0, .int .i64 0, .int .i64 0, .int .i64 0, .int .i64 0, .int .i64 0, .int .i64 0, .int .i64 0, .int .i64 0, .int .i64 0, .int .i64 0, .bool false] 24)) (.cells #[.int .i64 (r 0), .int .i64 (r 1), .int .i64 0, .int .i64 0, .int .i64 0, .int .i64 0, .int .i64 0, .int .i64 0, .int .i64 0, .int .i64 0, .int .i64 0, .int .i64 0, .bool s] 24)) n)
  case first =>
    rcases k7.out with ⟨h1, h2, h3⟩ | ⟨h1, h2, h3⟩
    all_goals
      simp only [Nat.reduceAdd] at h3
      have h4 := hide (And.intro h2 h3)
      clear h2 h3
      go_wp2
      go_meet
      exact ⟨by rw [h4.out.2], by rw [h4.out.1], _, rfl⟩
  case rest =>
  obtain ⟨rfl, rfl, nd, rfl⟩ := hcut
  clear k1 k2 k3 k4 k5 k6 k7
  go_wp2
  rw [rounds_succ]
  obtain ⟨k1, k2⟩ := H.out.1 3 (by omega)
  obtain ⟨k3, k4⟩ := H.out.2.1 3 (by omega)
  obtain ⟨k5, k6⟩ := H.out.2.2.1 3 (by omega)
  have k7 := hide (H.out.2.2.2 3 (by omega))
  go_wp2
  go_quiet (fail)
  go_upto_if 28 with (fail)
  go_cut [6, 8] (fun s6 s8 wx => s6 = .int .i64 (c 4) ∧ s8 = .int .i64 (r 3) ∧ ∃ n, wx = World.drewN (World.alloc (World.alloc (World.alloc (World.alloc w (.cells #[.int .i64 (a 0), .int .i64 (a 1), .int .i64 (a 2), .int .i64 (a 3), .int .i64 (a 4), .int .i64 0, .int .i64 0, .int .i64 0, .int .i64 0, .int .i64 0, .int .i64 0, .int .i64 0, .bool s] 24)) (.cells #[.int .i64 (b 0), .int .i64 (b 1), .int .i64 (b 2), .int .i64 (b 3), .int .i64 (b 4), .int .i64 0, .int .i64 0, .int .i64 0, .int .i64 0, .int .i64 0, .int .i64 0, .int .i64 0, .bool t] 24)) (.cells #[.int .i64 0, .int .i64 0, .int .i64 0, .int .i64 0, .int .i64 0, .int .i64 0, .int .i64 0, .int .i64 0, .int .i64 0, .int .i64 0, .int .i64 0, .int .i64 0, .bool false] 24)) (.cells #[.int .i64 (r 0), .int .i64 (r 1), .int .i64 (r 2), .int .i64 0, .int .i64 0, .int .i64 0, .int .i64 0, .int .i64 0, .int .i64 0, .int .i64 0, .int .i64 0, .int .i64 0, .bool s] 24)) n)
  case first =>
    rcases k7.out with ⟨h1, h2, h3⟩ | ⟨h1, h2, h3⟩
    all_goals
      simp only [Nat.reduceAdd] at h3
      have h4 := hide (And.intro h2 h3)
      clear h2 h3
      go_wp2
      go_meet
      exact ⟨by rw [h4.out.2], by rw [h4.out.1], _, rfl⟩
  case rest =>
  obtain ⟨rfl, rfl, nd, rfl⟩ := hcut
  clear k1 k2 k3 k4 k5 k6 k7
  go_wp2
  rw [rounds_succ]
  obtain ⟨k1, k2⟩ := H.out.1 4 (by omega)
  obtain ⟨k3, k4⟩ := H.out.2.1 4 (by omega)
  obtain ⟨k5, k6⟩ := H.out.2.2.1 4 (by omega)
  have k7 := hide (H.out.2.2.2 4 (by omega))
  go_wp2
  go_quiet (fail)
  go_upto_if 28 with (fail)
  go_cut [6, 8] (fun s6 s8 wx => s6 = .int .i64 (c 5) ∧ s8 = .int .i64 (r 4) ∧ ∃ n, wx = World.drewN (World.alloc (World.alloc (World.alloc (World.alloc w (.cells #[.int .i64 (a 0), .int .i64 (a 1), .int .i64 (a 2), .int .i64 (a 3), .int .i64 (a 4), .int .i64 0, .int .i64 0, .int .i64 0, .int .i64 0, .int .i64 0, .int .i64 0, .int .i64 0, .bool s] 24)) (.cells #[.int .i64 (b 0), .int .i64 (b 1), .int .i64 (b 2), .int .i64 (b 3), .int .i64 (b 4), .int .i64 0, .int .i64 0, .int .i64 0, .int .i64 0, .int .i64 0, .int .i64 0, .int .i64 0, .bool t] 24)) (.cells #[.int .i64 0, .int .i64 0, .int .i64 0, .int .i64 0, .int .i64 0, .int .i64 0, .int .i64 0, .int .i64 0, .int .i64 0, .int .i64 0, .int .i64 0, .int .i64 0, .bool false] 24)) (.cells #[.int .i64 (r 0), .int .i64 (r 1), .int .i64 (r 2), .int .i64 (r 3), .int .i64 0, .int .i64 0, .int .i64 0, .int .i64 0, .int .i64 0, .int .i64 0, .int .i64 0, .int .i64 0, .bool s] 24)) n)
  case first =>
    rcases k7.out with ⟨h1, h2, h3⟩ | ⟨h1, h2, h3⟩
    all_goals
      simp only [Nat.reduceAdd] at h3
      have h4 := hide (And.intro h2 h3)
      clear h2 h3
      go_wp2
      go_meet
      exact ⟨by rw [h4.out.2], by rw [h4.out.1], _, rfl⟩
  case rest =>
  obtain ⟨rfl, rfl, nd, rfl⟩ := hcut
  clear k1 k2 k3 k4 k5 k6 k7
  rw [H0.out.2]
  go_wp2
  rw [rounds_succ]
  go_wp2
  go_quiet (fail)
  go_wp2
  rw [rounds_succ]
  go_wp2
  go_quiet (fail)
  go_wp2
  rw [rounds_succ]
  go_wp2
  go_quiet (fail)
  go_wp2
  rw [rounds_succ]
  go_wp2
  go_quiet (fail)
  go_wp2
  rw [rounds_succ]
  go_wp2
  go_quiet (fail)
  go_wp2
  rw [rounds_succ]
  go_wp2
  go_quiet (fail)
  go_wp2
  rw [rounds_succ]
  go_wp2
  go_quiet (fail)
  go_wp2
  rw [rounds_succ]
  go_wp2
  refine bodyPost_ret (v := .agg #[.int .i64 (r 0), .int .i64 (r 1), .int .i64 (r 2), .int .i64 (r 3), .int .i64 (r 4), .int .i64 0, .int .i64 0, .int .i64 0, .int .i64 0, .int .i64 0, .int .i64 0, .int .i64 0, .bool s]) (by simp [results, Try.results32, go_sem]) rfl ⟨rfl, ?_⟩
  repeat (first | exact Below.refl _ _ | refine below_drewN ?_ _ | refine Below.alloc ?_ (by simp <;> omega) _)
end Go.Proofs.Ytobjmngfikmdhaa
