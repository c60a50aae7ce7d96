/-
  The reference's whole numbers: with the other sign; of a number.
-/
import Derived.Test.YtobjmngfikmdhaaRows
import Derived.Test.YtobjmngfikmdhaaNumMath2
import Derived.WalkKit
import Derived.ProofKit
import Derived.Outline
import Derived.Deep.DeepCutAuto
import Derived.Deep.QuietTactic
import Derived.BigQuiet
import Derived.LoopN
import Derived.WalkSmall
namespace Go.Proofs.Ytobjmngfikmdhaa
open Go.ChangeShapes Go.WideShapes Go.ChangeAt Go.RowKit

set_option maxHeartbeats 1000000 in
theorem turn_any (a : Nat → Int) (s : Bool) (w : World) :
    Calls Try.prog 18 #[.agg #[.int .i64 (a 0), .int .i64 (a 1), .int .i64 (a 2), .int .i64 (a 3), .int .i64 (a 4), .int .i64 (a 5), .int .i64 (a 6), .int .i64 (a 7), .int .i64 (a 8), .int .i64 (a 9), .int .i64 (a 10), .int .i64 (a 11), .bool s]] w fun e w' => e = .returned (.agg #[.int .i64 (a 0), .int .i64 (a 1), .int .i64 (a 2), .int .i64 (a 3), .int .i64 (a 4), .int .i64 (a 5), .int .i64 (a 6), .int .i64 (a 7), .int .i64 (a 8), .int .i64 (a 9), .int .i64 (a 10), .int .i64 (a 11), .bool (!s)]) ∧ Below w.heap.size w w' := by
  go_enter Try.func18, Try.ntmps18
  go_wp2
  refine bodyPost_ret (v := .agg #[.int .i64 (a 0), .int .i64 (a 1), .int .i64 (a 2), .int .i64 (a 3), .int .i64 (a 4), .int .i64 (a 5), .int .i64 (a 6), .int .i64 (a 7), .int .i64 (a 8), .int .i64 (a 9), .int .i64 (a 10), .int .i64 (a 11), .bool (!s)]) (by simp [results, Try.results18, go_sem]) rfl ⟨rfl, ?_⟩
  repeat (first | exact Below.refl _ _ | refine below_drewN ?_ _ | refine Below.alloc ?_ (by simp <;> omega) _)
set_option maxRecDepth 100000 in
set_option maxHeartbeats 4000000 in
/-- The digits of a number: q are the quotients, r the digits. -/
theorem of_any (n : Int) (q r : Nat → Int) (w : World) (hq0 : q 0 = n) (hq : ∀ i, i < 5 → (q i).tdiv 65536 = q (i + 1)) (hr : ∀ i, i < 5 → (0 ≤ (q i).tmod 65536 ∧ (q i).tmod 65536 = r i) ∨ ((q i).tmod 65536 < 0 ∧ (q i).tmod 65536 = -(r i) ∧ r i ≤ 65536)) (hb : ∀ i, i ≤ 5 → -9223372036854775808 ≤ q i ∧ q i ≤ 9223372036854775807) :
    Calls Try.prog 13 #[.int .i64 n] w fun e w' => e = .returned (.agg #[.int .i64 (r 0), .int .i64 (r 1), .int .i64 (r 2), .int .i64 (r 3), .int .i64 (r 4), .int .i64 0, .int .i64 0, .int .i64 0, .int .i64 0, .int .i64 0, .int .i64 0, .int .i64 0, .bool (decide (n < 0))]) ∧ Below w.heap.size w w' := by
  have H := hide (And.intro hq (And.intro hr hb))
  obtain ⟨s, hs⟩ : ∃ s, decide (n < 0) = s := ⟨_, rfl⟩
  rw [← hq0] at hs ⊢
  clear hq0 hq hr hb
  rw [hs]
  go_enter Try.func13, Try.ntmps13
  go_wp2
  clear hs
  refine wp_loop_rounds 6 ?_
  rw [rounds_succ]
  have k1 := H.out.1 0 (by omega)
  simp only [Nat.reduceAdd] at k1
  have k2 := hide (H.out.2.1 0 (by omega))
  obtain ⟨k3, k4⟩ := H.out.2.2 0 (by omega)
  obtain ⟨k5, k6⟩ := H.out.2.2 1 (by omega)
  obtain ⟨m, hm⟩ : ∃ m, (q 0).tmod 65536 = m := ⟨_, rfl⟩
  go_upto_if 16 with (fail)
  rw [hm] at k2
  clear hm
  go_cut [5] (fun s5 wx => s5 = .int .i64 (r 0) ∧ wx = (World.alloc (World.alloc w (.cells #[.int .i64 0, .int .i64 0, .int .i64 0, .int .i64 0, .int .i64 0, .int .i64 0, .int .i64 0, .int .i64 0, .int .i64 0, .int .i64 0, .int .i64 0, .int .i64 0, .bool false] 24)) (.cells #[.int .i64 0, .int .i64 0, .int .i64 0, .int .i64 0, .int .i64 0, .int .i64 0, .int .i64 0, .int .i64 0, .int .i64 0, .int .i64 0, .int .i64 0, .int .i64 0, .bool s] 24)))
  case first =>
    rcases k2.out with ⟨h1, h2⟩ | ⟨h1, h2, h3⟩
    · subst h2
      go_wp2
      go_meet
      exact ⟨rfl, rfl⟩
    · have h4 : - m = r 0 := by omega
      have h5 : m ≥ -65536 := by omega
      clear h2
      go_wp2
      go_meet
      exact ⟨rfl, rfl⟩
  case rest =>
  obtain ⟨rfl, rfl⟩ := hcut
  go_wp2
  clear k1 k2 k3 k4 k5 k6
  rw [rounds_succ]
  have k1 := H.out.1 1 (by omega)
  simp only [Nat.reduceAdd] at k1
  have k2 := hide (H.out.2.1 1 (by omega))
  obtain ⟨k3, k4⟩ := H.out.2.2 1 (by omega)
  obtain ⟨k5, k6⟩ := H.out.2.2 2 (by omega)
  obtain ⟨m, hm⟩ : ∃ m, (q 1).tmod 65536 = m := ⟨_, rfl⟩
  go_upto_if 16 with (fail)
  rw [hm] at k2
  clear hm
  go_cut [5] (fun s5 wx => s5 = .int .i64 (r 1) ∧ wx = (World.alloc (World.alloc w (.cells #[.int .i64 0, .int .i64 0, .int .i64 0, .int .i64 0, .int .i64 0, .int .i64 0, .int .i64 0, .int .i64 0, .int .i64 0, .int .i64 0, .int .i64 0, .int .i64 0, .bool false] 24)) (.cells #[.int .i64 (r 0), .int .i64 0, .int .i64 0, .int .i64 0, .int .i64 0, .int .i64 0, .int .i64 0, .int .i64 0, .int .i64 0, .int .i64 0, .int .i64 0, .int .i64 0, .bool s] 24)))
  case first =>
    rcases k2.out with ⟨h1, h2⟩ | ⟨h1, h2, h3⟩
    · subst h2
      go_wp2
      go_meet
      exact ⟨rfl, rfl⟩
    · have h4 : - m = r 1 := by omega
      have h5 : m ≥ -65536 := by omega
      clear h2
      go_wp2
      go_meet
      exact ⟨rfl, rfl⟩
  case rest =>
  obtain ⟨rfl, rfl⟩ := hcut
  go_wp2
  clear k1 k2 k3 k4 k5 k6
  rw [rounds_succ]
  have k1 := H.out.1 2 (by omega)
  simp only [Nat.reduceAdd] at k1
  have k2 := hide (H.out.2.1 2 (by omega))
  obtain ⟨k3, k4⟩ := H.out.2.2 2 (by omega)
  obtain ⟨k5, k6⟩ := H.out.2.2 3 (by omega)
  obtain ⟨m, hm⟩ : ∃ m, (q 2).tmod 65536 = m := ⟨_, rfl⟩
  go_upto_if 16 with (fail)
  rw [hm] at k2
  clear hm
  go_cut [5] (fun s5 wx => s5 = .int .i64 (r 2) ∧ wx = (World.alloc (World.alloc w (.cells #[.int .i64 0, .int .i64 0, .int .i64 0, .int .i64 0, .int .i64 0, .int .i64 0, .int .i64 0, .int .i64 0, .int .i64 0, .int .i64 0, .int .i64 0, .int .i64 0, .bool false] 24)) (.cells #[.int .i64 (r 0), .int .i64 (r 1), .int .i64 0, .int .i64 0, .int .i64 0, .int .i64 0, .int .i64 0, .int .i64 0, .int .i64 0, .int .i64 0, .int .i64 0, .int .i64 0, .bool s] 24)))
  case first =>
    rcases k2.out with ⟨h1, h2⟩ | ⟨h1, h2, h3⟩
    · subst h2
      go_wp2
      go_meet
      exact ⟨rfl, rfl⟩
    · have h4 : - m = r 2 := by omega
      have h5 : m ≥ -65536 := by omega
      clear h2
      go_wp2
      go_meet
      exact ⟨rfl, rfl⟩
  case rest =>
  obtain ⟨rfl, rfl⟩ := hcut
  go_wp2
  clear k1 k2 k3 k4 k5 k6
  rw [rounds_succ]
  have k1 := H.out.1 3 (by omega)
  simp only [Nat.reduceAdd] at k1
  have k2 := hide (H.out.2.1 3 (by omega))
  obtain ⟨k3, k4⟩ := H.out.2.2 3 (by omega)
  obtain ⟨k5, k6⟩ := H.out.2.2 4 (by omega)
  obtain ⟨m, hm⟩ : ∃ m, (q 3).tmod 65536 = m := ⟨_, rfl⟩
  go_upto_if 16 with (fail)
  rw [hm] at k2
  clear hm
  go_cut [5] (fun s5 wx => s5 = .int .i64 (r 3) ∧ wx = (World.alloc (World.alloc w (.cells #[.int .i64 0, .int .i64 0, .int .i64 0, .int .i64 0, .int .i64 0, .int .i64 0, .int .i64 0, .int .i64 0, .int .i64 0, .int .i64 0, .int .i64 0, .int .i64 0, .bool false] 24)) (.cells #[.int .i64 (r 0), .int .i64 (r 1), .int .i64 (r 2), .int .i64 0, .int .i64 0, .int .i64 0, .int .i64 0, .int .i64 0, .int .i64 0, .int .i64 0, .int .i64 0, .int .i64 0, .bool s] 24)))
  case first =>
    rcases k2.out with ⟨h1, h2⟩ | ⟨h1, h2, h3⟩
    · subst h2
      go_wp2
      go_meet
      exact ⟨rfl, rfl⟩
    · have h4 : - m = r 3 := by omega
      have h5 : m ≥ -65536 := by omega
      clear h2
      go_wp2
      go_meet
      exact ⟨rfl, rfl⟩
  case rest =>
  obtain ⟨rfl, rfl⟩ := hcut
  go_wp2
  clear k1 k2 k3 k4 k5 k6
  rw [rounds_succ]
  have k1 := H.out.1 4 (by omega)
  simp only [Nat.reduceAdd] at k1
  have k2 := hide (H.out.2.1 4 (by omega))
  obtain ⟨k3, k4⟩ := H.out.2.2 4 (by omega)
  obtain ⟨k5, k6⟩ := H.out.2.2 5 (by omega)
  obtain ⟨m, hm⟩ : ∃ m, (q 4).tmod 65536 = m := ⟨_, rfl⟩
  go_upto_if 16 with (fail)
  rw [hm] at k2
  clear hm
  go_cut [5] (fun s5 wx => s5 = .int .i64 (r 4) ∧ wx = (World.alloc (World.alloc w (.cells #[.int .i64 0, .int .i64 0, .int .i64 0, .int .i64 0, .int .i64 0, .int .i64 0, .int .i64 0, .int .i64 0, .int .i64 0, .int .i64 0, .int .i64 0, .int .i64 0, .bool false] 24)) (.cells #[.int .i64 (r 0), .int .i64 (r 1), .int .i64 (r 2), .int .i64 (r 3), .int .i64 0, .int .i64 0, .int .i64 0, .int .i64 0, .int .i64 0, .int .i64 0, .int .i64 0, .int .i64 0, .bool s] 24)))
  case first =>
    rcases k2.out with ⟨h1, h2⟩ | ⟨h1, h2, h3⟩
    · subst h2
      go_wp2
      go_meet
      exact ⟨rfl, rfl⟩
    · have h4 : - m = r 4 := by omega
      have h5 : m ≥ -65536 := by omega
      clear h2
      go_wp2
      go_meet
      exact ⟨rfl, rfl⟩
  case rest =>
  obtain ⟨rfl, rfl⟩ := hcut
  go_wp2
  clear k1 k2 k3 k4 k5 k6
  rw [rounds_succ]
  go_wp2
  refine bodyPost_ret (v := .agg #[.int .i64 (r 0), .int .i64 (r 1), .int .i64 (r 2), .int .i64 (r 3), .int .i64 (r 4), .int .i64 0, .int .i64 0, .int .i64 0, .int .i64 0, .int .i64 0, .int .i64 0, .int .i64 0, .bool s]) (by simp [results, Try.results13, go_sem]) rfl ⟨rfl, ?_⟩
  repeat (first | exact Below.refl _ _ | refine below_drewN ?_ _ | refine Below.alloc ?_ (by simp <;> omega) _)
end Go.Proofs.Ytobjmngfikmdhaa
