/-
  The reference's whole numbers: the sum of two sizes of five digits.
-/
import Derived.Test.YtobjmngfikmdhaaRows
import Derived.Test.YtobjmngfikmdhaaNumMath2
import Derived.WalkKit
import Derived.ProofKit
import Derived.Outline
import Derived.Deep.DeepCutAuto
import Derived.Deep.QuietTactic
import Derived.BigQuiet
import Derived.LoopN
import Derived.WalkSmall
namespace Go.Proofs.Ytobjmngfikmdhaa
open Go.ChangeShapes Go.WideShapes Go.ChangeAt Go.RowKit

theorem setCell_drewN (w : World) (n : Nat) (a : Addr) (v : Value) : (w.drewN n).setCell a v = (w.setCell a v).drewN n := rfl
set_option maxRecDepth 100000 in
set_option maxHeartbeats 4000000 in
/-- Sizes together: c are the carries, r the digits. -/
theorem plus_any (a b r c : Nat → Int) (s t : Bool) (w : World) (ha : ∀ i, i < 5 → 0 ≤ a i ∧ a i < 65536) (hb : ∀ i, i < 5 → 0 ≤ b i ∧ b i < 65536) (hc : ∀ i, i < 5 → 0 ≤ c i ∧ c i ≤ 1) (hc0 : c 0 = 0) (hc5 : c 5 = 0)
    (hr : ∀ i, i < 5 → (a i + b i + c i) % 65536 = r i) (hn : ∀ i, i < 5 → (a i + b i + c i) / 65536 = c (i + 1)) :
    Calls Try.prog 30 #[.agg #[.int .i64 (a 0), .int .i64 (a 1), .int .i64 (a 2), .int .i64 (a 3), .int .i64 (a 4), .int .i64 0, .int .i64 0, .int .i64 0, .int .i64 0, .int .i64 0, .int .i64 0, .int .i64 0, .bool s], .agg #[.int .i64 (b 0), .int .i64 (b 1), .int .i64 (b 2), .int .i64 (b 3), .int .i64 (b 4), .int .i64 0, .int .i64 0, .int .i64 0, .int .i64 0, .int .i64 0, .int .i64 0, .int .i64 0, .bool t]] w fun e w' =>
      e = .returned (.agg #[.int .i64 (r 0), .int .i64 (r 1), .int .i64 (r 2), .int .i64 (r 3), .int .i64 (r 4), .int .i64 0, .int .i64 0, .int .i64 0, .int .i64 0, .int .i64 0, .int .i64 0, .int .i64 0, .bool s]) ∧ Below w.heap.size w w' := by
  have H := hide (And.intro ha (And.intro hb (And.intro hc (And.intro hr hn))))
  have H0 := hide (And.intro hc0 hc5)
  clear ha hb hc hr hn hc0 hc5
  have hsd := setCell_drewN
  go_enter Try.func30, Try.ntmps30
  go_wp2
  refine wp_loop_rounds 13 ?_
  rw [rounds_succ]
  obtain ⟨k1, k2⟩ := H.out.1 0 (by omega)
  obtain ⟨k3, k4⟩ := H.out.2.1 0 (by omega)
  obtain ⟨k5, k6⟩ := H.out.2.2.1 0 (by omega)
  have k7 := H.out.2.2.2.1 0 (by omega)
  have k8 := H.out.2.2.2.2 0 (by omega)
  rw [H0.out.1, Int.add_zero] at k7 k8
  simp only [Nat.reduceAdd] at k8
  go_wp2
  go_quiet (fail)
  go_wp2
  try rw [k8]
  clear k1 k2 k3 k4 k5 k6 k7 k8
  rw [rounds_succ]
  obtain ⟨k1, k2⟩ := H.out.1 1 (by omega)
  obtain ⟨k3, k4⟩ := H.out.2.1 1 (by omega)
  obtain ⟨k5, k6⟩ := H.out.2.2.1 1 (by omega)
  have k7 := H.out.2.2.2.1 1 (by omega)
  have k8 := H.out.2.2.2.2 1 (by omega)
  simp only [Nat.reduceAdd] at k8
  go_wp2
  go_quiet (fail)
  go_wp2
  try rw [k8]
  clear k1 k2 k3 k4 k5 k6 k7 k8
  rw [rounds_succ]
  obtain ⟨k1, k2⟩ := H.out.1 2 (by omega)
  obtain ⟨k3, k4⟩ := H.out.2.1 2 (by omega)
  obtain ⟨k5, k6⟩ := H.out.2.2.1 2 (by omega)
  have k7 := H.out.2.2.2.1 2 (by omega)
  have k8 := H.out.2.2.2.2 2 (by omega)
  simp only [Nat.reduceAdd] at k8
  go_wp2
  go_quiet (fail)
  go_wp2
  try rw [k8]
  clear k1 k2 k3 k4 k5 k6 k7 k8
  rw [rounds_succ]
  obtain ⟨k1, k2⟩ := H.out.1 3 (by omega)
  obtain ⟨k3, k4⟩ := H.out.2.1 3 (by omega)
  obtain ⟨k5, k6⟩ := H.out.2.2.1 3 (by omega)
  have k7 := H.out.2.2.2.1 3 (by omega)
  have k8 := H.out.2.2.2.2 3 (by omega)
  simp only [Nat.reduceAdd] at k8
  go_wp2
  go_quiet (fail)
  go_wp2
  try rw [k8]
  clear k1 k2 k3 k4 k5 k6 k7 k8
  rw [rounds_succ]
  obtain ⟨k1, k2⟩ := H.out.1 4 (by omega)
  obtain ⟨k3, k4⟩ := H.out.2.1 4 (by omega)
  obtain ⟨k5, k6⟩ := H.out.2.2.1 4 (by omega)
  have k7 := H.out.2.2.2.1 4 (by omega)
  have k8 := H.out.2.2.2.2 4 (by omega)
  simp only [Nat.reduceAdd] at k8
  rw [H0.out.2] at k8
  go_wp2
  go_quiet (fail)
  go_wp2
  try rw [k8]
  clear k1 k2 k3 k4 k5 k6 k7 k8
  rw [rounds_succ]
  go_wp2
  go_quiet (fail)
  go_wp2
  rw [rounds_succ]
  go_wp2
  go_quiet (fail)
  go_wp2
  rw [rounds_succ]
  go_wp2
  go_quiet (fail)
  go_wp2
  rw [rounds_succ]
  go_wp2
  go_quiet (fail)
  go_wp2
  rw [rounds_succ]
  go_wp2
  go_quiet (fail)
  go_wp2
  rw [rounds_succ]
  go_wp2
  go_quiet (fail)
  go_wp2
  rw [rounds_succ]
  go_wp2
  go_quiet (fail)
  go_wp2
  rw [rounds_succ]
  go_wp2
  refine bodyPost_ret (v := .agg #[.int .i64 (r 0), .int .i64 (r 1), .int .i64 (r 2), .int .i64 (r 3), .int .i64 (r 4), .int .i64 0, .int .i64 0, .int .i64 0, .int .i64 0, .int .i64 0, .int .i64 0, .int .i64 0, .bool s]) (by simp [results, Try.results30, go_sem]) rfl ⟨rfl, ?_⟩
  repeat (first | exact Below.refl _ _ | refine below_drewN ?_ _ | refine Below.alloc ?_ (by simp <;> omega) _)
end Go.Proofs.Ytobjmngfikmdhaa
