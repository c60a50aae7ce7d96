/-
  The reference's whole numbers: the product, by the school's method.
-/
import Derived.Test.YtobjmngfikmdhaaRows
import Derived.Test.YtobjmngfikmdhaaNumMath2
import Derived.WalkKit
import Derived.ProofKit
import Derived.Outline
import Derived.Deep.DeepCutAuto
import Derived.Deep.QuietTactic
import Derived.BigQuiet
import Derived.LoopN
import Derived.WalkSmall
namespace Go.Proofs.Ytobjmngfikmdhaa
open Go.ChangeShapes Go.WideShapes Go.ChangeAt Go.RowKit

theorem setCell_drewN_f (w : World) (n : Nat) (a : Addr) (v : Value) : (w.drewN n).setCell a v = (w.setCell a v).drewN n := rfl
set_option maxRecDepth 100000 in
set_option maxHeartbeats 16000000 in
/-- The product by the school's method: p are the digits' products, y the carries, x the digits as they come. -/
theorem mul_any' (a b : Nat → Int) (x y p : Nat → Nat → Int) (s t : Bool) (w : World)
    (hp : ∀ i k, i < 5 → k < 5 → a i * b k = p i k ∧ 0 ≤ p i k ∧ p i k ≤ 4294836225)
    (hx : ∀ i k, 0 ≤ x i k ∧ x i k ≤ 65535) (hy : ∀ i k, 0 ≤ y i k ∧ y i k ≤ 65535)
    (hx0 : ∀ k, x 0 k = 0) (hy0 : ∀ i, y i 0 = 0) (hx5 : ∀ i, i < 5 → x (i + 1) 5 = y i 5)
    (hr : ∀ i k, i < 5 → k < 5 → (x i (k + 1) + p i k + y i k) % 65536 = x (i + 1) k)
    (hn : ∀ i k, i < 5 → k < 5 → (x i (k + 1) + p i k + y i k) / 65536 = y i (k + 1)) :
    Calls Try.prog 21 #[.agg #[.int .i64 (a 0), .int .i64 (a 1), .int .i64 (a 2), .int .i64 (a 3), .int .i64 (a 4), .int .i64 0, .int .i64 0, .int .i64 0, .int .i64 0, .int .i64 0, .int .i64 0, .int .i64 0, .bool s], .agg #[.int .i64 (b 0), .int .i64 (b 1), .int .i64 (b 2), .int .i64 (b 3), .int .i64 (b 4), .int .i64 0, .int .i64 0, .int .i64 0, .int .i64 0, .int .i64 0, .int .i64 0, .int .i64 0, .bool t]] w fun e w' =>
      e = .returned (.agg #[.int .i64 (x 1 0), .int .i64 (x 2 0), .int .i64 (x 3 0), .int .i64 (x 4 0), .int .i64 (x 5 0), .int .i64 (x 5 1), .int .i64 (x 5 2), .int .i64 (x 5 3), .int .i64 (x 5 4), .int .i64 (x 5 5), .int .i64 0, .int .i64 0, .bool (!(s == t))]) ∧ Below w.heap.size w w' := by
  have H := hide (And.intro hp (And.intro hx (And.intro hy (And.intro hr hn))))
  have H0 := hide (And.intro hx0 (And.intro hy0 hx5))
  clear hp hx hy hx0 hy0 hx5 hr hn
  have hsd := setCell_drewN_f
  go_enter Try.func21, Try.ntmps21
  go_wp2
  refine wp_loop_rounds 6 ?_
  rw [rounds_succ]
  go_wp2
  refine wp_loop_rounds 6 ?_
  rw [rounds_succ]
  obtain ⟨k1, k2, k3⟩ := H.out.1 0 0 (by omega) (by omega)
  obtain ⟨k4, k5⟩ := H.out.2.1 0 1
  obtain ⟨k6, k7⟩ := H.out.2.2.1 0 0
  have k8 := H.out.2.2.2.1 0 0 (by omega) (by omega)
  have k9 := H.out.2.2.2.2 0 0 (by omega) (by omega)
  simp only [Nat.reduceAdd] at k8 k9
  rw [H0.out.1 1, Int.zero_add, H0.out.2.1 0, Int.add_zero] at k8 k9
  go_wp2
  go_quiet (fail)
  go_wp2
  try rw [k9]
  clear k1 k2 k3 k4 k5 k6 k7 k8 k9
  rw [rounds_succ]
  obtain ⟨k1, k2, k3⟩ := H.out.1 0 1 (by omega) (by omega)
  obtain ⟨k4, k5⟩ := H.out.2.1 0 2
  obtain ⟨k6, k7⟩ := H.out.2.2.1 0 1
  have k8 := H.out.2.2.2.1 0 1 (by omega) (by omega)
  have k9 := H.out.2.2.2.2 0 1 (by omega) (by omega)
  simp only [Nat.reduceAdd] at k8 k9
  rw [H0.out.1 2, Int.zero_add] at k8 k9
  go_wp2
  go_quiet (fail)
  go_wp2
  try rw [k9]
  clear k1 k2 k3 k4 k5 k6 k7 k8 k9
  rw [rounds_succ]
  obtain ⟨k1, k2, k3⟩ := H.out.1 0 2 (by omega) (by omega)
  obtain ⟨k4, k5⟩ := H.out.2.1 0 3
  obtain ⟨k6, k7⟩ := H.out.2.2.1 0 2
  have k8 := H.out.2.2.2.1 0 2 (by omega) (by omega)
  have k9 := H.out.2.2.2.2 0 2 (by omega) (by omega)
  simp only [Nat.reduceAdd] at k8 k9
  rw [H0.out.1 3, Int.zero_add] at k8 k9
  go_wp2
  go_quiet (fail)
  go_wp2
  try rw [k9]
  clear k1 k2 k3 k4 k5 k6 k7 k8 k9
  rw [rounds_succ]
  obtain ⟨k1, k2, k3⟩ := H.out.1 0 3 (by omega) (by omega)
  obtain ⟨k4, k5⟩ := H.out.2.1 0 4
  obtain ⟨k6, k7⟩ := H.out.2.2.1 0 3
  have k8 := H.out.2.2.2.1 0 3 (by omega) (by omega)
  have k9 := H.out.2.2.2.2 0 3 (by omega) (by omega)
  simp only [Nat.reduceAdd] at k8 k9
  rw [H0.out.1 4, Int.zero_add] at k8 k9
  go_wp2
  go_quiet (fail)
  go_wp2
  try rw [k9]
  clear k1 k2 k3 k4 k5 k6 k7 k8 k9
  rw [rounds_succ]
  obtain ⟨k1, k2, k3⟩ := H.out.1 0 4 (by omega) (by omega)
  obtain ⟨k4, k5⟩ := H.out.2.1 0 5
  obtain ⟨k6, k7⟩ := H.out.2.2.1 0 4
  have k8 := H.out.2.2.2.1 0 4 (by omega) (by omega)
  have k9 := H.out.2.2.2.2 0 4 (by omega) (by omega)
  simp only [Nat.reduceAdd] at k8 k9
  rw [H0.out.1 5, Int.zero_add] at k8 k9
  go_wp2
  go_quiet (fail)
  go_wp2
  try rw [k9]
  clear k1 k2 k3 k4 k5 k6 k7 k8 k9
  obtain ⟨k1, k2⟩ := H.out.2.2.1 0 5
  rw [rounds_succ]
  go_wp2
  rw [← H0.out.2.2 0 (by omega)]
  simp only [Nat.reduceAdd]
  clear k1 k2
  rw [rounds_succ]
  go_wp2
  refine wp_loop_rounds 6 ?_
  rw [rounds_succ]
  obtain ⟨k1, k2, k3⟩ := H.out.1 1 0 (by omega) (by omega)
  obtain ⟨k4, k5⟩ := H.out.2.1 1 1
  obtain ⟨k6, k7⟩ := H.out.2.2.1 1 0
  have k8 := H.out.2.2.2.1 1 0 (by omega) (by omega)
  have k9 := H.out.2.2.2.2 1 0 (by omega) (by omega)
  simp only [Nat.reduceAdd] at k8 k9
  rw [H0.out.2.1 1, Int.add_zero] at k8 k9
  go_wp2
  go_quiet (fail)
  go_wp2
  try rw [k9]
  clear k1 k2 k3 k4 k5 k6 k7 k8 k9
  rw [rounds_succ]
  obtain ⟨k1, k2, k3⟩ := H.out.1 1 1 (by omega) (by omega)
  obtain ⟨k4, k5⟩ := H.out.2.1 1 2
  obtain ⟨k6, k7⟩ := H.out.2.2.1 1 1
  have k8 := H.out.2.2.2.1 1 1 (by omega) (by omega)
  have k9 := H.out.2.2.2.2 1 1 (by omega) (by omega)
  simp only [Nat.reduceAdd] at k8 k9
  go_wp2
  go_quiet (fail)
  go_wp2
  try rw [k9]
  clear k1 k2 k3 k4 k5 k6 k7 k8 k9
  rw [rounds_succ]
  obtain ⟨k1, k2, k3⟩ := H.out.1 1 2 (by omega) (by omega)
  obtain ⟨k4, k5⟩ := H.out.2.1 1 3
  obtain ⟨k6, k7⟩ := H.out.2.2.1 1 2
  have k8 := H.out.2.2.2.1 1 2 (by omega) (by omega)
  have k9 := H.out.2.2.2.2 1 2 (by omega) (by omega)
  simp only [Nat.reduceAdd] at k8 k9
  go_wp2
  go_quiet (fail)
  go_wp2
  try rw [k9]
  clear k1 k2 k3 k4 k5 k6 k7 k8 k9
  rw [rounds_succ]
  obtain ⟨k1, k2, k3⟩ := H.out.1 1 3 (by omega) (by omega)
  obtain ⟨k4, k5⟩ := H.out.2.1 1 4
  obtain ⟨k6, k7⟩ := H.out.2.2.1 1 3
  have k8 := H.out.2.2.2.1 1 3 (by omega) (by omega)
  have k9 := H.out.2.2.2.2 1 3 (by omega) (by omega)
  simp only [Nat.reduceAdd] at k8 k9
  go_wp2
  go_quiet (fail)
  go_wp2
  try rw [k9]
  clear k1 k2 k3 k4 k5 k6 k7 k8 k9
  rw [rounds_succ]
  obtain ⟨k1, k2, k3⟩ := H.out.1 1 4 (by omega) (by omega)
  obtain ⟨k4, k5⟩ := H.out.2.1 1 5
  obtain ⟨k6, k7⟩ := H.out.2.2.1 1 4
  have k8 := H.out.2.2.2.1 1 4 (by omega) (by omega)
  have k9 := H.out.2.2.2.2 1 4 (by omega) (by omega)
  simp only [Nat.reduceAdd] at k8 k9
  go_wp2
  go_quiet (fail)
  go_wp2
  try rw [k9]
  clear k1 k2 k3 k4 k5 k6 k7 k8 k9
  obtain ⟨k1, k2⟩ := H.out.2.2.1 1 5
  rw [rounds_succ]
  go_wp2
  rw [← H0.out.2.2 1 (by omega)]
  simp only [Nat.reduceAdd]
  clear k1 k2
  rw [rounds_succ]
  go_wp2
  refine wp_loop_rounds 6 ?_
  rw [rounds_succ]
  obtain ⟨k1, k2, k3⟩ := H.out.1 2 0 (by omega) (by omega)
  obtain ⟨k4, k5⟩ := H.out.2.1 2 1
  obtain ⟨k6, k7⟩ := H.out.2.2.1 2 0
  have k8 := H.out.2.2.2.1 2 0 (by omega) (by omega)
  have k9 := H.out.2.2.2.2 2 0 (by omega) (by omega)
  simp only [Nat.reduceAdd] at k8 k9
  rw [H0.out.2.1 2, Int.add_zero] at k8 k9
  go_wp2
  go_quiet (fail)
  go_wp2
  try rw [k9]
  clear k1 k2 k3 k4 k5 k6 k7 k8 k9
  rw [rounds_succ]
  obtain ⟨k1, k2, k3⟩ := H.out.1 2 1 (by omega) (by omega)
  obtain ⟨k4, k5⟩ := H.out.2.1 2 2
  obtain ⟨k6, k7⟩ := H.out.2.2.1 2 1
  have k8 := H.out.2.2.2.1 2 1 (by omega) (by omega)
  have k9 := H.out.2.2.2.2 2 1 (by omega) (by omega)
  simp only [Nat.reduceAdd] at k8 k9
  go_wp2
  go_quiet (fail)
  go_wp2
  try rw [k9]
  clear k1 k2 k3 k4 k5 k6 k7 k8 k9
  rw [rounds_succ]
  obtain ⟨k1, k2, k3⟩ := H.out.1 2 2 (by omega) (by omega)
  obtain ⟨k4, k5⟩ := H.out.2.1 2 3
  obtain ⟨k6, k7⟩ := H.out.2.2.1 2 2
  have k8 := H.out.2.2.2.1 2 2 (by omega) (by omega)
  have k9 := H.out.2.2.2.2 2 2 (by omega) (by omega)
  simp only [Nat.reduceAdd] at k8 k9
  go_wp2
  go_quiet (fail)
  go_wp2
  try rw [k9]
  clear k1 k2 k3 k4 k5 k6 k7 k8 k9
  rw [rounds_succ]
  obtain ⟨k1, k2, k3⟩ := H.out.1 2 3 (by omega) (by omega)
  obtain ⟨k4, k5⟩ := H.out.2.1 2 4
  obtain ⟨k6, k7⟩ := H.out.2.2.1 2 3
  have k8 := H.out.2.2.2.1 2 3 (by omega) (by omega)
  have k9 := H.out.2.2.2.2 2 3 (by omega) (by omega)
  simp only [Nat.reduceAdd] at k8 k9
  go_wp2
  go_quiet (fail)
  go_wp2
  try rw [k9]
  clear k1 k2 k3 k4 k5 k6 k7 k8 k9
  rw [rounds_succ]
  obtain ⟨k1, k2, k3⟩ := H.out.1 2 4 (by omega) (by omega)
  obtain ⟨k4, k5⟩ := H.out.2.1 2 5
  obtain ⟨k6, k7⟩ := H.out.2.2.1 2 4
  have k8 := H.out.2.2.2.1 2 4 (by omega) (by omega)
  have k9 := H.out.2.2.2.2 2 4 (by omega) (by omega)
  simp only [Nat.reduceAdd] at k8 k9
  go_wp2
  go_quiet (fail)
  go_wp2
  try rw [k9]
  clear k1 k2 k3 k4 k5 k6 k7 k8 k9
  obtain ⟨k1, k2⟩ := H.out.2.2.1 2 5
  rw [rounds_succ]
  go_wp2
  rw [← H0.out.2.2 2 (by omega)]
  simp only [Nat.reduceAdd]
  clear k1 k2
  rw [rounds_succ]
  go_wp2
  refine wp_loop_rounds 6 ?_
  rw [rounds_succ]
  obtain ⟨k1, k2, k3⟩ := H.out.1 3 0 (by omega) (by omega)
  obtain ⟨k4, k5⟩ := H.out.2.1 3 1
  obtain ⟨k6, k7⟩ := H.out.2.2.1 3 0
  have k8 := H.out.2.2.2.1 3 0 (by omega) (by omega)
  have k9 := H.out.2.2.2.2 3 0 (by omega) (by omega)
  simp only [Nat.reduceAdd] at k8 k9
  rw [H0.out.2.1 3, Int.add_zero] at k8 k9
  go_wp2
  go_quiet (fail)
  go_wp2
  try rw [k9]
  clear k1 k2 k3 k4 k5 k6 k7 k8 k9
  rw [rounds_succ]
  obtain ⟨k1, k2, k3⟩ := H.out.1 3 1 (by omega) (by omega)
  obtain ⟨k4, k5⟩ := H.out.2.1 3 2
  obtain ⟨k6, k7⟩ := H.out.2.2.1 3 1
  have k8 := H.out.2.2.2.1 3 1 (by omega) (by omega)
  have k9 := H.out.2.2.2.2 3 1 (by omega) (by omega)
  simp only [Nat.reduceAdd] at k8 k9
  go_wp2
  go_quiet (fail)
  go_wp2
  try rw [k9]
  clear k1 k2 k3 k4 k5 k6 k7 k8 k9
  rw [rounds_succ]
  obtain ⟨k1, k2, k3⟩ := H.out.1 3 2 (by omega) (by omega)
  obtain ⟨k4, k5⟩ := H.out.2.1 3 3
  obtain ⟨k6, k7⟩ := H.out.2.2.1 3 2
  have k8 := H.out.2.2.2.1 3 2 (by omega) (by omega)
  have k9 := H.out.2.2.2.2 3 2 (by omega) (by omega)
  simp only [Nat.reduceAdd] at k8 k9
  go_wp2
  go_quiet (fail)
  go_wp2
  try rw [k9]
  clear k1 k2 k3 k4 k5 k6 k7 k8 k9
  rw [rounds_succ]
  obtain ⟨k1, k2, k3⟩ := H.out.1 3 3 (by omega) (by omega)
  obtain ⟨k4, k5⟩ := H.out.2.1 3 4
  obtain ⟨k6, k7⟩ := H.out.2.2.1 3 3
  have k8 := H.out.2.2.2.1 3 3 (by omega) (by omega)
  have k9 := H.out.2.2.2.2 3 3 (by omega) (by omega)
  simp only [Nat.reduceAdd] at k8 k9
  go_wp2
  go_quiet (fail)
  go_wp2
  try rw [k9]
  clear k1 k2 k3 k4 k5 k6 k7 k8 k9
  rw [rounds_succ]
  obtain ⟨k1, k2, k3⟩ := H.out.1 3 4 (by omega) (by omega)
  obtain ⟨k4, k5⟩ := H.out.2.1 3 5
  obtain ⟨k6, k7⟩ := H.out.2.2.1 3 4
  have k8 := H.out.2.2.2.1 3 4 (by omega) (by omega)
  have k9 := H.out.2.2.2.2 3 4 (by omega) (by omega)
  simp only [Nat.reduceAdd] at k8 k9
  go_wp2
  go_quiet (fail)
  go_wp2
  try rw [k9]
  clear k1 k2 k3 k4 k5 k6 k7 k8 k9
  obtain ⟨k1, k2⟩ := H.out.2.2.1 3 5
  rw [rounds_succ]
  go_wp2
  rw [← H0.out.2.2 3 (by omega)]
  simp only [Nat.reduceAdd]
  clear k1 k2
  rw [rounds_succ]
  go_wp2
  refine wp_loop_rounds 6 ?_
  rw [rounds_succ]
  obtain ⟨k1, k2, k3⟩ := H.out.1 4 0 (by omega) (by omega)
  obtain ⟨k4, k5⟩ := H.out.2.1 4 1
  obtain ⟨k6, k7⟩ := H.out.2.2.1 4 0
  have k8 := H.out.2.2.2.1 4 0 (by omega) (by omega)
  have k9 := H.out.2.2.2.2 4 0 (by omega) (by omega)
  simp only [Nat.reduceAdd] at k8 k9
  rw [H0.out.2.1 4, Int.add_zero] at k8 k9
  go_wp2
  go_quiet (fail)
  go_wp2
  try rw [k9]
  clear k1 k2 k3 k4 k5 k6 k7 k8 k9
  rw [rounds_succ]
  obtain ⟨k1, k2, k3⟩ := H.out.1 4 1 (by omega) (by omega)
  obtain ⟨k4, k5⟩ := H.out.2.1 4 2
  obtain ⟨k6, k7⟩ := H.out.2.2.1 4 1
  have k8 := H.out.2.2.2.1 4 1 (by omega) (by omega)
  have k9 := H.out.2.2.2.2 4 1 (by omega) (by omega)
  simp only [Nat.reduceAdd] at k8 k9
  go_wp2
  go_quiet (fail)
  go_wp2
  try rw [k9]
  clear k1 k2 k3 k4 k5 k6 k7 k8 k9
  rw [rounds_succ]
  obtain ⟨k1, k2, k3⟩ := H.out.1 4 2 (by omega) (by omega)
  obtain ⟨k4, k5⟩ := H.out.2.1 4 3
  obtain ⟨k6, k7⟩ := H.out.2.2.1 4 2
  have k8 := H.out.2.2.2.1 4 2 (by omega) (by omega)
  have k9 := H.out.2.2.2.2 4 2 (by omega) (by omega)
  simp only [Nat.reduceAdd] at k8 k9
  go_wp2
  go_quiet (fail)
  go_wp2
  try rw [k9]
  clear k1 k2 k3 k4 k5 k6 k7 k8 k9
  rw [rounds_succ]
  obtain ⟨k1, k2, k3⟩ := H.out.1 4 3 (by omega) (by omega)
  obtain ⟨k4, k5⟩ := H.out.2.1 4 4
  obtain ⟨k6, k7⟩ := H.out.2.2.1 4 3
  have k8 := H.out.2.2.2.1 4 3 (by omega) (by omega)
  have k9 := H.out.2.2.2.2 4 3 (by omega) (by omega)
  simp only [Nat.reduceAdd] at k8 k9
  go_wp2
  go_quiet (fail)
  go_wp2
  try rw [k9]
  clear k1 k2 k3 k4 k5 k6 k7 k8 k9
  rw [rounds_succ]
  obtain ⟨k1, k2, k3⟩ := H.out.1 4 4 (by omega) (by omega)
  obtain ⟨k4, k5⟩ := H.out.2.1 4 5
  obtain ⟨k6, k7⟩ := H.out.2.2.1 4 4
  have k8 := H.out.2.2.2.1 4 4 (by omega) (by omega)
  have k9 := H.out.2.2.2.2 4 4 (by omega) (by omega)
  simp only [Nat.reduceAdd] at k8 k9
  go_wp2
  go_quiet (fail)
  go_wp2
  try rw [k9]
  clear k1 k2 k3 k4 k5 k6 k7 k8 k9
  obtain ⟨k1, k2⟩ := H.out.2.2.1 4 5
  rw [rounds_succ]
  go_wp2
  rw [← H0.out.2.2 4 (by omega)]
  simp only [Nat.reduceAdd]
  clear k1 k2
  rw [rounds_succ]
  go_wp2
  refine bodyPost_ret (v := .agg #[.int .i64 (x 1 0), .int .i64 (x 2 0), .int .i64 (x 3 0), .int .i64 (x 4 0), .int .i64 (x 5 0), .int .i64 (x 5 1), .int .i64 (x 5 2), .int .i64 (x 5 3), .int .i64 (x 5 4), .int .i64 (x 5 5), .int .i64 0, .int .i64 0, .bool (!(s == t))]) (by simp [results, Try.results21, go_sem]) rfl ⟨rfl, ?_⟩
  repeat (first | exact Below.refl _ _ | refine below_drewN ?_ _ | refine Below.alloc ?_ (by simp <;> omega) _)
end Go.Proofs.Ytobjmngfikmdhaa
