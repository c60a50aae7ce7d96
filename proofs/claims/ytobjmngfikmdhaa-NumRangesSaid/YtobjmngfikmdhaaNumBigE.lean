/-
  The reference's whole numbers: as a number of 64 bits, or told that it is none.
-/
import Derived.Test.YtobjmngfikmdhaaRows
import Derived.Test.YtobjmngfikmdhaaNumMath2
import Derived.WalkKit
import Derived.ProofKit
import Derived.Outline
import Derived.Deep.DeepCutAuto
import Derived.Deep.QuietTactic
import Derived.BigQuiet
import Derived.LoopN
import Derived.WalkSmall
namespace Go.Proofs.Ytobjmngfikmdhaa
open Go.ChangeShapes Go.WideShapes Go.ChangeAt Go.RowKit

set_option maxRecDepth 100000 in
theorem int_top4 (a : Nat → Int) (s : Bool) (w : World)  (e4 : a 4 ≠ 0) :
    Calls Try.prog 28 #[.agg #[.int .i64 (a 0), .int .i64 (a 1), .int .i64 (a 2), .int .i64 (a 3), .int .i64 (a 4), .int .i64 (a 5), .int .i64 (a 6), .int .i64 (a 7), .int .i64 (a 8), .int .i64 (a 9), .int .i64 (a 10), .int .i64 (a 11), .bool s]] w fun e w' => e = .returned (.tuple #[.int .i64 0, .bool false]) ∧ Below w.heap.size w w' := by
  have f4 : (a 4 != 0) = true := by simp [e4]
  clear e4
  go_enter Try.func28, Try.ntmps28
  go_wp2
  refine wp_loop_rounds 9 ?_
  rw [rounds_succ]
  go_wp2
  go_ret2
  refine ⟨rfl, ?_⟩
  repeat (first | exact Below.refl _ _ | refine below_drewN ?_ _ | refine Below.alloc ?_ (by simp <;> omega) _)
set_option maxRecDepth 100000 in
theorem int_top5 (a : Nat → Int) (s : Bool) (w : World) (e4 : a 4 = 0) (e5 : a 5 ≠ 0) :
    Calls Try.prog 28 #[.agg #[.int .i64 (a 0), .int .i64 (a 1), .int .i64 (a 2), .int .i64 (a 3), .int .i64 (a 4), .int .i64 (a 5), .int .i64 (a 6), .int .i64 (a 7), .int .i64 (a 8), .int .i64 (a 9), .int .i64 (a 10), .int .i64 (a 11), .bool s]] w fun e w' => e = .returned (.tuple #[.int .i64 0, .bool false]) ∧ Below w.heap.size w w' := by
  have f4 : (a 4 != 0) = false := by simp [e4]
  clear e4
  have f5 : (a 5 != 0) = true := by simp [e5]
  clear e5
  go_enter Try.func28, Try.ntmps28
  go_wp2
  refine wp_loop_rounds 9 ?_
  rw [rounds_succ]
  go_wp2
  rw [rounds_succ]
  go_wp2
  go_ret2
  refine ⟨rfl, ?_⟩
  repeat (first | exact Below.refl _ _ | refine below_drewN ?_ _ | refine Below.alloc ?_ (by simp <;> omega) _)
set_option maxRecDepth 100000 in
theorem int_top6 (a : Nat → Int) (s : Bool) (w : World) (e4 : a 4 = 0) (e5 : a 5 = 0) (e6 : a 6 ≠ 0) :
    Calls Try.prog 28 #[.agg #[.int .i64 (a 0), .int .i64 (a 1), .int .i64 (a 2), .int .i64 (a 3), .int .i64 (a 4), .int .i64 (a 5), .int .i64 (a 6), .int .i64 (a 7), .int .i64 (a 8), .int .i64 (a 9), .int .i64 (a 10), .int .i64 (a 11), .bool s]] w fun e w' => e = .returned (.tuple #[.int .i64 0, .bool false]) ∧ Below w.heap.size w w' := by
  have f4 : (a 4 != 0) = false := by simp [e4]
  clear e4
  have f5 : (a 5 != 0) = false := by simp [e5]
  clear e5
  have f6 : (a 6 != 0) = true := by simp [e6]
  clear e6
  go_enter Try.func28, Try.ntmps28
  go_wp2
  refine wp_loop_rounds 9 ?_
  rw [rounds_succ]
  go_wp2
  rw [rounds_succ]
  go_wp2
  rw [rounds_succ]
  go_wp2
  go_ret2
  refine ⟨rfl, ?_⟩
  repeat (first | exact Below.refl _ _ | refine below_drewN ?_ _ | refine Below.alloc ?_ (by simp <;> omega) _)
set_option maxRecDepth 100000 in
theorem int_top7 (a : Nat → Int) (s : Bool) (w : World) (e4 : a 4 = 0) (e5 : a 5 = 0) (e6 : a 6 = 0) (e7 : a 7 ≠ 0) :
    Calls Try.prog 28 #[.agg #[.int .i64 (a 0), .int .i64 (a 1), .int .i64 (a 2), .int .i64 (a 3), .int .i64 (a 4), .int .i64 (a 5), .int .i64 (a 6), .int .i64 (a 7), .int .i64 (a 8), .int .i64 (a 9), .int .i64 (a 10), .int .i64 (a 11), .bool s]] w fun e w' => e = .returned (.tuple #[.int .i64 0, .bool false]) ∧ Below w.heap.size w w' := by
  have f4 : (a 4 != 0) = false := by simp [e4]
  clear e4
  have f5 : (a 5 != 0) = false := by simp [e5]
  clear e5
  have f6 : (a 6 != 0) = false := by simp [e6]
  clear e6
  have f7 : (a 7 != 0) = true := by simp [e7]
  clear e7
  go_enter Try.func28, Try.ntmps28
  go_wp2
  refine wp_loop_rounds 9 ?_
  rw [rounds_succ]
  go_wp2
  rw [rounds_succ]
  go_wp2
  rw [rounds_succ]
  go_wp2
  rw [rounds_succ]
  go_wp2
  go_ret2
  refine ⟨rfl, ?_⟩
  repeat (first | exact Below.refl _ _ | refine below_drewN ?_ _ | refine Below.alloc ?_ (by simp <;> omega) _)
set_option maxRecDepth 100000 in
theorem int_top8 (a : Nat → Int) (s : Bool) (w : World) (e4 : a 4 = 0) (e5 : a 5 = 0) (e6 : a 6 = 0) (e7 : a 7 = 0) (e8 : a 8 ≠ 0) :
    Calls Try.prog 28 #[.agg #[.int .i64 (a 0), .int .i64 (a 1), .int .i64 (a 2), .int .i64 (a 3), .int .i64 (a 4), .int .i64 (a 5), .int .i64 (a 6), .int .i64 (a 7), .int .i64 (a 8), .int .i64 (a 9), .int .i64 (a 10), .int .i64 (a 11), .bool s]] w fun e w' => e = .returned (.tuple #[.int .i64 0, .bool false]) ∧ Below w.heap.size w w' := by
  have f4 : (a 4 != 0) = false := by simp [e4]
  clear e4
  have f5 : (a 5 != 0) = false := by simp [e5]
  clear e5
  have f6 : (a 6 != 0) = false := by simp [e6]
  clear e6
  have f7 : (a 7 != 0) = false := by simp [e7]
  clear e7
  have f8 : (a 8 != 0) = true := by simp [e8]
  clear e8
  go_enter Try.func28, Try.ntmps28
  go_wp2
  refine wp_loop_rounds 9 ?_
  rw [rounds_succ]
  go_wp2
  rw [rounds_succ]
  go_wp2
  rw [rounds_succ]
  go_wp2
  rw [rounds_succ]
  go_wp2
  rw [rounds_succ]
  go_wp2
  go_ret2
  refine ⟨rfl, ?_⟩
  repeat (first | exact Below.refl _ _ | refine below_drewN ?_ _ | refine Below.alloc ?_ (by simp <;> omega) _)
set_option maxRecDepth 100000 in
theorem int_top9 (a : Nat → Int) (s : Bool) (w : World) (e4 : a 4 = 0) (e5 : a 5 = 0) (e6 : a 6 = 0) (e7 : a 7 = 0) (e8 : a 8 = 0) (e9 : a 9 ≠ 0) :
    Calls Try.prog 28 #[.agg #[.int .i64 (a 0), .int .i64 (a 1), .int .i64 (a 2), .int .i64 (a 3), .int .i64 (a 4), .int .i64 (a 5), .int .i64 (a 6), .int .i64 (a 7), .int .i64 (a 8), .int .i64 (a 9), .int .i64 (a 10), .int .i64 (a 11), .bool s]] w fun e w' => e = .returned (.tuple #[.int .i64 0, .bool false]) ∧ Below w.heap.size w w' := by
  have f4 : (a 4 != 0) = false := by simp [e4]
  clear e4
  have f5 : (a 5 != 0) = false := by simp [e5]
  clear e5
  have f6 : (a 6 != 0) = false := by simp [e6]
  clear e6
  have f7 : (a 7 != 0) = false := by simp [e7]
  clear e7
  have f8 : (a 8 != 0) = false := by simp [e8]
  clear e8
  have f9 : (a 9 != 0) = true := by simp [e9]
  clear e9
  go_enter Try.func28, Try.ntmps28
  go_wp2
  refine wp_loop_rounds 9 ?_
  rw [rounds_succ]
  go_wp2
  rw [rounds_succ]
  go_wp2
  rw [rounds_succ]
  go_wp2
  rw [rounds_succ]
  go_wp2
  rw [rounds_succ]
  go_wp2
  rw [rounds_succ]
  go_wp2
  go_ret2
  refine ⟨rfl, ?_⟩
  repeat (first | exact Below.refl _ _ | refine below_drewN ?_ _ | refine Below.alloc ?_ (by simp <;> omega) _)
set_option maxRecDepth 100000 in
theorem int_top10 (a : Nat → Int) (s : Bool) (w : World) (e4 : a 4 = 0) (e5 : a 5 = 0) (e6 : a 6 = 0) (e7 : a 7 = 0) (e8 : a 8 = 0) (e9 : a 9 = 0) (e10 : a 10 ≠ 0) :
    Calls Try.prog 28 #[.agg #[.int .i64 (a 0), .int .i64 (a 1), .int .i64 (a 2), .int .i64 (a 3), .int .i64 (a 4), .int .i64 (a 5), .int .i64 (a 6), .int .i64 (a 7), .int .i64 (a 8), .int .i64 (a 9), .int .i64 (a 10), .int .i64 (a 11), .bool s]] w fun e w' => e = .returned (.tuple #[.int .i64 0, .bool false]) ∧ Below w.heap.size w w' := by
  have f4 : (a 4 != 0) = false := by simp [e4]
  clear e4
  have f5 : (a 5 != 0) = false := by simp [e5]
  clear e5
  have f6 : (a 6 != 0) = false := by simp [e6]
  clear e6
  have f7 : (a 7 != 0) = false := by simp [e7]
  clear e7
  have f8 : (a 8 != 0) = false := by simp [e8]
  clear e8
  have f9 : (a 9 != 0) = false := by simp [e9]
  clear e9
  have f10 : (a 10 != 0) = true := by simp [e10]
  clear e10
  go_enter Try.func28, Try.ntmps28
  go_wp2
  refine wp_loop_rounds 9 ?_
  rw [rounds_succ]
  go_wp2
  rw [rounds_succ]
  go_wp2
  rw [rounds_succ]
  go_wp2
  rw [rounds_succ]
  go_wp2
  rw [rounds_succ]
  go_wp2
  rw [rounds_succ]
  go_wp2
  rw [rounds_succ]
  go_wp2
  go_ret2
  refine ⟨rfl, ?_⟩
  repeat (first | exact Below.refl _ _ | refine below_drewN ?_ _ | refine Below.alloc ?_ (by simp <;> omega) _)
set_option maxRecDepth 100000 in
theorem int_top11 (a : Nat → Int) (s : Bool) (w : World) (e4 : a 4 = 0) (e5 : a 5 = 0) (e6 : a 6 = 0) (e7 : a 7 = 0) (e8 : a 8 = 0) (e9 : a 9 = 0) (e10 : a 10 = 0) (e11 : a 11 ≠ 0) :
    Calls Try.prog 28 #[.agg #[.int .i64 (a 0), .int .i64 (a 1), .int .i64 (a 2), .int .i64 (a 3), .int .i64 (a 4), .int .i64 (a 5), .int .i64 (a 6), .int .i64 (a 7), .int .i64 (a 8), .int .i64 (a 9), .int .i64 (a 10), .int .i64 (a 11), .bool s]] w fun e w' => e = .returned (.tuple #[.int .i64 0, .bool false]) ∧ Below w.heap.size w w' := by
  have f4 : (a 4 != 0) = false := by simp [e4]
  clear e4
  have f5 : (a 5 != 0) = false := by simp [e5]
  clear e5
  have f6 : (a 6 != 0) = false := by simp [e6]
  clear e6
  have f7 : (a 7 != 0) = false := by simp [e7]
  clear e7
  have f8 : (a 8 != 0) = false := by simp [e8]
  clear e8
  have f9 : (a 9 != 0) = false := by simp [e9]
  clear e9
  have f10 : (a 10 != 0) = false := by simp [e10]
  clear e10
  have f11 : (a 11 != 0) = true := by simp [e11]
  clear e11
  go_enter Try.func28, Try.ntmps28
  go_wp2
  refine wp_loop_rounds 9 ?_
  rw [rounds_succ]
  go_wp2
  rw [rounds_succ]
  go_wp2
  rw [rounds_succ]
  go_wp2
  rw [rounds_succ]
  go_wp2
  rw [rounds_succ]
  go_wp2
  rw [rounds_succ]
  go_wp2
  rw [rounds_succ]
  go_wp2
  rw [rounds_succ]
  go_wp2
  go_ret2
  refine ⟨rfl, ?_⟩
  repeat (first | exact Below.refl _ _ | refine below_drewN ?_ _ | refine Below.alloc ?_ (by simp <;> omega) _)
set_option maxRecDepth 100000 in
set_option maxHeartbeats 1000000 in
theorem int_py (a n : Nat → Int) (w : World) (ha : ∀ i, i < 4 → 0 ≤ a i ∧ a i < 65536) (h3 : a 3 ≤ 32767) (hn : ∀ i, i < 3 → 0 ≤ n i ∧ n i ≤ 9223372036854775807) (r2 : a 3 * 65536 + a 2 = n 2) (r1 : n 2 * 65536 + a 1 = n 1) (r0 : n 1 * 65536 + a 0 = n 0) :
    Calls Try.prog 28 #[.agg #[.int .i64 (a 0), .int .i64 (a 1), .int .i64 (a 2), .int .i64 (a 3), .int .i64 0, .int .i64 0, .int .i64 0, .int .i64 0, .int .i64 0, .int .i64 0, .int .i64 0, .int .i64 0, .bool false]] w fun e w' => e = .returned (.tuple #[.int .i64 (n 0), .bool true]) ∧ Below w.heap.size w w' := by
  obtain ⟨l0, u0⟩ := ha 0 (by omega)
  obtain ⟨l1, u1⟩ := ha 1 (by omega)
  obtain ⟨l2, u2⟩ := ha 2 (by omega)
  obtain ⟨l3, u3⟩ := ha 3 (by omega)
  obtain ⟨nl0, nu0⟩ := hn 0 (by omega)
  obtain ⟨nl1, nu1⟩ := hn 1 (by omega)
  obtain ⟨nl2, nu2⟩ := hn 2 (by omega)
  clear ha hn
  go_enter Try.func28, Try.ntmps28
  go_wp2
  refine wp_loop_rounds 9 ?_
  rw [rounds_succ]
  go_wp2
  rw [rounds_succ]
  go_wp2
  rw [rounds_succ]
  go_wp2
  rw [rounds_succ]
  go_wp2
  rw [rounds_succ]
  go_wp2
  rw [rounds_succ]
  go_wp2
  rw [rounds_succ]
  go_wp2
  rw [rounds_succ]
  go_wp2
  rw [rounds_succ]
  go_wp2
  refine wp_loop_rounds 5 ?_
  rw [rounds_succ]
  go_wp2
  rw [rounds_succ]
  go_upto_region 16 with (fail)
  go_cut [55] (fun t wx => t = .bool false ∧ wx = (World.alloc w (.cells #[.int .i64 (a 0), .int .i64 (a 1), .int .i64 (a 2), .int .i64 (a 3), .int .i64 0, .int .i64 0, .int .i64 0, .int .i64 0, .int .i64 0, .int .i64 0, .int .i64 0, .int .i64 0, .bool false] 24)))
  case first =>
    by_cases hz : n 2 = 0
    · have h5 : decide (0 < n 2) = false := by simp; omega
      have h6 : (n 2 != 0) = false := by simp; omega
      clear hz
      go_wp2
      go_meet
      exact ⟨rfl, rfl⟩
    · have h5 : 0 < n 2 := by omega
      clear hz
      go_wp2
      go_meet
      exact ⟨rfl, rfl⟩
  case rest =>
  obtain ⟨rfl, rfl⟩ := hcut
  go_wp2
  rw [rounds_succ]
  go_upto_region 16 with (fail)
  go_cut [55] (fun t wx => t = .bool false ∧ wx = (World.alloc w (.cells #[.int .i64 (a 0), .int .i64 (a 1), .int .i64 (a 2), .int .i64 (a 3), .int .i64 0, .int .i64 0, .int .i64 0, .int .i64 0, .int .i64 0, .int .i64 0, .int .i64 0, .int .i64 0, .bool false] 24)))
  case first =>
    by_cases hz : n 1 = 0
    · have h5 : decide (0 < n 1) = false := by simp; omega
      have h6 : (n 1 != 0) = false := by simp; omega
      clear hz
      go_wp2
      go_meet
      exact ⟨rfl, rfl⟩
    · have h5 : 0 < n 1 := by omega
      clear hz
      go_wp2
      go_meet
      exact ⟨rfl, rfl⟩
  case rest =>
  obtain ⟨rfl, rfl⟩ := hcut
  go_wp2
  rw [rounds_succ]
  go_upto_region 16 with (fail)
  go_cut [55] (fun t wx => t = .bool false ∧ wx = (World.alloc w (.cells #[.int .i64 (a 0), .int .i64 (a 1), .int .i64 (a 2), .int .i64 (a 3), .int .i64 0, .int .i64 0, .int .i64 0, .int .i64 0, .int .i64 0, .int .i64 0, .int .i64 0, .int .i64 0, .bool false] 24)))
  case first =>
    by_cases hz : n 0 = 0
    · have h5 : decide (0 < n 0) = false := by simp; omega
      have h6 : (n 0 != 0) = false := by simp; omega
      clear hz
      go_wp2
      go_meet
      exact ⟨rfl, rfl⟩
    · have h5 : 0 < n 0 := by omega
      clear hz
      go_wp2
      go_meet
      exact ⟨rfl, rfl⟩
  case rest =>
  obtain ⟨rfl, rfl⟩ := hcut
  go_wp2
  rw [rounds_succ]
  go_wp2
  go_ret2
  refine ⟨rfl, ?_⟩
  repeat (first | exact Below.refl _ _ | refine below_drewN ?_ _ | refine Below.alloc ?_ (by simp <;> omega) _)
set_option maxRecDepth 100000 in
set_option maxHeartbeats 1000000 in
theorem int_pn (a : Nat → Int) (w : World) (ha : ∀ i, i < 4 → 0 ≤ a i ∧ a i < 65536) (h3 : 32767 < a 3) :
    Calls Try.prog 28 #[.agg #[.int .i64 (a 0), .int .i64 (a 1), .int .i64 (a 2), .int .i64 (a 3), .int .i64 0, .int .i64 0, .int .i64 0, .int .i64 0, .int .i64 0, .int .i64 0, .int .i64 0, .int .i64 0, .bool false]] w fun e w' => e = .returned (.tuple #[.int .i64 0, .bool false]) ∧ Below w.heap.size w w' := by
  obtain ⟨l0, u0⟩ := ha 0 (by omega)
  obtain ⟨l1, u1⟩ := ha 1 (by omega)
  obtain ⟨l2, u2⟩ := ha 2 (by omega)
  obtain ⟨l3, u3⟩ := ha 3 (by omega)
  clear ha
  go_enter Try.func28, Try.ntmps28
  go_wp2
  refine wp_loop_rounds 9 ?_
  rw [rounds_succ]
  go_wp2
  rw [rounds_succ]
  go_wp2
  rw [rounds_succ]
  go_wp2
  rw [rounds_succ]
  go_wp2
  rw [rounds_succ]
  go_wp2
  rw [rounds_succ]
  go_wp2
  rw [rounds_succ]
  go_wp2
  rw [rounds_succ]
  go_wp2
  rw [rounds_succ]
  go_wp2
  refine wp_loop_rounds 5 ?_
  rw [rounds_succ]
  go_wp2
  go_ret2
  refine ⟨rfl, ?_⟩
  repeat (first | exact Below.refl _ _ | refine below_drewN ?_ _ | refine Below.alloc ?_ (by simp <;> omega) _)
set_option maxRecDepth 100000 in
set_option maxHeartbeats 1000000 in
theorem int_ny (a n x : Nat → Int) (w : World) (ha : ∀ i, i < 4 → 0 ≤ a i ∧ a i < 65536) (h3 : a 3 ≤ 32768) (hn : ∀ i, i < 4 → -9223372036854775808 ≤ n i ∧ n i ≤ 0) (he : ∀ i, i < 4 → -(a i) = x i ∧ -65535 ≤ x i ∧ x i ≤ 0) (r3 : x 3 = n 3) (r2 : n 3 * 65536 + x 2 = n 2) (r1 : n 2 * 65536 + x 1 = n 1) (r0 : n 1 * 65536 + x 0 = n 0) :
    Calls Try.prog 28 #[.agg #[.int .i64 (a 0), .int .i64 (a 1), .int .i64 (a 2), .int .i64 (a 3), .int .i64 0, .int .i64 0, .int .i64 0, .int .i64 0, .int .i64 0, .int .i64 0, .int .i64 0, .int .i64 0, .bool true]] w fun e w' => e = .returned (.tuple #[.int .i64 (n 0), .bool true]) ∧ Below w.heap.size w w' := by
  obtain ⟨l0, u0⟩ := ha 0 (by omega)
  obtain ⟨l1, u1⟩ := ha 1 (by omega)
  obtain ⟨l2, u2⟩ := ha 2 (by omega)
  obtain ⟨l3, u3⟩ := ha 3 (by omega)
  obtain ⟨xe0, xl0, xu0⟩ := he 0 (by omega)
  obtain ⟨xe1, xl1, xu1⟩ := he 1 (by omega)
  obtain ⟨xe2, xl2, xu2⟩ := he 2 (by omega)
  obtain ⟨xe3, xl3, xu3⟩ := he 3 (by omega)
  obtain ⟨nl0, nu0⟩ := hn 0 (by omega)
  obtain ⟨nl1, nu1⟩ := hn 1 (by omega)
  obtain ⟨nl2, nu2⟩ := hn 2 (by omega)
  obtain ⟨nl3, nu3⟩ := hn 3 (by omega)
  have x3 : -32768 ≤ n 3 := by omega
  clear ha hn he
  go_enter Try.func28, Try.ntmps28
  go_wp2
  refine wp_loop_rounds 9 ?_
  rw [rounds_succ]
  go_wp2
  rw [rounds_succ]
  go_wp2
  rw [rounds_succ]
  go_wp2
  rw [rounds_succ]
  go_wp2
  rw [rounds_succ]
  go_wp2
  rw [rounds_succ]
  go_wp2
  rw [rounds_succ]
  go_wp2
  rw [rounds_succ]
  go_wp2
  rw [rounds_succ]
  go_wp2
  refine wp_loop_rounds 5 ?_
  rw [rounds_succ]
  go_wp2
  rw [rounds_succ]
  go_wp2
  rw [rounds_succ]
  go_wp2
  rw [rounds_succ]
  go_wp2
  rw [rounds_succ]
  go_wp2
  go_ret2
  refine ⟨rfl, ?_⟩
  repeat (first | exact Below.refl _ _ | refine below_drewN ?_ _ | refine Below.alloc ?_ (by simp <;> omega) _)
set_option maxRecDepth 100000 in
set_option maxHeartbeats 1000000 in
theorem int_nn (a x : Nat → Int) (w : World) (ha : ∀ i, i < 4 → 0 ≤ a i ∧ a i < 65536) (h3 : 32768 < a 3) (he : ∀ i, i < 4 → -(a i) = x i ∧ -65535 ≤ x i ∧ x i ≤ 0) :
    Calls Try.prog 28 #[.agg #[.int .i64 (a 0), .int .i64 (a 1), .int .i64 (a 2), .int .i64 (a 3), .int .i64 0, .int .i64 0, .int .i64 0, .int .i64 0, .int .i64 0, .int .i64 0, .int .i64 0, .int .i64 0, .bool true]] w fun e w' => e = .returned (.tuple #[.int .i64 0, .bool false]) ∧ Below w.heap.size w w' := by
  obtain ⟨l0, u0⟩ := ha 0 (by omega)
  obtain ⟨l1, u1⟩ := ha 1 (by omega)
  obtain ⟨l2, u2⟩ := ha 2 (by omega)
  obtain ⟨l3, u3⟩ := ha 3 (by omega)
  obtain ⟨xe0, xl0, xu0⟩ := he 0 (by omega)
  obtain ⟨xe1, xl1, xu1⟩ := he 1 (by omega)
  obtain ⟨xe2, xl2, xu2⟩ := he 2 (by omega)
  obtain ⟨xe3, xl3, xu3⟩ := he 3 (by omega)
  have x3 : x 3 < -32768 := by omega
  clear ha he
  go_enter Try.func28, Try.ntmps28
  go_wp2
  refine wp_loop_rounds 9 ?_
  rw [rounds_succ]
  go_wp2
  rw [rounds_succ]
  go_wp2
  rw [rounds_succ]
  go_wp2
  rw [rounds_succ]
  go_wp2
  rw [rounds_succ]
  go_wp2
  rw [rounds_succ]
  go_wp2
  rw [rounds_succ]
  go_wp2
  rw [rounds_succ]
  go_wp2
  rw [rounds_succ]
  go_wp2
  refine wp_loop_rounds 5 ?_
  rw [rounds_succ]
  go_wp2
  go_ret2
  refine ⟨rfl, ?_⟩
  repeat (first | exact Below.refl _ _ | refine below_drewN ?_ _ | refine Below.alloc ?_ (by simp <;> omega) _)
set_option maxRecDepth 100000 in
set_option maxHeartbeats 1000000 in
theorem int_nf (a n x : Nat → Int) (m : Int) (w : World) (ha : ∀ i, i < 4 → 0 ≤ a i ∧ a i < 65536) (h3 : a 3 = 32768) (hn : ∀ i, 1 ≤ i → i < 4 → -9223372036854775808 ≤ n i ∧ n i ≤ 0) (he : ∀ i, i < 4 → -(a i) = x i ∧ -65535 ≤ x i ∧ x i ≤ 0) (r3 : x 3 = n 3) (r2 : n 3 * 65536 + x 2 = n 2) (r1 : n 2 * 65536 + x 1 = n 1) (hm : n 1 * 65536 = -9223372036854775808 ∧ x 0 < 0 ∧ m = n 1 * 65536 + x 0 + 18446744073709551616 ∨ n 1 * 65536 < -9223372036854775808 ∧ m = n 1 * 65536 + 18446744073709551616) :
    Calls Try.prog 28 #[.agg #[.int .i64 (a 0), .int .i64 (a 1), .int .i64 (a 2), .int .i64 (a 3), .int .i64 0, .int .i64 0, .int .i64 0, .int .i64 0, .int .i64 0, .int .i64 0, .int .i64 0, .int .i64 0, .bool true]] w fun e w' => e = .returned (.tuple #[.int .i64 0, .bool false]) ∧ Below w.heap.size w w' := by
  obtain ⟨l0, u0⟩ := ha 0 (by omega)
  obtain ⟨l1, u1⟩ := ha 1 (by omega)
  obtain ⟨l2, u2⟩ := ha 2 (by omega)
  obtain ⟨l3, u3⟩ := ha 3 (by omega)
  obtain ⟨xe0, xl0, xu0⟩ := he 0 (by omega)
  obtain ⟨xe1, xl1, xu1⟩ := he 1 (by omega)
  obtain ⟨xe2, xl2, xu2⟩ := he 2 (by omega)
  obtain ⟨xe3, xl3, xu3⟩ := he 3 (by omega)
  obtain ⟨nl1, nu1⟩ := hn 1 (by omega) (by omega)
  obtain ⟨nl2, nu2⟩ := hn 2 (by omega) (by omega)
  obtain ⟨nl3, nu3⟩ := hn 3 (by omega) (by omega)
  have x3 : -32768 ≤ n 3 := by omega
  have b1 : -281474976710656 ≤ n 1 := by omega
  clear ha hn he
  have hh := hide h3
  clear h3
  rcases hm with ⟨g1, g2, g3⟩ | ⟨g1, g3⟩
  · have g4 : wrap64 (n 1 * 65536 + x 0) = m := by unfold wrap64; omega
    have g5 : 0 < m := by omega
    have g6 : (m != 0) = true := by simp; omega
    have g7 : -9223372036854775808 ≤ n 1 * 65536 := by omega
    have g8 : n 1 * 65536 + x 0 < -9223372036854775808 := by omega
    clear g1 g2 g3 hh
    go_enter Try.func28, Try.ntmps28
    go_wp2
    refine wp_loop_rounds 9 ?_
    rw [rounds_succ]
    go_wp2
    rw [rounds_succ]
    go_wp2
    rw [rounds_succ]
    go_wp2
    rw [rounds_succ]
    go_wp2
    rw [rounds_succ]
    go_wp2
    rw [rounds_succ]
    go_wp2
    rw [rounds_succ]
    go_wp2
    rw [rounds_succ]
    go_wp2
    rw [rounds_succ]
    go_wp2
    refine wp_loop_rounds 5 ?_
    rw [rounds_succ]
    go_wp2
    rw [rounds_succ]
    go_wp2
    rw [rounds_succ]
    go_wp2
    rw [rounds_succ]
    go_wp2
    go_ret2
    refine ⟨rfl, ?_⟩
    repeat (first | exact Below.refl _ _ | refine below_drewN ?_ _ | refine Below.alloc ?_ (by simp <;> omega) _)
  · have g4 : wrap64 (n 1 * 65536) = m := by unfold wrap64; omega
    have g5 : 65536 < m := by omega
    have g5' : 0 < m + x 0 := by omega
    have g6 : (m + x 0 != 0) = true := by simp; omega
    have g8 : m ≤ 9223372036854775807 := by omega
    clear g1 g3 hh
    go_enter Try.func28, Try.ntmps28
    go_wp2
    refine wp_loop_rounds 9 ?_
    rw [rounds_succ]
    go_wp2
    rw [rounds_succ]
    go_wp2
    rw [rounds_succ]
    go_wp2
    rw [rounds_succ]
    go_wp2
    rw [rounds_succ]
    go_wp2
    rw [rounds_succ]
    go_wp2
    rw [rounds_succ]
    go_wp2
    rw [rounds_succ]
    go_wp2
    rw [rounds_succ]
    go_wp2
    refine wp_loop_rounds 5 ?_
    rw [rounds_succ]
    go_wp2
    rw [rounds_succ]
    go_wp2
    rw [rounds_succ]
    go_wp2
    rw [rounds_succ]
    go_wp2
    go_ret2
    refine ⟨rfl, ?_⟩
    repeat (first | exact Below.refl _ _ | refine below_drewN ?_ _ | refine Below.alloc ?_ (by simp <;> omega) _)
end Go.Proofs.Ytobjmngfikmdhaa
