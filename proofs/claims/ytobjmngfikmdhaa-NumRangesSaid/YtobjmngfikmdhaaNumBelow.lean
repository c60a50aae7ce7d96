/-
  Arrays of twelve digits held against zeros: what the comparison answers.
-/
import Derived.Test.YtobjmngfikmdhaaNumCalls
import Derived.Test.YtobjmngfikmdhaaNumTold
import Derived.Deep.QuietTactic
import Derived.BigQuiet
import Derived.Deep.RegionHeld3
import Derived.Deep.DeepCutAuto
import Derived.ChangeKeysEq
namespace Go.Proofs.Ytobjmngfikmdhaa
open Go.ChangeShapes Go.WideShapes Go.ChangeAt Go.RowKit

theorem cells3' : Try.prog.cellsOf 3 = 1 := by kernel_rfl
theorem info3 : ∃ i, Try.prog.info? 3 = some i := Option.isSome_iff_exists.1 (by kernel_rfl)
theorem run_items (xs ys : Array Value) (w : World) : (Op.equalIn 10000 22 (.agg xs) (.agg ys)).run Try.prog w = (Op.eqItems 9999 3 1 xs ys [0, 1, 2, 3, 4, 5, 6, 7, 8, 9, 10, 11]).run Try.prog w := by
  obtain ⟨i, hi⟩ := info3
  rw [run_equalIn_array w 9999 xs ys Try.underlying22 hi, cells3']
  rfl
theorem cmp_zero (r : Nat → Int) (w : World) (h : r 0 = 0 ∧ r 1 = 0 ∧ r 2 = 0 ∧ r 3 = 0 ∧ r 4 = 0) :
    (Op.equalIn 10000 22 (.agg #[.int .i64 (r 0), .int .i64 (r 1), .int .i64 (r 2), .int .i64 (r 3), .int .i64 (r 4), .int .i64 0, .int .i64 0, .int .i64 0, .int .i64 0, .int .i64 0, .int .i64 0, .int .i64 0]) (.agg #[.int .i64 0, .int .i64 0, .int .i64 0, .int .i64 0, .int .i64 0, .int .i64 0, .int .i64 0, .int .i64 0, .int .i64 0, .int .i64 0, .int .i64 0, .int .i64 0])).run Try.prog w = .ok true w := by
  obtain ⟨h0, h1, h2, h3, h4⟩ := h
  rw [run_items, h0, h1, h2, h3, h4]
  simp only [Op.eqItems]
  go_simp
theorem cmp_other (r : Nat → Int) (w : World) (h : ¬ (r 0 = 0 ∧ r 1 = 0 ∧ r 2 = 0 ∧ r 3 = 0 ∧ r 4 = 0)) :
    (Op.equalIn 10000 22 (.agg #[.int .i64 (r 0), .int .i64 (r 1), .int .i64 (r 2), .int .i64 (r 3), .int .i64 (r 4), .int .i64 0, .int .i64 0, .int .i64 0, .int .i64 0, .int .i64 0, .int .i64 0, .int .i64 0]) (.agg #[.int .i64 0, .int .i64 0, .int .i64 0, .int .i64 0, .int .i64 0, .int .i64 0, .int .i64 0, .int .i64 0, .int .i64 0, .int .i64 0, .int .i64 0, .int .i64 0])).run Try.prog w = .ok false w := by
  rw [run_items]
  simp only [Op.eqItems]
  by_cases h0 : r 0 = 0
  · by_cases h1 : r 1 = 0
    · by_cases h2 : r 2 = 0
      · by_cases h3 : r 3 = 0
        · have h4 : (r 4 == 0) = false := by simp; omega
          clear h
          go_simp
        · have h4 : (r 3 == 0) = false := by simp; omega
          clear h h3
          go_simp
      · have h4 : (r 2 == 0) = false := by simp; omega
        clear h h2
        go_simp
    · have h4 : (r 1 == 0) = false := by simp; omega
      clear h h1
      go_simp
  · have h4 : (r 0 == 0) = false := by simp; omega
    clear h h0
    go_simp
end Go.Proofs.Ytobjmngfikmdhaa
