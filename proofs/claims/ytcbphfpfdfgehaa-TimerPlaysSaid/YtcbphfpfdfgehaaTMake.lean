/-
  make([]int, n). No conditions but that n is small.
-/
import Derived.Test.YtcbphfpfdfgehaaKBase
import Derived.Laws.MakeOwn
namespace Go.Proofs.Ytcbphfpfdfgehaa
open Go.ChangeShapes Go.WideShapes Go.ChangeAt Go.RowKit

theorem mk_ints (w : World) (N : Nat) (hN : N ≤ 100000) : ∃ W', (Instr.makeSlice 36 (.int .i64 (N : Int)) (.int .i64 (N : Int))).run Try.prog w = .ok (.slice (some ⟨w.heap.size, 0, none⟩) N N) W' ∧ WRow W' 3 1 (.slice (some ⟨w.heap.size, 0, none⟩) N N) N (icells (List.replicate N 0)) ∧ Turn NoBlock w W' ∧ w.heap.size < W'.heap.size := by
  obtain ⟨i5, hi5, hz5, hs5, hb5⟩ := info_parts infoI
  obtain ⟨W1, hm1, ho1, hg1⟩ := run_make_full (P := Try.prog) w 0 36 3 i5 _ 1 intsT hi5 hz5 hs5 .i64 .i64 N (by rw [hb5]; omega) (by unfold maxLen; omega) (Nat.zero_le _)
  have e : (madeCells (Value.int .i64 0).cells (N * 1)).toList = icells (List.replicate N 0) := by
    show (madeCells #[Value.int .i64 0] (N * 1)).toList = _
    rw [toList_madeCells_one, Nat.mul_one]
    simp [icells]
  rw [e] at ho1
  have hr := WRow.of_own ho1
  exact ⟨W1, hm1, hr, turn_grown hg1, hr.lt (k := w.heap.size) rfl⟩
end Go.Proofs.Ytcbphfpfdfgehaa
