/-
  What Slot and Generation answer. No conditions but that the argument is a number of 64 bits.
-/
import Derived.Test.YtfpmbbplgdkogaaRows
import Derived.Test.YtfpmbbplgdkogaaHeap
namespace Go.Proofs.Ytfpmbbplgdkogaa
open Go.ChangeShapes Go.WideShapes Go.ChangeAt Go.RowKit

/-- The same, the old world's name kept. -/
theorem same {P : Program} {f : FuncId} {args : Array Value} {w : World} {e0 : Ending} (h : Calls P f args w fun e w' => e = e0 ∧ w' = w) : Calls P f args w fun e w' => e = e0 ∧ w = w' :=
  h.mono fun _ _ hh => ⟨hh.1, hh.2.symm⟩

theorem slot_no (n : Int) (w : World) (h : n < 0) :
    Calls Try.prog 24 #[.int .i64 n] w fun e w' => e = .returned (.int .i64 (-1)) ∧ w' = w := by
  go_enter Try.func24, Try.ntmps24
  go_wp2
  go_ret
  exact ⟨rfl, rfl⟩
theorem slot_yes (n : Int) (w : World) (h : 0 ≤ n) (h' : n ≤ 9223372036854775807) :
    Calls Try.prog 24 #[.int .i64 n] w fun e w' => e = .returned (.int .i64 (n % 65536)) ∧ w' = w := by
  have hm : n.tmod 65536 = n % 65536 := by rw [Int.tmod_eq_emod_of_nonneg h]
  have h1 := Int.emod_nonneg n (b := 65536) (by decide)
  have h2 := Int.emod_lt_of_pos n (b := 65536) (by decide)
  go_enter Try.func24, Try.ntmps24
  go_wp2
  go_ret
  exact ⟨rfl, rfl⟩
theorem gen_no (n : Int) (w : World) (h : n < 0) :
    Calls Try.prog 25 #[.int .i64 n] w fun e w' => e = .returned (.int .i64 (-1)) ∧ w' = w := by
  go_enter Try.func25, Try.ntmps25
  go_wp2
  go_ret
  exact ⟨rfl, rfl⟩
theorem gen_yes (n : Int) (w : World) (h : 0 ≤ n) (h' : n ≤ 9223372036854775807) :
    Calls Try.prog 25 #[.int .i64 n] w fun e w' => e = .returned (.int .i64 (n / 65536)) ∧ w' = w := by
  have hm : n.tdiv 65536 = n / 65536 := by rw [Int.tdiv_eq_ediv_of_nonneg h]
  have h1 := Int.ediv_nonneg (a := n) (b := 65536) h (by decide)
  have h2 : n / 65536 ≤ 9223372036854775807 := by omega
  go_enter Try.func25, Try.ntmps25
  go_wp2
  go_ret
  exact ⟨rfl, rfl⟩

end Go.Proofs.Ytfpmbbplgdkogaa
