/-
  The law's own test that the program is awake. No conditions.
-/
import Derived.Test.YtacdhlhkpdlekaaHAdd
namespace Go.Proofs.Ytacdhlhkpdlekaa
open Go.ChangeShapes Go.WideShapes Go.ChangeAt Go.RowKit

theorem awk1 {w : World} {a : Nat} {F : Nat → Prop} (h : TableAt w a F (List.replicate 1 Pl.none)) :
    Calls Try.prog 22 #[.pointer (some ⟨a, 0, none⟩), .agg #[.int .i64 7, .int .i64 7, .int .i64 5], .int .i64 0] w fun x w' => x = .returned (.tuple #[.int .i64 3, .int .i64 0]) ∧
      ∃ F', TableAt w' a F' [⟨3, 7, 7, 5⟩] ∧ Turn F w w' ∧ ∀ j, F' j → F j ∨ w.heap.size ≤ j := add_any h ⟨7, 7, 5⟩ 0
theorem awk2 {w : World} {a : Nat} {F : Nat → Prop} (h : TableAt w a F [⟨3, 7, 7, 5⟩]) :
    Calls Try.prog 22 #[.pointer (some ⟨a, 0, none⟩), .agg #[.int .i64 0, .int .i64 0, .int .i64 0], .int .i64 0] w fun x w' => x = .returned (.tuple #[.int .i64 0, .int .i64 (-4)]) ∧
      ∃ F', TableAt w' a F' [⟨3, 7, 7, 5⟩] ∧ Turn F w w' ∧ ∀ j, F' j → F j ∨ w.heap.size ≤ j := add_any h ⟨0, 0, 0⟩ 0

set_option maxHeartbeats 1000000 in
theorem awake_at (w : World) : Calls Try.prog 10 #[] w fun e w' => e = .returned (.bool true) ∧ Turn NoBlock w w' := by
  have c1 : Calls Try.prog 9 #[.int .i64 1] w _ := new_yes 1 w (by omega)
  have c2 : ∀ w, Calls Try.prog 19 #[.int .i64 2, .int .i64 5] w fun e w' => e = .returned (.int .i64 5242891) ∧ w = w' := fun w => value_yes 2 5 w (by omega)
  go_enter Try.func10, Try.ntmps10
  go_wp2_with (first
    | (go_at_call 9; (with_reducible refine c1.mono ?_); rintro x w1 ⟨rfl, F1, h1, t1, l1⟩; have K1 := Lib.hid (And.intro h1 (And.intro t1 l1)); clear h1 t1 l1)
    | (go_at_call 22; (with_reducible refine (awk1 K1.out.1).mono ?_); rintro x w2 ⟨rfl, F2, h2, t2, l2⟩; have K2 := Lib.hid (And.intro h2 (And.intro t2 l2)); clear h2 t2 l2)
    | (go_at_call 22; (with_reducible refine (awk2 K2.out.1).mono ?_); rintro x w3 ⟨rfl, F3, h3, t3, l3⟩; have K3 := Lib.hid (And.intro h3 (And.intro t3 l3)); clear h3 t3 l3)
    | (go_at_call 19; (with_reducible refine (c2 _).mono ?_); rintro x w4 ⟨rfl, rfl⟩))
  go_ret
  obtain ⟨h1, t1, l1⟩ := K1.out
  obtain ⟨h2, t2, l2⟩ := K2.out
  obtain ⟨h3, t3, l3⟩ := K3.out
  have s1 := t1.size
  exact ⟨rfl, (t1.trans t2 (fun j hj => .inr (l1 j hj))).trans t3 (fun j hj => by
    rcases l2 j hj with h | h
    · exact .inr (l1 j h)
    · right; omega)⟩
/-- The same behind anything. -/
theorem awake_b {w0 w : World} (h : Turn NoBlock w0 w) : Calls Try.prog 10 #[] w fun e w' => e = .returned (.bool true) ∧ Turn NoBlock w0 w' :=
  (awake_at w).mono fun _ _ hh => ⟨hh.1, h.trans hh.2 (fun _ h => .inl h)⟩
end Go.Proofs.Ytacdhlhkpdlekaa
