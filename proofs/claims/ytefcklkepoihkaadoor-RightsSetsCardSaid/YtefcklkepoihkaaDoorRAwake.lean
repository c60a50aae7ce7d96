/-
  The law's fixed answer: it is true where the table of default rights lies as it was laid. Condition: that table.
-/
import Derived.Test.YtefcklkepoihkaaDoorRText
namespace Go.Proofs.YtefcklkepoihkaaDoor
open Go.ChangeShapes Go.WideShapes Go.ChangeAt Go.RowKit

theorem lt_of_cell {w : World} {a : Addr} {v : Value} (h : w.cell? a = some v) : a.block < w.heap.size := by
  rcases Nat.lt_or_ge a.block w.heap.size with h' | h'
  · exact h'
  · simp [World.cell?, Array.getElem?_eq_none h'] at h
theorem Defs.below {w w' : World} (h : Defs w) (hb : Below w.heap.size w w') : Defs w' := fun k hk => by
  rw [hb.cell (p := ⟨0, k, none⟩) (lt_of_cell (h k hk))]; exact h k hk
theorem Names.below {w w' : World} (h : Names w) (hb : Below w.heap.size w w') : Names w' := fun k hk => by
  rw [hb.cell (p := ⟨1, k, none⟩) (lt_of_cell (h k hk))]; exact h k hk
theorem awake_any (w : World) (hd : Defs w) :
    Calls Tryd.prog 14 #[] w fun e w' => e = .returned (.bool true) ∧ Below w.heap.size w w' := by
  have c1 : Calls Tryd.prog 22 #[.int .i64 15, .int .i64 4] w fun e w' => e = .returned (.tuple #[.int .i64 4, .int .i64 0]) ∧ w = w' :=
    (reduce_any 15 4 w).mono fun _ _ h => ⟨h.1.trans (ret_two (by decide +kernel) (by decide +kernel)), h.2⟩
  have c2 : Calls Tryd.prog 9 #[.int .i64 7] w fun e w' => e = .returned (.int .i64 211) ∧ w = w' :=
    (default_in 7 w (by decide) (by decide) hd).mono fun _ _ h => ⟨h.1.trans (ret_int (by decide +kernel)), h.2⟩
  have c3 : Calls Tryd.prog 23 #[.int .i64 5] w fun e w' => e = .returned (.string ⟨#[68, 82]⟩) ∧ Below w.heap.size w w' :=
    (text_any 5 w).mono fun _ _ h => ⟨h.1.trans (congrArg (fun l : List UInt8 => Ending.returned (.string ⟨l.toArray⟩)) (show textL (low 5) = [68, 82] by decide +kernel)), h.2⟩
  clear hd
  go_enter Tryd.func14, Tryd.ntmps14
  go_wp2_with (first | (go_at_call 22; (with_reducible refine c1.mono ?_); rintro e w' ⟨rfl, rfl⟩) | (go_at_call 9; (with_reducible refine c2.mono ?_); rintro e w' ⟨rfl, rfl⟩) | (go_at_call 23; (with_reducible refine c3.mono ?_); rintro e w' ⟨rfl, hb⟩))
  go_ret
  exact ⟨rfl, hb⟩
end Go.Proofs.YtefcklkepoihkaaDoor
