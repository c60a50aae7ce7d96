/-
  The statements' own 'awake' answers true, and turns nothing that was there.
-/
import Derived.Test.YtfpmbbplgdkogaaFree
import Derived.Test.YtfpmbbplgdkogaaCalls2
namespace Go.Proofs.Ytfpmbbplgdkogaa
open Go.ChangeShapes Go.WideShapes Go.ChangeAt Go.RowKit

theorem awake_any (w : World) :
    Calls Try.prog 10 #[] w fun e w' => e = .returned (.bool true) ∧ Turn NoBlock w w' := by
  have c1 : Calls Try.prog 9 #[.int .i64 2] w _ := inew_yes 2 w (by decide)
  have c2 := fun w a F (h : iArena w a F ⟨2, [], []⟩) => ialloc_some 5 w a F ⟨2, [], []⟩ ⟨2, [⟨1, true, .int .i64 5⟩], []⟩ 65536 h rfl
  have c3 := fun w a F (h : iArena w a F ⟨2, [⟨1, true, .int .i64 5⟩], []⟩) => iget_some w a F ⟨2, [⟨1, true, .int .i64 5⟩], []⟩ 65536 0 ⟨1, true, .int .i64 5⟩ 5 h (by decide) rfl rfl rfl
  have c4 : ∀ w a F, iArena w a F ⟨2, [⟨1, true, .int .i64 5⟩], []⟩ → Calls Try.prog 19 #[.pointer (some ⟨a, 0, none⟩)] w fun e w' => e = .returned (.int .i64 1) ∧ w' = w := fun w a F h => icount_any w a F ⟨2, [⟨1, true, .int .i64 5⟩], []⟩ h
  go_enter Try.func10, Try.ntmps10
  go_wp2_with (first
    | (go_at_call 9; (with_reducible refine c1.mono ?_); rintro e w1 ⟨rfl, F1, A1, T1, L1⟩; have A1' : Hid (iArena w1 w.heap.size F1 ⟨2, [], []⟩) := A1; have T1' : Hid (Turn NoBlock w w1) := T1; have L1' : Hid (∀ k, F1 k → w.heap.size ≤ k) := L1; clear A1 T1 L1)
    | (go_at_call 11; (with_reducible refine (c2 _ _ _ (Hid.out A1')).mono ?_); rintro e w2 ⟨rfl, F2, A2, T2, L2⟩; have A2' : Hid (iArena w2 w.heap.size F2 ⟨2, [⟨1, true, .int .i64 5⟩], []⟩) := A2; have T2' : Hid (Turn F1 w1 w2) := T2; have L2' : Hid (∀ k, F2 k → F1 k ∨ w1.heap.size ≤ k) := L2; clear A2 T2 L2)
    | (go_at_call 17; (with_reducible refine (c3 _ _ _ (Hid.out A2')).mono ?_); rintro e w3 ⟨rfl, nn, rfl⟩)
    | (go_at_call 19; (with_reducible refine (c4 _ _ _ ((Hid.out A2').drewN nn)).mono ?_); rintro e w4 ⟨rfl, rfl⟩))
  go_ret
  exact ⟨rfl, (T1'.out.trans T2'.out (fun k h => .inr (L1'.out k h))).drewN nn⟩

end Go.Proofs.Ytfpmbbplgdkogaa
