/-
  The statements' own 'awake' answers true, and turns nothing that was there.
-/
import Derived.Test.YtpfoleaampcibaaCalls1
import Derived.Test.YtpfoleaampcibaaNew
namespace Go.Proofs.Ytpfoleaampcibaa
open Go.ChangeShapes Go.WideShapes Go.ChangeAt Go.RowKit

def awL1 : Nat → List Nat := pushL 8 1 (fun _ => []) 0 4
def awL2 : Nat → List Nat := frontL 8 1 awL1 0 7

theorem awake_any (w : World) :
    Calls Try.prog 9 #[] w fun e w' => e = .returned (.bool true) ∧ Turn NoBlock w w' := by
  have c1 : Calls Try.prog 8 #[.int .i64 1, .int .i64 8] w _ := new_yes 1 8 w (by decide) (by decide)
  have c2 : ∀ w a F, ListsAt w a F 8 1 (fun _ => []) → Calls Try.prog 10 #[.pointer (some ⟨a, 0, none⟩), .int .i64 0, .int .i64 4] w fun e w' => e = .returned (.int .i64 0) ∧ ListsAt w' a F 8 1 awL1 ∧ Turn F w w' := fun w a F h => push_any w a F 8 1 _ 0 4 h
  have c3 : ∀ w a F, ListsAt w a F 8 1 awL1 → Calls Try.prog 12 #[.pointer (some ⟨a, 0, none⟩), .int .i64 0, .int .i64 7] w fun e w' => e = .returned (.int .i64 0) ∧ ListsAt w' a F 8 1 awL2 ∧ Turn F w w' := fun w a F h => front_any w a F 8 1 _ 0 7 h
  have c4 : ∀ w a F, ListsAt w a F 8 1 awL2 → Calls Try.prog 22 #[.pointer (some ⟨a, 0, none⟩), .int .i64 0] w fun e w' => e = .returned (.int .i64 2) ∧ w = w' := fun w a F h => len_any w a F 8 1 _ 0 h
  have c5 : ∀ w a F, ListsAt w a F 8 1 awL2 → Calls Try.prog 23 #[.pointer (some ⟨a, 0, none⟩), .int .i64 0] w fun e w' => e = .returned (.int .i64 7) ∧ ∃ d, w' = w.drewN d := fun w a F h => first_any w a F 8 1 _ 0 h
  have c6 : ∀ w a F, ListsAt w a F 8 1 awL2 → Calls Try.prog 21 #[.pointer (some ⟨a, 0, none⟩), .int .i64 4] w fun e w' => e = .returned (.int .i64 0) ∧ w = w' := fun w a F h => where_any w a F 8 1 _ 4 h
  go_enter Try.func9, Try.ntmps9
  go_wp2_with (first
    | (go_at_call 8; (with_reducible refine c1.mono ?_); rintro e w1 ⟨a, F, rfl, A1, T1, L1⟩; have A1' : Hid (ListsAt w1 a F 8 1 (fun _ => [])) := A1; have T1' : Hid (Turn NoBlock w w1) := T1; have L1' : Hid (∀ k, F k → w.heap.size ≤ k) := L1; clear A1 T1 L1)
    | (go_at_call 10; (with_reducible refine (c2 _ _ _ (Hid.out A1')).mono ?_); rintro e w2 ⟨rfl, A2, T2⟩; have A2' : Hid (ListsAt w2 a F 8 1 awL1) := A2; have T2' : Hid (Turn F w1 w2) := T2; clear A2 T2)
    | (go_at_call 12; (with_reducible refine (c3 _ _ _ (Hid.out A2')).mono ?_); rintro e w3 ⟨rfl, A3, T3⟩; have A3' : Hid (ListsAt w3 a F 8 1 awL2) := A3; have T3' : Hid (Turn F w2 w3) := T3; clear A3 T3)
    | (go_at_call 22; (with_reducible refine (c4 _ _ _ (Hid.out A3')).mono ?_); rintro e w4 ⟨rfl, rfl⟩)
    | (go_at_call 23; (with_reducible refine (c5 _ _ _ (Hid.out A3')).mono ?_); rintro e w5 ⟨rfl, d, rfl⟩)
    | (go_at_call 21; (with_reducible refine (c6 _ _ _ ((Hid.out A3').drewN d)).mono ?_); rintro e w6 ⟨rfl, rfl⟩))
  go_ret
  exact ⟨rfl, (T1'.out.trans ((T2'.out.then T3'.out).drewN d) (fun k h => .inr (L1'.out k h)))⟩

end Go.Proofs.Ytpfoleaampcibaa
