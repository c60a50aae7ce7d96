/-
  Contracts of the document's answers for the signals of a type, and of those that users may change; the law's fixed answer. Conditions: none.
-/
import Derived.Test.YtlecnhegfacfcaaSRtext
import Derived.Test.YtlecnhegfacfcaaSParse
namespace Go.Proofs.Ytlecnhegfacfcaa
open Go.ChangeShapes Go.WideShapes Go.ChangeAt Go.RowKit

/-- The names of a type's signals, and of those that users may change. -/
def ofL (k : Nat) : List UInt8 := ([[], [116], [116], [116], [114, 119, 112], [114, 119, 112], [114, 119, 112], [115], [115, 112], [114], [115], [122]].getD k []) ++ [48, 49, 50, 51, 52, 53, 54, 55]
def ofS (k : Int) : List UInt8 := if 1 ≤ k ∧ k ≤ 11 then ofL k.toNat else []
def mineS (k : Int) : List UInt8 := if k = 9 then [] else if k = 7 ∨ k = 8 then [115, 48, 49, 50, 51, 52, 53, 54, 55] else if 1 ≤ k ∧ k ≤ 11 then [48, 49, 50, 51, 52, 53, 54, 55] else []
theorem kinds_all {p : Int → Prop} (h : ∀ n : Nat, n < 12 → 1 ≤ n → p n) (k : Int) (hk : 1 ≤ k ∧ k ≤ 11) : p k := by
  have := h k.toNat (by omega) (by omega)
  rwa [show ((k.toNat : Nat) : Int) = k by omega] at this
theorem of_sum (k : Int) : ((sumTo (ofS k) 16 : Nat) : Int) = ofV k := by
  by_cases hk : 1 ≤ k ∧ k ≤ 11
  · revert k
    intro k hk
    refine kinds_all (p := fun k => ((sumTo (ofS k) 16 : Nat) : Int) = ofV k) ?_ k hk
    decide +kernel
  · have e1 : ofS k = [] := by unfold ofS; rw [if_neg hk]
    have e2 : ofV k = 0 := by unfold ofV; repeat' (rw [if_neg (by omega)])
    rw [e1, e2]; decide +kernel
theorem mine_sum (k : Int) : ((sumTo (mineS k) 16 : Nat) : Int) = mineV k := by
  by_cases hk : 1 ≤ k ∧ k ≤ 11
  · revert k
    intro k hk
    refine kinds_all (p := fun k => ((sumTo (mineS k) 16 : Nat) : Int) = mineV k) ?_ k hk
    decide +kernel
  · have e1 : mineS k = [] := by unfold mineS; rw [if_neg (by omega), if_neg (by omega), if_neg hk]
    have e2 : mineV k = 0 := by unfold mineV; rw [if_neg (by omega), if_neg (by omega), if_neg hk]
    rw [e1, e2]; decide +kernel
theorem ofS_len (k : Int) : (ofS k).length ≤ 500 := by
  by_cases hk : 1 ≤ k ∧ k ≤ 11
  · refine kinds_all (p := fun k => (ofS k).length ≤ 500) ?_ k hk
    decide +kernel
  · unfold ofS; rw [if_neg hk]; decide
theorem mineS_len (k : Int) : (mineS k).length ≤ 500 := by
  by_cases hk : 1 ≤ k ∧ k ≤ 11
  · refine kinds_all (p := fun k => (mineS k).length ≤ 500) ?_ k hk
    decide +kernel
  · unfold mineS; rw [if_neg (by omega), if_neg (by omega), if_neg hk]; decide
theorem size_toArray (l : List UInt8) : (ByteArray.mk l.toArray).size = l.length := by simp [ByteArray.size]

theorem rmine_any (k : Int) (w : World) :
    Calls Try.prog 13 #[.int .i64 k] w fun e w' => e = .returned (.string ⟨(mineS k).toArray⟩) ∧ w = w' := by
  by_cases hk : 1 ≤ k ∧ k ≤ 11
  · have hb : k = 1 ∨ k = 2 ∨ k = 3 ∨ k = 4 ∨ k = 5 ∨ k = 6 ∨ k = 7 ∨ k = 8 ∨ k = 9 ∨ k = 10 ∨ k = 11 := by omega
    clear hk
    rcases hb with rfl | rfl | rfl | rfl | rfl | rfl | rfl | rfl | rfl | rfl | rfl
    all_goals
      go_enter Try.func13, Try.ntmps13
      go_wp2
      go_ret
      exact ⟨rfl, rfl⟩
  · have H := Lib.hid (show mineS k = [] by unfold mineS; rw [if_neg (by omega), if_neg (by omega), if_neg hk])
    have h : k < 1 ∨ (¬ k < 1 ∧ 11 < k) := by omega
    clear hk
    rcases h with h | ⟨h1, h2⟩
    all_goals
      go_enter Try.func13, Try.ntmps13
      go_wp2
      go_ret
      exact ⟨ret_str (by rw [H.out]), rfl⟩
set_option maxHeartbeats 8000000 in
set_option maxRecDepth 20000 in
theorem rof_any (k : Int) (w : World) :
    Calls Try.prog 11 #[.int .i64 k] w fun e w' => e = .returned (.string ⟨(ofS k).toArray⟩) ∧ Below w.heap.size w w' := by
  by_cases hk : 1 ≤ k ∧ k ≤ 11
  · have hb : k = 1 ∨ k = 2 ∨ k = 3 ∨ k = 4 ∨ k = 5 ∨ k = 6 ∨ k = 7 ∨ k = 8 ∨ k = 9 ∨ k = 10 ∨ k = 11 := by omega
    clear hk
    rcases hb with rfl | rfl | rfl | rfl | rfl | rfl | rfl | rfl | rfl | rfl | rfl
    all_goals
      go_enter Try.func11, Try.ntmps11
      go_wp2
      go_ret
      exact ⟨rfl, (Below.refl _ _).alloc (Nat.le_refl _) _⟩
  · have H := Lib.hid (show ofS k = [] by unfold ofS; rw [if_neg hk])
    have h : k < 1 ∨ (¬ k < 1 ∧ 11 < k) := by omega
    clear hk
    rcases h with h | ⟨h1, h2⟩
    all_goals
      go_enter Try.func11, Try.ntmps11
      go_wp2
      go_ret
      exact ⟨ret_str (by rw [H.out]), (Below.refl _ _).alloc (Nat.le_refl _) _⟩
theorem awake_any (w : World) :
    Calls Try.prog 16 #[] w fun e w' => e = .returned (.bool true) ∧ Below w.heap.size w w' := by
  have c1 : Calls Try.prog 17 #[.int .i64 0, .int .i64 7, .int .i64 0, .int .i64 8] w fun e w' => e = .returned (.tuple #[.int .i64 8, .int .i64 0]) ∧ w = w' :=
    (change_any 0 7 0 8 w).mono fun _ _ h => ⟨h.1.trans (ret_two (by decide +kernel) (by decide +kernel)), h.2⟩
  have c2 : ∀ w, Calls Try.prog 14 #[.int .i64 4] w fun e w' => e = .returned (.int .i64 2) ∧ w = w' := fun w =>
    (first_any 4 w).mono fun _ _ h => ⟨h.1.trans (ret_int (by decide +kernel)), h.2⟩
  have c3 : Calls Try.prog 23 #[.int .i64 259] w fun e w' => e = .returned (.string ⟨#[114, 119, 48]⟩) ∧ Below w.heap.size w w' :=
    (text_any 259 w).mono fun _ _ h => ⟨h.1.trans (congrArg (fun l : List UInt8 => Ending.returned (.string ⟨l.toArray⟩)) (show textL (bitsOf 259) = [114, 119, 48] by decide +kernel)), h.2⟩
  go_enter Try.func16, Try.ntmps16
  go_wp2_with (first | (go_at_call 17; (with_reducible refine c1.mono ?_); rintro e w' ⟨rfl, rfl⟩) | (go_at_call 14; (with_reducible refine (c2 _).mono ?_); rintro e w' ⟨rfl, rfl⟩) | (go_at_call 23; (with_reducible refine c3.mono ?_); rintro e w' ⟨rfl, hb⟩))
  go_ret
  exact ⟨rfl, hb⟩
theorem awake_at (w : World) (W : World) (hb : Below w.heap.size w W) :
    Calls Try.prog 16 #[] W fun e w' => e = .returned (.bool true) ∧ Below w.heap.size w w' :=
  (awake_any W).mono fun _ _ h => ⟨h.1, hb.trans (h.2.mono hb.size)⟩
theorem lift {P : Program} {f : FuncId} {args : Array Value} {w W : World} {v : Value} (hb : Below w.heap.size w W)
    (h : Calls P f args W fun e w' => e = .returned v ∧ Below W.heap.size W w') : Calls P f args W fun e w' => e = .returned v ∧ Below w.heap.size w w' :=
  h.mono fun _ _ g => ⟨g.1, hb.trans (g.2.mono hb.size)⟩
end Go.Proofs.Ytlecnhegfacfcaa
