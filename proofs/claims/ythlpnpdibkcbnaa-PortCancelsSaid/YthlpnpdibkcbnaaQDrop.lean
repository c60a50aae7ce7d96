/-
  drop in a law's state, and the functions that are handed to it. No conditions but that the object is a number of 64 bits.
-/
import Derived.Test.YthlpnpdibkcbnaaQWatch
namespace Go.Proofs.Ythlpnpdibkcbnaa
open Go.ChangeShapes Go.WideShapes Go.ChangeAt Go.RowKit

/-- A mask meets what is shown. -/
def meetB (m s : Int) : Bool := bits .and .i64 m s != 0
theorem meets_any (a b : Int) (w : World) :
    Calls Try.prog 31 #[.int .i64 a, .int .i64 b] w fun e w' => e = .returned (.int .i64 (bits .and .i64 a b)) ∧ w = w' := by
  go_enter Try.func31, Try.ntmps31
  go_wp2
  go_ret
  exact ⟨rfl, rfl⟩
theorem clos_tell (w : World) (t : Wc) (B : Nat) (s : Int) (hB : w.cell? ⟨B, 0, none⟩ = some (.int .i64 s)) :
    Calls Try.prog 30 (#[t.agg] ++ #[.pointer (some ⟨B, 0, none⟩)]) w fun e w' => e = .returned (.bool (meetB t.m s)) ∧ Turn NoBlock w w' := by
  obtain ⟨o, a, b⟩ := t
  have hl := World.block_lt_of_cell? w _ hB
  simp only at hl
  have hB' := ((Turn.refl NoBlock w).alloc (.cells #[.int .i64 a, .int .i64 b] 66)).cell hB (fun h => h)
  show Calls Try.prog 30 #[.agg #[.int .i64 a, .int .i64 b], .pointer (some ⟨B, 0, none⟩)] w _
  dsimp only
  go_enter Try.func30, Try.ntmps30
  go_wp2_with (go_at_call 31; (with_reducible refine (meets_any _ _ _).mono ?_); rintro e w2 ⟨rfl, rfl⟩)
  go_ret
  exact ⟨rfl, (Turn.refl _ w).alloc _⟩
theorem clos_cancel (w : World) (t : Wc) (B : Nat) (k : Int) (hB : w.cell? ⟨B, 0, none⟩ = some (.int .i64 k)) :
    Calls Try.prog 33 (#[t.agg] ++ #[.pointer (some ⟨B, 0, none⟩)]) w fun e w' => e = .returned (.bool (t.k == k)) ∧ Turn NoBlock w w' := by
  obtain ⟨o, a, b⟩ := t
  have hl := World.block_lt_of_cell? w _ hB
  simp only at hl
  have hB' := ((Turn.refl NoBlock w).alloc (.cells #[.int .i64 a, .int .i64 b] 66)).cell hB (fun h => h)
  show Calls Try.prog 33 #[.agg #[.int .i64 a, .int .i64 b], .pointer (some ⟨B, 0, none⟩)] w _
  dsimp only
  go_enter Try.func33, Try.ntmps33
  go_wp2
  go_ret
  exact ⟨rfl, (Turn.refl _ w).alloc _⟩
theorem clos_forget (w : World) (t : Wc) :
    Calls Try.prog 35 (#[t.agg] ++ #[]) w fun e w' => e = .returned (.bool true) ∧ Turn NoBlock w w' := by
  obtain ⟨o, a, b⟩ := t
  show Calls Try.prog 35 #[.agg #[.int .i64 a, .int .i64 b]] w _
  go_enter Try.func35, Try.ntmps35
  go_wp2
  go_ret
  exact ⟨rfl, (Turn.refl _ w).alloc _⟩
theorem clos_back (w : World) (t : Pk) (A B : Nat) (s k : Int) (hA : w.cell? ⟨A, 0, none⟩ = some (.int .i64 s)) (hB : w.cell? ⟨B, 0, none⟩ = some (.int .i64 k)) :
    Calls Try.prog 39 (#[t.agg] ++ #[.pointer (some ⟨A, 0, none⟩), .pointer (some ⟨B, 0, none⟩)]) w fun e w' => e = .returned (.bool (t.s == s && t.k == k)) ∧ Turn NoBlock w w' := by
  obtain ⟨a, b, d⟩ := t
  have hl := World.block_lt_of_cell? w _ hB
  have hl2 := World.block_lt_of_cell? w _ hA
  simp only at hl hl2
  have hA' := ((Turn.refl NoBlock w).alloc (.cells #[.int .i64 a, .int .i64 b, .int .i64 d] 37)).cell hA (fun h => h)
  have hB' := ((Turn.refl NoBlock w).alloc (.cells #[.int .i64 a, .int .i64 b, .int .i64 d] 37)).cell hB (fun h => h)
  show Calls Try.prog 39 #[.agg #[.int .i64 a, .int .i64 b, .int .i64 d], .pointer (some ⟨A, 0, none⟩), .pointer (some ⟨B, 0, none⟩)] w _
  dsimp only
  cases hq : (b == s) with
  | true =>
    go_enter Try.func39, Try.ntmps39
    go_wp2
    go_ret
    exact ⟨by simp, (Turn.refl _ w).alloc _⟩
  | false =>
    go_enter Try.func39, Try.ntmps39
    go_wp2
    go_ret
    exact ⟨by simp, (Turn.refl _ w).alloc _⟩
end Go.Proofs.Ythlpnpdibkcbnaa
