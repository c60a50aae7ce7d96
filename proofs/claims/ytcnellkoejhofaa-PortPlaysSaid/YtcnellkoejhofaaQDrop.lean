/-
  drop in a law's state, and the functions that are handed to it. No conditions but that the object is a number of 64 bits.
-/
import Derived.Test.YtcnellkoejhofaaQWatch
namespace Go.Proofs.Ytcnellkoejhofaa
open Go.ChangeShapes Go.WideShapes Go.ChangeAt Go.RowKit

/-- A mask meets what is shown. -/
def meetB (m s : Int) : Bool := bits .and .i64 m s != 0
theorem meets_any (a b : Int) (w : World) :
    Calls Try.prog 31 #[.int .i64 a, .int .i64 b] w fun e w' => e = .returned (.int .i64 (bits .and .i64 a b)) ∧ w = w' := by
  go_enter Try.func31, Try.ntmps31
  go_wp2
  go_ret
  exact ⟨rfl, rfl⟩
theorem clos_tell (w : World) (t : Wc) (B : Nat) (s : Int) (hB : w.cell? ⟨B, 0, none⟩ = some (.int .i64 s)) :
    Calls Try.prog 30 (#[t.agg] ++ #[.pointer (some ⟨B, 0, none⟩)]) w fun e w' => e = .returned (.bool (meetB t.m s)) ∧ Turn NoBlock w w' := by
  obtain ⟨o, a, b⟩ := t
  have hl := World.block_lt_of_cell? w _ hB
  simp only at hl
  have hB' := ((Turn.refl NoBlock w).alloc (.cells #[.int .i64 a, .int .i64 b] 66)).cell hB (fun h => h)
  show Calls Try.prog 30 #[.agg #[.int .i64 a, .int .i64 b], .pointer (some ⟨B, 0, none⟩)] w _
  dsimp only
  go_enter Try.func30, Try.ntmps30
  go_wp2_with (go_at_call 31; (with_reducible refine (meets_any _ _ _).mono ?_); rintro e w2 ⟨rfl, rfl⟩)
  go_ret
  exact ⟨rfl, (Turn.refl _ w).alloc _⟩
theorem clos_cancel (w : World) (t : Wc) (B : Nat) (k : Int) (hB : w.cell? ⟨B, 0, none⟩ = some (.int .i64 k)) :
    Calls Try.prog 33 (#[t.agg] ++ #[.pointer (some ⟨B, 0, none⟩)]) w fun e w' => e = .returned (.bool (t.k == k)) ∧ Turn NoBlock w w' := by
  obtain ⟨o, a, b⟩ := t
  have hl := World.block_lt_of_cell? w _ hB
  simp only at hl
  have hB' := ((Turn.refl NoBlock w).alloc (.cells #[.int .i64 a, .int .i64 b] 66)).cell hB (fun h => h)
  show Calls Try.prog 33 #[.agg #[.int .i64 a, .int .i64 b], .pointer (some ⟨B, 0, none⟩)] w _
  dsimp only
  go_enter Try.func33, Try.ntmps33
  go_wp2
  go_ret
  exact ⟨rfl, (Turn.refl _ w).alloc _⟩
theorem clos_forget (w : World) (t : Wc) :
    Calls Try.prog 35 (#[t.agg] ++ #[]) w fun e w' => e = .returned (.bool true) ∧ Turn NoBlock w w' := by
  obtain ⟨o, a, b⟩ := t
  show Calls Try.prog 35 #[.agg #[.int .i64 a, .int .i64 b]] w _
  go_enter Try.func35, Try.ntmps35
  go_wp2
  go_ret
  exact ⟨rfl, (Turn.refl _ w).alloc _⟩
theorem tells_any (w : World) (t : Pk) (s : Int) :
    Calls Try.prog 40 #[t.agg, .int .i64 s] w fun e w' => e = .returned (.bool (t.s != 0 && t.s == s)) ∧ Turn NoBlock w w' := by
  obtain ⟨a, b, d⟩ := t
  show Calls Try.prog 40 #[.agg #[.int .i64 a, .int .i64 b, .int .i64 d], .int .i64 s] w _
  dsimp only
  cases h0 : (b != 0) with
  | true =>
    go_enter Try.func40, Try.ntmps40
    go_wp2
    go_ret
    exact ⟨by simp, (Turn.refl _ w).alloc _⟩
  | false =>
    go_enter Try.func40, Try.ntmps40
    go_wp2
    go_ret
    exact ⟨by simp, (Turn.refl _ w).alloc _⟩
/-- A packet of this object with this key. -/
def backP (s k : Int) (t : Pk) : Bool := t.s != 0 && t.s == s && t.k == k
theorem clos_back (w : World) (t : Pk) (A B : Nat) (s k : Int) (hA : w.cell? ⟨A, 0, none⟩ = some (.int .i64 s)) (hB : w.cell? ⟨B, 0, none⟩ = some (.int .i64 k)) :
    Calls Try.prog 39 (#[t.agg] ++ #[.pointer (some ⟨A, 0, none⟩), .pointer (some ⟨B, 0, none⟩)]) w fun e w' => e = .returned (.bool (backP s k t)) ∧ Turn NoBlock w w' := by
  unfold backP
  obtain ⟨a, b, d⟩ := t
  have TA := Lib.hid (fun W => show Calls Try.prog 40 #[.agg #[.int .i64 a, .int .i64 b, .int .i64 d], .int .i64 s] W fun e w' => e = .returned (.bool (b != 0 && b == s)) ∧ Turn NoBlock W w' from tells_any W ⟨a, b, d⟩ s)
  have hl := World.block_lt_of_cell? w _ hB
  have hl2 := World.block_lt_of_cell? w _ hA
  simp only at hl hl2
  obtain ⟨W1, hW1⟩ : ∃ W1, w.alloc (.cells #[.int .i64 a, .int .i64 b, .int .i64 d] 37) = W1 := ⟨_, rfl⟩
  have t1 : Turn NoBlock w W1 := by rw [← hW1]; exact (Turn.refl _ w).alloc _
  have hA' := t1.cell hA (fun h => h)
  have hB' := t1.cell hB (fun h => h)
  have hK' : W1.cell? ⟨w.heap.size, 0, none⟩ = some (.int .i64 a) := by rw [← hW1]; exact World.cell?_alloc_new w _ _ 0
  have hK1 : W1.cell? ⟨w.heap.size, 1, none⟩ = some (.int .i64 b) := by rw [← hW1]; exact World.cell?_alloc_new w _ _ 1
  have hK2 : W1.cell? ⟨w.heap.size, 2, none⟩ = some (.int .i64 d) := by rw [← hW1]; exact World.cell?_alloc_new w _ _ 2
  have BB := Lib.hid (And.intro hB' hK')
  have T1 := Lib.hid t1
  clear t1 hA hB
  show Calls Try.prog 39 #[.agg #[.int .i64 a, .int .i64 b, .int .i64 d], .pointer (some ⟨A, 0, none⟩), .pointer (some ⟨B, 0, none⟩)] w _
  dsimp only
  cases hq : (b != 0 && b == s) with
  | true =>
    go_enter Try.func39, Try.ntmps39
    go_wp2_with (go_at_call 40; (with_reducible refine (TA.out _).mono ?_); rintro e w2 ⟨rfl, t2⟩; dsimp only; rw [hq]; have c1 := t2.cell BB.out.1 (fun h => h); have c2 := t2.cell BB.out.2 (fun h => h); have T2 := Lib.hid t2; clear t2)
    go_ret
    exact ⟨by simp, TT T1.out T2.out⟩
  | false =>
    go_enter Try.func39, Try.ntmps39
    go_wp2_with (go_at_call 40; (with_reducible refine (TA.out _).mono ?_); rintro e w2 ⟨rfl, t2⟩; dsimp only; rw [hq]; have c1 := t2.cell BB.out.1 (fun h => h); have c2 := t2.cell BB.out.2 (fun h => h); have T2 := Lib.hid t2; clear t2)
    go_ret
    exact ⟨by simp, TT T1.out T2.out⟩
end Go.Proofs.Ytcnellkoejhofaa
