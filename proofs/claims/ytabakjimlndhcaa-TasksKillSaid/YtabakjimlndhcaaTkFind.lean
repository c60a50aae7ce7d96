/-
  find, parent, Alive, Count, Live of a tree. Conditions: the tree lies in memory, and has no more tasks than fit.
-/
import Derived.Test.YtabakjimlndhcaaTkMem
import Derived.Deep.DeepCutAuto
import Derived.Deep.CutBlock
namespace Go.Proofs.Ytabakjimlndhcaa
open Go.ChangeShapes Go.WideShapes Go.ChangeAt Go.RowKit

/-- Whether a number is one of a task. -/
def inN (n : Nat) (id : Int) : Bool := decide (1 ≤ id ∧ id ≤ n)
def plc (id : Int) : Nat := (id - 1).toNat
theorem inN_iff {n : Nat} {id : Int} : inN n id = true ↔ 1 ≤ id ∧ id ≤ n := by simp [inN]
theorem plc_lt {n : Nat} {id : Int} (h : inN n id = true) : plc id < n := by have := inN_iff.1 h; unfold plc; omega
theorem plc_id {n : Nat} {id : Int} (h : inN n id = true) : id = (plc id : Int) + 1 := by have := inN_iff.1 h; unfold plc; omega
def aliveAt (n : Nat) (T : Nat → Tk) (id : Int) : Bool := inN n id && aliveB (T (plc id))
section
variable {w w' : World} {c n p q j : Nat} {most code : Int} {T T' : Nat → Tk} {sv : Value} {B : Nat → Nat} {V : Nat → Value} {G G' : Nat → Nat}
/-- What is looked at to find a task. -/
structure FMem (w : World) (c n : Nat) (sv : Value) (B : Nat → Nat) : Prop where
  c2 : w.cell? ⟨c, 2, none⟩ = some sv
  row : WRow w 132 1 sv n (bcells B n)
theorem KMem.fm (h : KMem w c most n T sv B V G) : FMem w c n sv B := ⟨h.c2, h.row⟩
theorem find_no (h : FMem w c n sv B) (id : Int) (hi : inN n id = false) : Calls Try.prog 70 #[tp c, .int .i64 id] w fun x w' => x = .returned (.tuple #[.pointer none, .bool false]) ∧ w = w' := by
  have c2 := h.c2
  obtain ⟨p, cap, rfl⟩ := h.row.sl
  have hno : ¬ (1 ≤ id ∧ id ≤ n) := by simpa [inN] using hi
  unfold tp
  clear h hi
  by_cases h1 : id < 1
  · go_enter Try.func70, Try.ntmps70
    go_wp2
    go_ret2
    exact ⟨rfl, rfl⟩
  · have h2 : (n : Int) < id := by omega
    clear hno
    go_enter Try.func70, Try.ntmps70
    go_wp2
    go_ret2
    exact ⟨rfl, rfl⟩
theorem find_yes (h : FMem w c n sv B) (hn : n ≤ 1000000) (hj : j < n) : Calls Try.prog 70 #[tp c, .int .i64 ((j : Int) + 1)] w fun x w' => x = .returned (.tuple #[tp (B j), .bool true]) ∧ w = w' := by
  have c2 := h.c2
  obtain ⟨g, o, cap, rfl, hc1, hc2, -, hcell, -⟩ := h.row.shape (by omega)
  have HC := (hcell j (by omega)).trans (bcells_at B hj)
  have h1 : ¬ ((j : Int) + 1 < 1) := by omega
  have h2 : ¬ ((n : Int) < (j : Int) + 1) := by omega
  unfold tp at *
  clear h hcell
  go_enter Try.func70, Try.ntmps70
  go_wp2
  go_ret2
  exact ⟨rfl, rfl⟩
theorem parent_any (h : KMem w c most n T sv B V G) (hn : n ≤ 1000000) {p i : Nat} (hp : p < n) (hi : i < n) (he : (T p).par = (i : Int) + 1) : Calls Try.prog 77 #[tp c, tp (B p)] w fun x w' => x = .returned (tp (B i)) ∧ ∃ m, w' = w.drewN m := by
  have hc2 := h.c2
  have ho1 := h.o1 hp
  obtain ⟨g, o, cap, rfl, hc1, hcap, hcell⟩ := h.slice (by omega)
  have HC := hcell i hi
  rw [he] at ho1
  unfold tp at *
  clear h hcell he
  go_enter Try.func77, Try.ntmps77
  go_upto_region 1 with (fail)
  go_quiet (fail)
  go_wp2
  go_ret
  exact ⟨rfl, nq, rfl⟩
theorem count_any (h : KMem w c most n T sv B V G) : Calls Try.prog 33 #[tp c] w fun x w' => x = .returned (.int .i64 (n : Int)) ∧ w = w' := by
  have hc2 := h.c2
  obtain ⟨p, cap, rfl⟩ := h.row.sl
  unfold tp
  clear h
  go_enter Try.func33, Try.ntmps33
  go_wp2
  go_ret
  exact ⟨rfl, rfl⟩
theorem live_any (h : KMem w c most n T sv B V G) : Calls Try.prog 34 #[tp c] w fun x w' => x = .returned (.int .i64 (liveN T n : Int)) ∧ w = w' := by
  have hc1 := h.c1
  unfold tp
  clear h
  go_enter Try.func34, Try.ntmps34
  go_wp2
  go_ret
  exact ⟨rfl, rfl⟩
theorem alive_any (h : KMem w c most n T sv B V G) (hn : n ≤ 1000000) (id : Int) : Calls Try.prog 38 #[tp c, .int .i64 id] w fun x w' => x = .returned (.bool (aliveAt n T id)) ∧ w = w' := by
  by_cases hi : inN n id = true
  · have C := Lib.hid (find_yes h.fm hn (plc_lt hi))
    rw [← plc_id hi] at C
    have o2 := h.o2 (plc_lt hi)
    have hr : aliveAt n T id = decide ((T (plc id)).st ≠ 2) := by unfold aliveAt; rw [hi]; rfl
    rw [hr]
    unfold tp at *
    clear h hr
    generalize (T (plc id)).st = s at *
    go_enter Try.func38, Try.ntmps38
    go_wp2_with (go_at_call 70; (with_reducible refine C.out.mono ?_); rintro e w2 ⟨rfl, rfl⟩)
    all_goals
      go_ret
      refine ⟨?_, rfl⟩
      first | rfl | (congr 2; by_cases hs : s = 2 <;> simp [hs])
  · have C := Lib.hid (find_no h.fm id (by simpa using hi))
    have hr : aliveAt n T id = false := by unfold aliveAt; rw [Bool.not_eq_true] at hi; rw [hi]; rfl
    rw [hr]
    unfold tp at *
    clear h hr hi
    go_enter Try.func38, Try.ntmps38
    go_wp2_with (go_at_call 70; (with_reducible refine C.out.mono ?_); rintro e w2 ⟨rfl, rfl⟩)
    go_ret
    exact ⟨rfl, rfl⟩
end
end Go.Proofs.Ytabakjimlndhcaa
