/-
  The contract of Kinds: a new slice of the numbers 1 to 11. Conditions: none.
-/
import Derived.Test.YtefcklkepoihkaaDoorRCalls
import Derived.OwnWalk
import Derived.Laws.OwnMore
namespace Go.Proofs.YtefcklkepoihkaaDoor
open Go.ChangeShapes Go.WideShapes Go.ChangeAt Go.RowKit

theorem info3 : (Tryd.prog.info? 3).map (fun i => (i.zero, i.size, i.bytes)) = some (some (.int .i64 0), 1, 8) := by kernel_rfl
/-- 1 to n. -/
def upto (n : Nat) : List Value := (List.range n).map fun j => Value.int .i64 ((j + 1 : Nat) : Int)
theorem upto_succ (n : Nat) : upto (n + 1) = upto n ++ [.int .i64 ((n + 1 : Nat) : Int)] := by simp [upto, List.range_succ]
theorem upto_length (n : Nat) : (upto n).length = n := by simp [upto]
/-- How many types are numbered below k. -/
def got (k : Nat) : Nat := min (k - 1) 11
set_option maxHeartbeats 1000000 in
set_option maxRecDepth 20000 in
theorem kinds_any (w : World) :
    Calls Tryd.prog 12 #[] w fun e w' => ∃ g cap, e = .returned (.slice (some ⟨g, 0, none⟩) 11 cap) ∧ (∀ j : Nat, j < 11 → w'.cell? ⟨g, j, none⟩ = some (.int .i64 ((j + 1 : Nat) : Int))) ∧ Below w.heap.size w w' := by
  obtain ⟨i0, hi, hz0, hz1, hz2⟩ := info_parts info3
  obtain ⟨w1, hmk, hown0, hg0⟩ := run_make_own (P := Tryd.prog) (w := w) w.heap.size 27 3 i0 (.int .i64 0) 1 Tryd.underlying27 hi hz0 hz1 .i64 .i64 12 (by rw [hz2]; omega) (by unfold maxLen; omega) (Nat.le_refl _)
  have hb0 : Below w.heap.size w w1 := (Below.refl _ _).grown hg0 (Nat.le_refl _) (by simp)
  have hmk' : (Instr.makeSlice 27 (.int .i64 0) (.int .i64 12)).run Tryd.prog w = .ok (.slice (some ⟨w.heap.size, 0, none⟩) 0 12) w1 := hmk
  clear hmk
  go_enter Tryd.func12, Tryd.ntmps12
  go_wp2
  clear hmk'
  go_loopw [1, 4] (fun v i wr => ∃ k : Nat, k ≤ 12 ∧ i = .int .i64 k ∧ wr.ownsRow w.heap.size 3 1 v (got k) (upto (got k)) ∧ Below w.heap.size w wr) (fun _ i _ => 12 - (intOf i).toNat)
  case atStart => exact ⟨0, by omega, rfl, hown0, hb0⟩
  case round =>
    obtain ⟨k, hk, rfl, hown, hbw⟩ := hrel
    have hsz := hbw.size
    by_cases hlt : k < 12
    · cases k with
      | zero =>
        have hk0 : kindB ((0 : Nat) : Int) = false := rfl
        go_wp2_with (go_at_call 27; (with_reducible refine (isKind_any _ _).mono ?_); rintro e w' ⟨rfl, rfl⟩)
        go_roundw
        case rel => exact ⟨1, by omega, by go_num, hown, hbw⟩
        case measure => simp [intOf]
      | succ m =>
        have hk1 : kindB ((m : Int) + 1) = true := by simp [kindB]; omega
        have hgot : got (m + 1) = m := by unfold got; omega
        have hgot2 : got (m + 1 + 1) = m + 1 := by unfold got; omega
        rw [hgot] at hown
        have H2 := Lib.hid hgot2
        clear hgot hgot2
        go_wp2_with (first
          | (go_at_call 27; (with_reducible refine (isKind_any _ _).mono ?_); rintro e w' ⟨rfl, rfl⟩)
          | (at_builtin; refine wpList_append_own _ rfl _ _ 27 rfl w.heap.size 3 i0 (.int .i64 0) 1 8 Tryd.underlying27 hi hz0 hz1 hz2 rfl (by decide) _ _ _ rfl (hown.alloc _) ⟨wr.heap.size, 0, none⟩ 1 1 [.int .i64 ((m : Int) + 1)] rfl rfl ?c1 ?c2 ?c3 ?c4 ?c5 ?_))
        case c1 =>
          intro j u hj
          match j, hj with
          | 0, hj => simp at hj; subst hj; simp [Addr.add]
        case c2 => intro u hu; simp at hu; subst hu; rfl
        case c3 => unfold maxLen; omega
        case c4 => omega
        case c5 => simp; omega
        intro v' w2 hown' hgrow _
        have hb2 : Below w.heap.size w w2 := (hbw.alloc hsz _).grown hgrow (by simp; omega) (fun j hj => (hown.lt j hj).1)
        go_wp2
        go_roundw
        case rel => exact ⟨m + 1 + 1, by omega, by go_num, by rw [H2.out, upto_succ]; simpa using hown', hb2⟩
        case measure => simp [intOf]; omega
    · obtain rfl : k = 12 := by omega
      obtain ⟨g, cap, rfl⟩ : ∃ g cap, u1 = .slice (some ⟨g, 0, none⟩) 11 cap := by
        rcases hown.2 with ⟨_, h0⟩ | ⟨g, cap, cur, hv, _⟩
        · simp [got] at h0
        · exact ⟨g, cap, hv⟩
      go_wp2
      go_ret
      refine ⟨g, cap, rfl, fun j hj => ?_, hbw⟩
      have hx : (upto 11)[j]? = some (.int .i64 ((j + 1 : Nat) : Int)) := by
        unfold upto
        rw [List.getElem?_map, List.getElem?_range hj]; rfl
      have hown' : wr.ownsRow w.heap.size 3 1 (.slice (some ⟨g, 0, none⟩) 11 cap) 11 (upto 11) := hown
      rw [hown'.cellAt j (by omega)]
      exact hx
end Go.Proofs.YtefcklkepoihkaaDoor
