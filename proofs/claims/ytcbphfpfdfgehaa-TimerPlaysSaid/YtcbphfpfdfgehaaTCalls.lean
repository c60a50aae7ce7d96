/-
  What the order of two entries, the place above, the clock's test answer. No conditions.
-/
import Derived.Test.YtcbphfpfdfgehaaTMem
import Derived.Deep.RegionHeld3
import Derived.Deep.LoopGhost
import Derived.Deep.RegionLaw
import Derived.BigQuiet
import Derived.RegionTactic
import Derived.ChangeAlike
namespace Go.Proofs.Ytcbphfpfdfgehaa
open Go.ChangeShapes Go.WideShapes Go.ChangeAt Go.RowKit

theorem nan_no (x : Int) (w : World) : Calls Try.prog 94 #[.int .i64 x] w fun e w' => e = .returned (.bool false) ∧ w = w' := by
  go_enter Try.func94, Try.ntmps94
  go_wp2
  go_ret
  exact ⟨ret_bool (by simp), rfl⟩
theorem compare_any (x y : Int) (w : World) : Calls Try.prog 80 #[.int .i64 x, .int .i64 y] w fun e w' => e = .returned (.int .i64 (cmpI x y)) ∧ w = w' := by
  unfold cmpI
  have cn := fun x w => nan_no x w
  rcases (by omega : x < y ∨ y < x ∨ x = y) with h | h | h
  · rw [if_pos h]
    go_enter Try.func80, Try.ntmps80
    go_wp2_with (go_at_call 94; (with_reducible refine (cn _ _).mono ?_); rintro e w' ⟨rfl, rfl⟩)
    go_ret
    exact ⟨rfl, rfl⟩
  · have h2 : ¬ x < y := by omega
    rw [if_neg h2, if_pos h]
    go_enter Try.func80, Try.ntmps80
    go_wp2_with (go_at_call 94; (with_reducible refine (cn _ _).mono ?_); rintro e w' ⟨rfl, rfl⟩)
    go_ret
    exact ⟨rfl, rfl⟩
  · subst h
    have h2 : ¬ x < x := by omega
    rw [if_neg h2, if_neg h2]
    go_enter Try.func80, Try.ntmps80
    go_wp2_with (go_at_call 94; (with_reducible refine (cn _ _).mono ?_); rintro e w' ⟨rfl, rfl⟩)
    go_ret
    exact ⟨rfl, rfl⟩
theorem or_any (g : Nat) (x y : Int) (w : World) (h0 : w.cell? ⟨g, 0, none⟩ = some (.int .i64 x)) (h1 : w.cell? ⟨g, 1, none⟩ = some (.int .i64 y)) :
    Calls Try.prog 79 #[.slice (some ⟨g, 0, none⟩) 2 2] w fun e w' => e = .returned (.int .i64 (if x = 0 then y else x)) ∧ w = w' := by
  by_cases hx : x = 0
  · subst hx
    rw [if_pos rfl]
    by_cases hy : y = 0
    · subst hy
      go_enter Try.func79, Try.ntmps79
      go_wp2
      go_loopg [5, 8] 2 (fun z s5 s8 wr => (s8 = .int .i64 0 ∧ z = 2 ∧ w = wr) ∨ (s8 = .int .i64 1 ∧ z = 1 ∧ w = wr) ∨ (s8 = .int .i64 2 ∧ z = 0 ∧ w = wr))
      case atStart => exact .inl ⟨rfl, rfl, rfl⟩
      case round =>
        rcases hrel with ⟨rfl, hz, rfl⟩ | ⟨rfl, hz, rfl⟩ | ⟨rfl, hz, rfl⟩
        · go_wp2
          go_roundg 1
          case measure => omega
          case rel => exact .inr (.inl ⟨rfl, rfl, rfl⟩)
        · go_wp2
          go_roundg 0
          case measure => omega
          case rel => exact .inr (.inr ⟨rfl, rfl, rfl⟩)
        · go_wp2
          go_ret
          exact ⟨rfl, rfl⟩
    · have b : (y != 0) = true := bne_iff_ne.2 hy
      clear hy
      go_enter Try.func79, Try.ntmps79
      go_wp2
      go_loopg [5, 8] 1 (fun z s5 s8 wr => (s8 = .int .i64 0 ∧ z = 1 ∧ w = wr) ∨ (s8 = .int .i64 1 ∧ z = 0 ∧ w = wr))
      case atStart => exact .inl ⟨rfl, rfl, rfl⟩
      case round =>
        rcases hrel with ⟨rfl, hz, rfl⟩ | ⟨rfl, hz, rfl⟩
        · go_wp2
          go_roundg 0
          case measure => omega
          case rel => exact .inr ⟨rfl, rfl, rfl⟩
        · go_wp2
          go_ret
          exact ⟨rfl, rfl⟩
  · rw [if_neg hx]
    have b : (x != 0) = true := bne_iff_ne.2 hx
    clear hx
    go_enter Try.func79, Try.ntmps79
    go_wp2
    go_loopg [5, 8] 0 (fun z s5 s8 wr => s8 = .int .i64 0 ∧ z = 0 ∧ w = wr)
    case atStart => exact ⟨rfl, rfl, rfl⟩
    case round =>
      obtain ⟨rfl, hz, rfl⟩ := hrel
      go_wp2
      go_ret
      exact ⟨rfl, rfl⟩
theorem above_any (at' : Nat) (h : at' < 1000000000) (w : World) : Calls Try.prog 75 #[.int .i64 (at' : Int)] w fun e w' => e = .returned (.int .i64 (((at' - 1) / 2 : Nat) : Int)) ∧ w = w' := by
  obtain ⟨m, hm, hrun⟩ : ∃ m : Nat, at' - 1 = m ∧ ∀ (ts : Array TypeId) (t : TypeId) (w : World), (Builtin.max_ ts t #[.int .i64 ((at' : Int) - 1), .int .i64 0]).run Try.prog w = .ok (.int .i64 (m : Int)) w := by
    refine ⟨at' - 1, rfl, fun ts t w => ?_⟩
    rw [run_max_int2]
    by_cases h0 : at' = 0
    · subst h0; rfl
    · have : ((at' - 1 : Nat) : Int) = (at' : Int) - 1 := by omega
      rw [this, if_neg (by omega)]
  rw [hm]
  have hml : m < 1000000000 := by omega
  clear hm
  go_enter Try.func75, Try.ntmps75
  go_wp2
  go_ret
  exact ⟨ret_int (by omega), rfl⟩
end Go.Proofs.Ytcbphfpfdfgehaa
