/-
  Is an end open, and what does it show. No conditions but that the channel is one that calls can make.
-/
import Derived.Test.YtcbphfpfdfgehaaCRead2
import Derived.Deep.QuietTactic
import Derived.BigQuiet
namespace Go.Proofs.Ytcbphfpfdfgehaa
open Go.ChangeShapes Go.WideShapes Go.ChangeAt Go.RowKit

/-- What an end shows. -/
def shK (d : Nat) (a b : MS) : Int := if a.op = false then 0 else (if a.q.length = 0 then 0 else 1) + (if b.op = false then 4 else if b.q.length < d then 2 else 0)
theorem open_bad (c : Nat) (e : Int) (w : World) (h0 : e ≠ 0) (h1 : e ≠ 1) : Calls Try.prog 15 #[.pointer (some ⟨c, 0, none⟩), .int .i64 e] w fun x w' => x = .returned (.bool false) ∧ w = w' := by
  have cR := right_bad c e w h0 h1
  clear h0 h1
  go_enter Try.func15, Try.ntmps15
  go_wp2_with (go_at_call 48; (with_reducible refine cR.mono ?_); rintro x w' ⟨rfl, rfl⟩)
  go_ret
  exact ⟨rfl, rfl⟩
theorem shows_bad (c : Nat) (e : Int) (w : World) (h0 : e ≠ 0) (h1 : e ≠ 1) : Calls Try.prog 16 #[.pointer (some ⟨c, 0, none⟩), .int .i64 e] w fun x w' => x = .returned (.int .i64 0) ∧ w = w' := by
  have cR := right_bad c e w h0 h1
  clear h0 h1
  go_enter Try.func16, Try.ntmps16
  go_wp2_with (go_at_call 48; (with_reducible refine cR.mono ?_); rintro x w' ⟨rfl, rfl⟩)
  go_ret
  exact ⟨rfl, rfl⟩
section
variable {w : World} {c depth N : Nat} {S : Nat → Sd} {V : Nat → SV}
theorem open_any (hC : CMem w c depth N S V) {e : Nat} (he : e < 2) : Calls Try.prog 15 #[.pointer (some ⟨c, 0, none⟩), .int .i64 (e : Int)] w fun x w' => x = .returned (.bool (planeOf S e).op) ∧ w = w' := by
  show Calls Try.prog 15 #[.pointer (some ⟨c, 0, none⟩), .int .i64 (e : Int)] w fun x w' => x = .returned (.bool (S e).op) ∧ w = w'
  cases ho : (S e).op with
  | false =>
    have cR := right_no hC he ho
    clear hC he ho
    go_enter Try.func15, Try.ntmps15
    go_wp2_with (go_at_call 48; (with_reducible refine cR.mono ?_); rintro x w' ⟨rfl, rfl⟩)
    go_ret
    exact ⟨rfl, rfl⟩
  | true =>
    have cR := right_yes hC he ho
    clear hC he ho
    go_enter Try.func15, Try.ntmps15
    go_wp2_with (go_at_call 48; (with_reducible refine cR.mono ?_); rintro x w' ⟨rfl, rfl⟩)
    go_ret
    exact ⟨rfl, rfl⟩
set_option maxHeartbeats 1000000 in
theorem shows_0 (hC : CMem w c depth N S V) (hN : N ≤ 1000000) : Calls Try.prog 16 #[.pointer (some ⟨c, 0, none⟩), .int .i64 0] w fun x w' => x = .returned (.int .i64 (shK depth (planeOf S 0) (planeOf S 1))) ∧ Turn NoBlock w w' := by
  show Calls Try.prog 16 #[.pointer (some ⟨c, 0, none⟩), .int .i64 0] w fun x w' => x = .returned (.int .i64 (shK depth (S 0).ms (S 1).ms)) ∧ Turn NoBlock w w'
  cases ho : (S 0).op with
  | false =>
    have cR := right_no hC (e := 0) (by omega) ho
    rw [z0] at cR
    have e1 : shK depth (S 0).ms (S 1).ms = 0 := by unfold shK; rw [if_pos (show (S 0).ms.op = false from ho)]
    rw [e1]
    clear hC ho e1
    go_enter Try.func16, Try.ntmps16
    go_wp2_with (go_at_call 48; (with_reducible refine cR.mono ?_); rintro x w' ⟨rfl, rfl⟩)
    go_ret
    exact ⟨rfl, Turn.refl _ _⟩
  | true =>
    have cR := right_yes hC (e := 0) (by omega) ho
    rw [z0] at cR
    have e1 : shK depth (S 0).ms (S 1).ms = (if (S 0).ms.q.length = 0 then 0 else 1) + (if (S 1).op = false then 4 else if (S 1).ms.q.length < depth then 2 else 0) := by
      unfold shK
      rw [if_neg (show ¬ (S 0).ms.op = false by show ¬ (S 0).op = false; rw [ho]; simp)]
      rfl
    rw [e1]
    have hl0 := hC.len 0 (by omega)
    have hl1 := hC.len 1 (by omega)
    have hn0 : (S 0).ms.q.length ≤ 2000000 := by rw [ms_len]; omega
    have hn1 : (S 1).ms.q.length ≤ 2000000 := by rw [ms_len]; omega
    have cA : ∀ W, Turn NoBlock w W → Calls Try.prog 51 #[.pointer (some ⟨c, 1, none⟩)] W _ := fun W t => count_any ((hC.past t).s 0 (by omega)) (by omega) (by omega)
    have cB : ∀ W, Turn NoBlock w W → Calls Try.prog 51 #[.pointer (some ⟨c, 5, none⟩)] W _ := fun W t => count_any ((hC.past t).s 1 (by omega)) (by omega) (by omega)
    have co : ∀ w, Calls Try.prog 52 #[.int .i64 0] w fun x w' => x = .returned (.int .i64 1) ∧ w = w' := fun w => other_any 0 (by omega) w
    have d0 := hC.c0
    have f0 : w.cell? ⟨c, 5, none⟩ = some (.bool (S 1).op) := (hC.s 1 (by omega)).c0
    have dd1 := hC.d1
    have dd2 := hC.d2
    have CA := Lib.hid cA
    have CB := Lib.hid cB
    have CO := Lib.hid co
    clear hC ho e1 hl0 hl1 cA cB co hN
    generalize (S 0).ms.q.length = n at *
    generalize (S 1).ms.q.length = m at *
    have h0 : n = 0 ∨ (¬ n = 0 ∧ (0 : Int) < n) := by omega
    have h1 : (m < depth ∧ (m : Int) < depth) ∨ (¬ m < depth ∧ ¬ (m : Int) < depth) := by omega
    rcases h0 with h0 | ⟨h0, h00⟩
    all_goals
      cases hop : (S 1).op
      all_goals
        rw [hop] at f0
        rcases h1 with ⟨h1, h11⟩ | ⟨h1, h11⟩
        all_goals
          try subst h0
          try rw [if_pos h1]
          try rw [if_neg h1]
          try rw [if_neg h0]
          go_enter Try.func16, Try.ntmps16
          go_wp2_with (first
            | (go_at_call 48; (with_reducible refine cR.mono ?_); rintro x w' ⟨rfl, rfl⟩)
            | (go_at_call 51; (with_reducible refine (CA.out _ (Turn.refl _ _)).mono ?_); rintro x w' ⟨rfl, nn, rfl⟩))
          go_region_held3 (fun _ => True) (trivial) (first | (go_at_call 52; (with_reducible refine (CO.out _).mono ?_); rintro x w2 ⟨rfl, rfl⟩))
          go_wp2
          try (go_region_held3 (fun w' => w'.cell? ⟨c, 0, none⟩ = some (.int .i64 depth)) (first | exact d0) (first | (go_at_call 51; (with_reducible refine (CB.out _ ((Turn.refl _ w).drewN _)).mono ?_); rintro x w2 ⟨rfl, n2, rfl⟩)); go_wp2)
          go_ret
          exact ⟨rfl, (Turn.refl _ w).drewN _⟩
set_option maxHeartbeats 1000000 in
theorem shows_1 (hC : CMem w c depth N S V) (hN : N ≤ 1000000) : Calls Try.prog 16 #[.pointer (some ⟨c, 0, none⟩), .int .i64 1] w fun x w' => x = .returned (.int .i64 (shK depth (planeOf S 1) (planeOf S 0))) ∧ Turn NoBlock w w' := by
  show Calls Try.prog 16 #[.pointer (some ⟨c, 0, none⟩), .int .i64 1] w fun x w' => x = .returned (.int .i64 (shK depth (S 1).ms (S 0).ms)) ∧ Turn NoBlock w w'
  cases ho : (S 1).op with
  | false =>
    have cR := right_no hC (e := 1) (by omega) ho
    rw [z1] at cR
    have e1 : shK depth (S 1).ms (S 0).ms = 0 := by unfold shK; rw [if_pos (show (S 1).ms.op = false from ho)]
    rw [e1]
    clear hC ho e1
    go_enter Try.func16, Try.ntmps16
    go_wp2_with (go_at_call 48; (with_reducible refine cR.mono ?_); rintro x w' ⟨rfl, rfl⟩)
    go_ret
    exact ⟨rfl, Turn.refl _ _⟩
  | true =>
    have cR := right_yes hC (e := 1) (by omega) ho
    rw [z1] at cR
    have e1 : shK depth (S 1).ms (S 0).ms = (if (S 1).ms.q.length = 0 then 0 else 1) + (if (S 0).op = false then 4 else if (S 0).ms.q.length < depth then 2 else 0) := by
      unfold shK
      rw [if_neg (show ¬ (S 1).ms.op = false by show ¬ (S 1).op = false; rw [ho]; simp)]
      rfl
    rw [e1]
    have hl0 := hC.len 1 (by omega)
    have hl1 := hC.len 0 (by omega)
    have hn0 : (S 1).ms.q.length ≤ 2000000 := by rw [ms_len]; omega
    have hn1 : (S 0).ms.q.length ≤ 2000000 := by rw [ms_len]; omega
    have cA : ∀ W, Turn NoBlock w W → Calls Try.prog 51 #[.pointer (some ⟨c, 5, none⟩)] W _ := fun W t => count_any ((hC.past t).s 1 (by omega)) (by omega) (by omega)
    have cB : ∀ W, Turn NoBlock w W → Calls Try.prog 51 #[.pointer (some ⟨c, 1, none⟩)] W _ := fun W t => count_any ((hC.past t).s 0 (by omega)) (by omega) (by omega)
    have co : ∀ w, Calls Try.prog 52 #[.int .i64 1] w fun x w' => x = .returned (.int .i64 0) ∧ w = w' := fun w => other_any 1 (by omega) w
    have d0 := hC.c0
    have f0 : w.cell? ⟨c, 1, none⟩ = some (.bool (S 0).op) := (hC.s 0 (by omega)).c0
    have dd1 := hC.d1
    have dd2 := hC.d2
    have CA := Lib.hid cA
    have CB := Lib.hid cB
    have CO := Lib.hid co
    clear hC ho e1 hl0 hl1 cA cB co hN
    generalize (S 1).ms.q.length = n at *
    generalize (S 0).ms.q.length = m at *
    have h0 : n = 0 ∨ (¬ n = 0 ∧ (0 : Int) < n) := by omega
    have h1 : (m < depth ∧ (m : Int) < depth) ∨ (¬ m < depth ∧ ¬ (m : Int) < depth) := by omega
    rcases h0 with h0 | ⟨h0, h00⟩
    all_goals
      cases hop : (S 0).op
      all_goals
        rw [hop] at f0
        rcases h1 with ⟨h1, h11⟩ | ⟨h1, h11⟩
        all_goals
          try subst h0
          try rw [if_pos h1]
          try rw [if_neg h1]
          try rw [if_neg h0]
          go_enter Try.func16, Try.ntmps16
          go_wp2_with (first
            | (go_at_call 48; (with_reducible refine cR.mono ?_); rintro x w' ⟨rfl, rfl⟩)
            | (go_at_call 51; (with_reducible refine (CA.out _ (Turn.refl _ _)).mono ?_); rintro x w' ⟨rfl, nn, rfl⟩))
          go_region_held3 (fun _ => True) (trivial) (first | (go_at_call 52; (with_reducible refine (CO.out _).mono ?_); rintro x w2 ⟨rfl, rfl⟩))
          go_wp2
          try (go_region_held3 (fun w' => w'.cell? ⟨c, 0, none⟩ = some (.int .i64 depth)) (first | exact d0) (first | (go_at_call 51; (with_reducible refine (CB.out _ ((Turn.refl _ w).drewN _)).mono ?_); rintro x w2 ⟨rfl, n2, rfl⟩)); go_wp2)
          go_ret
          exact ⟨rfl, (Turn.refl _ w).drewN _⟩
end
end Go.Proofs.Ytcbphfpfdfgehaa
