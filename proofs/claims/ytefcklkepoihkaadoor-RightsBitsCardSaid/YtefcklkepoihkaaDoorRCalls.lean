/-
  Contracts of the small functions of layer 4 (rights): what each call answers. Conditions: the arguments are numbers of 64 bits.
-/
import Derived.Test.YtefcklkepoihkaaDoorRBits
import Derived.Test.YtefcklkepoihkaaDoorProg
import Derived.Outline
import Derived.Lib.Hide
import Derived.Deep.QuietTactic
import Derived.BigQuiet
import Derived.ProofKit
namespace Go.Proofs.YtefcklkepoihkaaDoor
open Go.ChangeShapes Go.WideShapes Go.ChangeAt Go.RowKit

theorem ret_bool {a b : Bool} (h : a = b) : Ending.returned (.bool a) = .returned (.bool b) := by rw [h]
theorem ret_int {k : IntKind} {a b : Int} (h : a = b) : Ending.returned (.int k a) = .returned (.int k b) := by rw [h]

/-- (Rights).Has -/
theorem has_any (a b : Int) (w : World) :
    Calls Tryd.prog 20 #[.int .i64 a, .int .i64 b] w fun e w' => e = .returned (.bool (hasB a b)) ∧ w = w' := by
  go_enter Tryd.func20, Tryd.ntmps20
  go_wp2
  go_ret
  exact ⟨rfl, rfl⟩
/-- (Rights).Meet -/
theorem meet_any (a b : Int) (w : World) :
    Calls Tryd.prog 16 #[.int .i64 a, .int .i64 b] w fun e w' => e = .returned (.int .i64 (bits .and .i64 a b)) ∧ w = w' := by
  go_enter Tryd.func16, Tryd.ntmps16
  go_wp2
  go_ret
  exact ⟨rfl, rfl⟩
/-- (Rights).Without -/
theorem without_any (a b : Int) (w : World) :
    Calls Tryd.prog 17 #[.int .i64 a, .int .i64 b] w fun e w' => e = .returned (.int .i64 (bits .andNot .i64 a b)) ∧ w = w' := by
  go_enter Tryd.func17, Tryd.ntmps17
  go_wp2
  go_ret
  exact ⟨rfl, rfl⟩
/-- (Rights).Right -/
theorem right_any (a : Int) (w : World) :
    Calls Tryd.prog 11 #[.int .i64 a] w fun e w' => e = .returned (.bool (hasB 4095 a)) ∧ w = w' := by
  go_enter Tryd.func11, Tryd.ntmps11
  go_wp2_with (go_at_call 20; (with_reducible refine (has_any _ _ _).mono ?_); rintro e w' ⟨rfl, rfl⟩)
  go_ret
  exact ⟨rfl, rfl⟩
/-- The status of Need. -/
def needV (h : Bool) : Int := if h then 0 else -30
theorem need_any (a b : Int) (w : World) :
    Calls Tryd.prog 21 #[.int .i64 a, .int .i64 b] w fun e w' => e = .returned (.int .i64 (needV (hasB a b))) ∧ w = w' := by
  by_cases h : hasB a b = true
  all_goals
    go_enter Tryd.func21, Tryd.ntmps21
    go_wp2_with (go_at_call 20; (with_reducible refine (has_any _ _ _).mono ?_); rintro e w' ⟨rfl, rfl⟩)
    go_ret
    exact ⟨by simp [needV, h], rfl⟩
/-- isKind -/
def kindB (k : Int) : Bool := decide (1 ≤ k) && decide (k ≤ 11)
theorem isKind_any (k : Int) (w : World) :
    Calls Tryd.prog 27 #[.int .i64 k] w fun e w' => e = .returned (.bool (kindB k)) ∧ w = w' := by
  by_cases h1 : 1 ≤ k <;> by_cases h2 : k ≤ 11
  all_goals
    go_enter Tryd.func27, Tryd.ntmps27
    go_wp2
    go_ret
    exact ⟨ret_bool (by simp [kindB, h1, h2] <;> omega), rfl⟩
/-- The document's answer: is a bit in a number? -/
theorem rhas_any (a : Int) (i : Nat) (ha : fit a) (hi : i < 64) (w : World) :
    Calls Tryd.prog 15 #[.int .i64 a, .int .i64 i] w fun e w' => e = .returned (.bool (bitB a i)) ∧ w = w' := by
  have hs := shr_one a ha i hi
  have hm : min i 64 = i := by omega
  go_enter Tryd.func15, Tryd.ntmps15
  go_wp2
  all_goals
    go_ret
    exact ⟨rfl, rfl⟩

/-- What Reduce answers. -/
def redV (a b : Int) : Int := if b = 2147483648 then a else if hasB 4095 b = true ∧ hasB a b = true then b else 0
def redS (a b : Int) : Int := if b = 2147483648 then 0 else if hasB 4095 b = true ∧ hasB a b = true then 0 else -10
theorem ret_two {a b c d : Int} (h1 : a = c) (h2 : b = d) : Ending.returned (.tuple #[.int .i64 a, .int .i64 b]) = .returned (.tuple #[.int .i64 c, .int .i64 d]) := by rw [h1, h2]
theorem reduce_any (a b : Int) (w : World) :
    Calls Tryd.prog 22 #[.int .i64 a, .int .i64 b] w fun e w' => e = .returned (.tuple #[.int .i64 (redV a b), .int .i64 (redS a b)]) ∧ w = w' := by
  by_cases h0 : b = 2147483648
  · subst h0
    go_enter Tryd.func22, Tryd.ntmps22
    go_wp2
    go_ret2
    exact ⟨ret_two (by simp [redV]) (by simp [redS]), rfl⟩
  · by_cases h1 : hasB 4095 b = true <;> by_cases h2 : hasB a b = true
    all_goals
      have h1' := h1
      have h2' := h2
      try simp only [Bool.not_eq_true] at h1
      try simp only [Bool.not_eq_true] at h2
      have H : Hid (redV a b = (if hasB 4095 b = true ∧ hasB a b = true then b else 0) ∧ redS a b = (if hasB 4095 b = true ∧ hasB a b = true then 0 else -10)) := by
        refine Lib.hid ⟨?_, ?_⟩ <;> simp [redV, redS, h0]
      have H1 : Hid (hasB 4095 b = true ∨ hasB 4095 b = false) := Lib.hid (by cases hasB 4095 b <;> simp)
      go_enter Tryd.func22, Tryd.ntmps22
      go_wp2_with (first | (go_at_call 11; (with_reducible refine (right_any _ _).mono ?_); rintro e w' ⟨rfl, rfl⟩) | (go_at_call 20; (with_reducible refine (has_any _ _ _).mono ?_); rintro e w' ⟨rfl, rfl⟩))
      go_ret2
      exact ⟨ret_two (by rw [H.out.1]; simp [h1, h2]) (by rw [H.out.2]; simp [h1, h2]), rfl⟩

/-- The table of default rights, and that of names. -/
def dflt (k : Nat) : Int := [0, 3779, 1743, 1731, 255, 255, 255, 211, 243, 207, 219, 2527].getD k 0
def nameB (k : Nat) : ByteArray := [⟨#[]⟩, ⟨#[106, 111, 98]⟩, ⟨#[112, 114, 111, 99, 101, 115, 115]⟩, ⟨#[116, 104, 114, 101, 97, 100]⟩, ⟨#[99, 104, 97, 110, 110, 101, 108]⟩, ⟨#[115, 111, 99, 107, 101, 116]⟩, ⟨#[102, 105, 102, 111]⟩, ⟨#[101, 118, 101, 110, 116]⟩, ⟨#[101, 118, 101, 110, 116, 112, 97, 105, 114]⟩, ⟨#[112, 111, 114, 116]⟩, ⟨#[116, 105, 109, 101, 114]⟩, ⟨#[118, 109, 111]⟩].getD k ⟨#[]⟩
/-- The two tables lie in the heap as they were laid. -/
def Defs (w : World) : Prop := ∀ k, k < 12 → w.cell? ⟨0, k, none⟩ = some (.int .i64 (dflt k))
def Names (w : World) : Prop := ∀ k, k < 12 → w.cell? ⟨1, k, none⟩ = some (.string (nameB k))

theorem default_in (k : Nat) (w : World) (h1 : 1 ≤ k) (h2 : k ≤ 11) (hw : Defs w) :
    Calls Tryd.prog 9 #[.int .i64 k] w fun e w' => e = .returned (.int .i64 (dflt k)) ∧ w = w' := by
  have hc := hw k (by omega)
  have hk : kindB (k : Int) = true := by simp [kindB]; omega
  clear hw
  go_enter Tryd.func9, Tryd.ntmps9
  go_wp2_with (go_at_call 27; (with_reducible refine (isKind_any _ _).mono ?_); rintro e w' ⟨rfl, rfl⟩)
  go_ret
  exact ⟨rfl, rfl⟩
theorem default_out (k : Int) (w : World) (h : kindB k = false) :
    Calls Tryd.prog 9 #[.int .i64 k] w fun e w' => e = .returned (.int .i64 0) ∧ w = w' := by
  go_enter Tryd.func9, Tryd.ntmps9
  go_wp2_with (go_at_call 27; (with_reducible refine (isKind_any _ _).mono ?_); rintro e w' ⟨rfl, rfl⟩)
  go_ret
  exact ⟨rfl, rfl⟩
theorem name_in (k : Nat) (w : World) (h1 : 1 ≤ k) (h2 : k ≤ 11) (hw : Names w) :
    Calls Tryd.prog 13 #[.int .i64 k] w fun e w' => e = .returned (.string (nameB k)) ∧ w = w' := by
  have hc := hw k (by omega)
  have hk : kindB (k : Int) = true := by simp [kindB]; omega
  clear hw
  go_enter Tryd.func13, Tryd.ntmps13
  go_wp2_with (go_at_call 27; (with_reducible refine (isKind_any _ _).mono ?_); rintro e w' ⟨rfl, rfl⟩)
  go_ret
  exact ⟨rfl, rfl⟩
theorem name_out (k : Int) (w : World) (h : kindB k = false) :
    Calls Tryd.prog 13 #[.int .i64 k] w fun e w' => e = .returned (.string ⟨#[]⟩) ∧ w = w' := by
  go_enter Tryd.func13, Tryd.ntmps13
  go_wp2_with (go_at_call 27; (with_reducible refine (isKind_any _ _).mono ?_); rintro e w' ⟨rfl, rfl⟩)
  go_ret
  exact ⟨rfl, rfl⟩

/-- Are all bits of the second in the first? -/
theorem sub_any (a b : Int) (ha : fit a) (hb : fit b) (w : World) :
    Calls Tryd.prog 18 #[.int .i64 a, .int .i64 b] w fun e w' => e = .returned (.bool (hasB a b)) ∧ w = w' := by
  go_enter Tryd.func18, Tryd.ntmps18
  go_wp2
  go_loop [5] (fun i => ∃ k : Nat, k ≤ 64 ∧ i = .int .i64 k ∧ ∀ j, j < k → bitB b j = true → bitB a j = true) (fun i => 64 - (intOf i).toNat)
  case atStart => exact ⟨0, by omega, rfl, fun j hj => by omega⟩
  case round =>
    obtain ⟨k, hk, rfl, hall⟩ := hrel
    have HA : Hid (∀ j, j < k → bitB b j = true → bitB a j = true) := Lib.hid hall
    clear hall
    by_cases hlt : k < 64
    · have c1 := rhas_any b k hb hlt
      have c2 := rhas_any a k ha hlt
      rcases hbk : bitB b k with _ | _ <;> rcases hak : bitB a k with _ | _
      all_goals
        rw [hbk] at c1; rw [hak] at c2
        have HB : Hid (bitB b k = _) := Lib.hid hbk
        have HK : Hid (bitB a k = _) := Lib.hid hak
        clear hbk hak
        go_wp2_with (first | (go_at_call 15; (with_reducible refine (c1 _).mono ?_); rintro e w' ⟨rfl, rfl⟩) | (go_at_call 15; (with_reducible refine (c2 _).mono ?_); rintro e w' ⟨rfl, rfl⟩))
        first
        | (go_ret
           refine ⟨ret_bool ?_, rfl⟩
           symm
           rw [← Bool.not_eq_true, hasB_iff a b hb]
           intro h
           have := h k hlt HB.out
           rw [HK.out] at this
           cases this)
        | (go_round
           case rel =>
             refine ⟨k + 1, by omega, by go_num, fun j hj h => ?_⟩
             rcases Nat.lt_succ_iff_lt_or_eq.1 hj with h' | rfl
             · exact HA.out j h' h
             · first | exact HK.out | (rw [HB.out] at h; cases h)
           case measure => simp [intOf]; omega)
    · obtain rfl : k = 64 := by omega
      go_wp2
      go_ret
      exact ⟨ret_bool ((hasB_iff a b hb).2 HA.out).symm, rfl⟩
end Go.Proofs.YtefcklkepoihkaaDoor
