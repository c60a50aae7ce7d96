/-
  The statement RightsDefaults answers true at all numbers, where the two tables lie as they were laid.
-/
import Derived.Test.YtefcklkepoihkaaDoorLawTexts
import Derived.Test.YtefcklkepoihkaaDoorRRefD
import Derived.Test.YtefcklkepoihkaaDoorRKinds
namespace Go.Proofs.YtefcklkepoihkaaDoor
open Go.ChangeShapes Go.WideShapes Go.ChangeAt Go.RowKit

theorem below_alloc {w W : World} (hb : Below w.heap.size w W) (o : Obj) : Below w.heap.size w (W.alloc o) := hb.alloc hb.size _
theorem kinds_at (w W : World) (hb : Below w.heap.size w W) :
    Calls Tryd.prog 12 #[] W fun e w' => ∃ g cap, e = .returned (.slice (some ⟨g, 0, none⟩) 11 cap) ∧ Hid (∀ j : Nat, j < 11 → w'.cell? ⟨g, j, none⟩ = some (.int .i64 ((j : Int) + 1))) ∧ Below w.heap.size w w' :=
  (kinds_any W).mono fun _ _ ⟨g, cap, he, hc, h2⟩ => ⟨g, cap, he, Lib.hid (fun j hj => by rw [hc j hj]; rfl), hb.trans (h2.mono hb.size)⟩
theorem name_at (w : World) (hn : Names w) (k : Nat) (h1 : 1 ≤ k) (h2 : k ≤ 11) (W : World) (hb : Below w.heap.size w W) :
    Calls Tryd.prog 13 #[.int .i64 k] W fun e w' => e = .returned (.string (nameB k)) ∧ W = w' := name_in k W h1 h2 (hn.below hb)
theorem dflt_right (k : Nat) (h : k < 12) : hasB 4095 (dflt k) = true := by
  have : ∀ k, k < 12 → hasB 4095 (dflt k) = true := by decide +kernel
  exact this k h
theorem names_get (k : Nat) (h : k < 12) : (#[Value.string ⟨#[]⟩, .string ⟨#[106, 111, 98]⟩, .string ⟨#[112, 114, 111, 99, 101, 115, 115]⟩, .string ⟨#[116, 104, 114, 101, 97, 100]⟩, .string ⟨#[99, 104, 97, 110, 110, 101, 108]⟩, .string ⟨#[115, 111, 99, 107, 101, 116]⟩, .string ⟨#[102, 105, 102, 111]⟩, .string ⟨#[101, 118, 101, 110, 116]⟩, .string ⟨#[101, 118, 101, 110, 116, 112, 97, 105, 114]⟩, .string ⟨#[112, 111, 114, 116]⟩, .string ⟨#[116, 105, 109, 101, 114]⟩, .string ⟨#[118, 109, 111]⟩] : Array Value)[k]? = some (.string (nameB k)) := by
  match k, h with
  | 0, _ => rfl
  | 1, _ => rfl
  | 2, _ => rfl
  | 3, _ => rfl
  | 4, _ => rfl
  | 5, _ => rfl
  | 6, _ => rfl
  | 7, _ => rfl
  | 8, _ => rfl
  | 9, _ => rfl
  | 10, _ => rfl
  | 11, _ => rfl
set_option maxHeartbeats 4000000 in
set_option maxRecDepth 20000 in
theorem defaults_in (k : Nat) (h1 : 1 ≤ k) (h2 : k ≤ 11) (w : World) (hd : Defs w) (hn : Names w) :
    Calls Tryd.prog 3 #[.int .i64 k] w fun e w' => e = .returned (.bool true) ∧ Below w.heap.size w w' := by
  have cA := awake_at w hd
  have c1 := default_in k w h1 h2 hd
  have c2 := rdef_in k h1 h2
  have c3 := right_any (dflt k)
  rw [dflt_right k (by omega)] at c3
  have c4 := kinds_at w
  have c5 := name_at w hn k h1 h2
  have hx := names_get k (by omega)
  clear hd hn
  generalize dflt k = d at c1 c2 c3
  generalize nameB k = N at c5 hx
  have hb0 := Below.refl w.heap.size w
  go_enter Tryd.func3, Tryd.ntmps3
  go_wp2_with (first
    | (go_at_call 9; (with_reducible refine c1.mono ?_); rintro e w' ⟨rfl, rfl⟩)
    | (go_at_call 10; (with_reducible refine (lift (by assumption) (c2 _)).mono ?_); rintro e w' ⟨rfl, hb⟩)
    | (go_at_call 11; (with_reducible refine (c3 _).mono ?_); rintro e w' ⟨rfl, rfl⟩)
    | (go_at_call 12; (with_reducible refine (c4 _ (by first | assumption | exact below_alloc (by assumption) _)).mono ?_); rintro e w' ⟨g, cap, rfl, HC, hb⟩)
    | (go_at_call 13; (with_reducible refine (c5 _ (by assumption)).mono ?_); rintro e w' ⟨rfl, rfl⟩))
  go_loop [45] (fun i => ∃ j : Nat, j ≤ 11 ∧ i = .int .i64 j) (fun i => 11 - (intOf i).toNat)
  case atStart => exact ⟨0, by omega, rfl⟩
  case round =>
    obtain ⟨j, hj, rfl⟩ := hrel
    by_cases hlt : j < 11
    · have hc := HC.out j hlt
      go_wp2
      go_round
      case rel => exact ⟨j + 1, by omega, by go_num⟩
      case measure => simp [intOf]; omega
    · obtain rfl : j = 11 := by omega
      go_wp2_with (go_at_call 14; (with_reducible refine (cA _ (by assumption)).mono ?_); rintro e w' ⟨rfl, hb⟩)
      go_ret
      exact ⟨rfl, by assumption⟩
theorem name_out_at (k : Int) (h : kindB k = false) (w W : World) (_hb : Below w.heap.size w W) :
    Calls Tryd.prog 13 #[.int .i64 k] W fun e w' => e = .returned (.string ⟨#[]⟩) ∧ W = w' := name_out k W h
set_option maxHeartbeats 4000000 in
set_option maxRecDepth 20000 in
theorem defaults_out (k : Int) (hk : kindB k = false) (w : World) (hd : Defs w) :
    Calls Tryd.prog 3 #[.int .i64 k] w fun e w' => e = .returned (.bool true) ∧ Below w.heap.size w w' := by
  have cA := awake_at w hd
  have c1 := default_out k w hk
  have c2 := fun w => rdef_out k w hk
  have c3 := right_any 0
  rw [show hasB 4095 0 = true from (right_iff 0).2 (by omega)] at c3
  have c4 := kinds_at w
  have c5 := name_out_at k hk w
  have hcase : (¬ 0 < k) ∨ (0 < k ∧ ¬ k < 12) := by
    simp [kindB] at hk; omega
  clear hd hk
  have hb0 := Below.refl w.heap.size w
  rcases hcase with h0 | ⟨h0, h12⟩
  all_goals
    go_enter Tryd.func3, Tryd.ntmps3
    go_wp2_with (first
      | (go_at_call 9; (with_reducible refine c1.mono ?_); rintro e w' ⟨rfl, rfl⟩)
      | (go_at_call 10; (with_reducible refine (lift (by assumption) (c2 _)).mono ?_); rintro e w' ⟨rfl, hb⟩)
      | (go_at_call 11; (with_reducible refine (c3 _).mono ?_); rintro e w' ⟨rfl, rfl⟩)
      | (go_at_call 12; (with_reducible refine (c4 _ (by first | assumption | exact below_alloc (by assumption) _)).mono ?_); rintro e w' ⟨g, cap, rfl, HC, hb⟩)
      | (go_at_call 13; (with_reducible refine (c5 _ (by assumption)).mono ?_); rintro e w' ⟨rfl, rfl⟩))
    go_loop [45] (fun i => ∃ j : Nat, j ≤ 11 ∧ i = .int .i64 j) (fun i => 11 - (intOf i).toNat)
    case atStart => exact ⟨0, by omega, rfl⟩
    case round =>
      obtain ⟨j, hj, rfl⟩ := hrel
      by_cases hlt : j < 11
      · have hc := HC.out j hlt
        go_wp2
        go_round
        case rel => exact ⟨j + 1, by omega, by go_num⟩
        case measure => simp [intOf]; omega
      · obtain rfl : j = 11 := by omega
        go_wp2_with (go_at_call 14; (with_reducible refine (cA _ (by assumption)).mono ?_); rintro e w' ⟨rfl, hb⟩)
        go_ret
        exact ⟨rfl, by assumption⟩
theorem defaults_walk (a : Int) (w : World) (hd : Defs w) (hn : Names w) :
    Calls Tryd.prog 3 #[.int .i64 a] w fun e w' => e = .returned (.bool true) ∧ Below w.heap.size w w' := by
  cases hk : kindB a with
  | false => exact defaults_out a hk w hd
  | true =>
    have h : 1 ≤ a ∧ a ≤ 11 := by simpa [kindB] using hk
    obtain ⟨k, rfl⟩ : ∃ k : Nat, a = k := ⟨a.toNat, by omega⟩
    exact defaults_in k (by omega) (by omega) w hd hn
end Go.Proofs.YtefcklkepoihkaaDoor
