/-
  The document's answer for the default rights of a type. Conditions: none.
-/
import Derived.Test.YtefcklkepoihkaaDoorRRef
namespace Go.Proofs.YtefcklkepoihkaaDoor
open Go.ChangeShapes Go.WideShapes Go.ChangeAt Go.RowKit

theorem below_drewN {B : Nat} {a w : World} (h : Below B a w) (n : Nat) : Below B a (w.drewN n) := ⟨h.os, h.tape, h.output, h.size, h.block⟩
theorem quiet_flip {P : Program} {f : FuncId} {args : Array Value} {w : World} {n : Nat} {v : Value}
    (h : Calls P f args (w.drewN n) fun e w' => e = .returned v ∧ w.drewN n = w') : Calls P f args (w.drewN n) fun e w'' => e = .returned v ∧ ∃ m, w'' = w.drewN m :=
  h.mono fun _ _ ⟨he, hm⟩ => ⟨he, n, hm.symm⟩
theorem of_dtai (w : World) : Calls Tryd.prog 26 #[.string ⟨#[68, 84, 65, 73]⟩] w fun e w' => e = .returned (.int .i64 195) ∧ w = w' :=
  (rof_any ⟨#[68, 84, 65, 73]⟩ (by decide) w).mono fun _ _ h => ⟨h.1.trans (ret_int (by decide +kernel)), h.2⟩
theorem of_m1 (w : World) : Calls Tryd.prog 26 #[.string ⟨#[75, 71, 89]⟩] w fun e w' => e = .returned (.int .i64 3584) ∧ w = w' :=
  (rof_any ⟨#[75, 71, 89]⟩ (by decide) w).mono fun _ _ h => ⟨h.1.trans (ret_int (by decide +kernel)), h.2⟩
theorem of_m2 (w : World) : Calls Tryd.prog 26 #[.string ⟨#[82, 87, 75, 71]⟩] w fun e w' => e = .returned (.int .i64 1548) ∧ w = w' :=
  (rof_any ⟨#[82, 87, 75, 71]⟩ (by decide) w).mono fun _ _ h => ⟨h.1.trans (ret_int (by decide +kernel)), h.2⟩
theorem of_m3 (w : World) : Calls Tryd.prog 26 #[.string ⟨#[75, 71]⟩] w fun e w' => e = .returned (.int .i64 1536) ∧ w = w' :=
  (rof_any ⟨#[75, 71]⟩ (by decide) w).mono fun _ _ h => ⟨h.1.trans (ret_int (by decide +kernel)), h.2⟩
theorem of_m4 (w : World) : Calls Tryd.prog 26 #[.string ⟨#[82, 87, 83, 80]⟩] w fun e w' => e = .returned (.int .i64 60) ∧ w = w' :=
  (rof_any ⟨#[82, 87, 83, 80]⟩ (by decide) w).mono fun _ _ h => ⟨h.1.trans (ret_int (by decide +kernel)), h.2⟩
theorem of_m5 (w : World) : Calls Tryd.prog 26 #[.string ⟨#[82, 87, 83, 80]⟩] w fun e w' => e = .returned (.int .i64 60) ∧ w = w' :=
  (rof_any ⟨#[82, 87, 83, 80]⟩ (by decide) w).mono fun _ _ h => ⟨h.1.trans (ret_int (by decide +kernel)), h.2⟩
theorem of_m6 (w : World) : Calls Tryd.prog 26 #[.string ⟨#[82, 87, 83, 80]⟩] w fun e w' => e = .returned (.int .i64 60) ∧ w = w' :=
  (rof_any ⟨#[82, 87, 83, 80]⟩ (by decide) w).mono fun _ _ h => ⟨h.1.trans (ret_int (by decide +kernel)), h.2⟩
theorem of_m7 (w : World) : Calls Tryd.prog 26 #[.string ⟨#[83]⟩] w fun e w' => e = .returned (.int .i64 16) ∧ w = w' :=
  (rof_any ⟨#[83]⟩ (by decide) w).mono fun _ _ h => ⟨h.1.trans (ret_int (by decide +kernel)), h.2⟩
theorem of_m8 (w : World) : Calls Tryd.prog 26 #[.string ⟨#[83, 80]⟩] w fun e w' => e = .returned (.int .i64 48) ∧ w = w' :=
  (rof_any ⟨#[83, 80]⟩ (by decide) w).mono fun _ _ h => ⟨h.1.trans (ret_int (by decide +kernel)), h.2⟩
theorem of_m9 (w : World) : Calls Tryd.prog 26 #[.string ⟨#[82, 87]⟩] w fun e w' => e = .returned (.int .i64 12) ∧ w = w' :=
  (rof_any ⟨#[82, 87]⟩ (by decide) w).mono fun _ _ h => ⟨h.1.trans (ret_int (by decide +kernel)), h.2⟩
theorem of_m10 (w : World) : Calls Tryd.prog 26 #[.string ⟨#[87, 83]⟩] w fun e w' => e = .returned (.int .i64 24) ∧ w = w' :=
  (rof_any ⟨#[87, 83]⟩ (by decide) w).mono fun _ _ h => ⟨h.1.trans (ret_int (by decide +kernel)), h.2⟩
theorem of_m11 (w : World) : Calls Tryd.prog 26 #[.string ⟨#[82, 87, 77, 89, 83]⟩] w fun e w' => e = .returned (.int .i64 2332) ∧ w = w' :=
  (rof_any ⟨#[82, 87, 77, 89, 83]⟩ (by decide) w).mono fun _ _ h => ⟨h.1.trans (ret_int (by decide +kernel)), h.2⟩
set_option maxRecDepth 20000 in
theorem rdef_1 (w : World) : Calls Tryd.prog 10 #[.int .i64 1] w fun e w' => e = .returned (.int .i64 3779) ∧ Below w.heap.size w w' := by
  go_enter Tryd.func10, Tryd.ntmps10
  go_wp2
  go_quiet (first | (go_at_call 26; with_reducible exact quiet_flip (of_dtai _)) | (go_at_call 26; with_reducible exact quiet_flip (of_m1 _)))
  go_wp2
  go_ret
  exact ⟨rfl, below_drewN ((Below.refl _ _).alloc (Nat.le_refl _) _) _⟩
set_option maxRecDepth 20000 in
theorem rdef_2 (w : World) : Calls Tryd.prog 10 #[.int .i64 2] w fun e w' => e = .returned (.int .i64 1743) ∧ Below w.heap.size w w' := by
  go_enter Tryd.func10, Tryd.ntmps10
  go_wp2
  go_quiet (first | (go_at_call 26; with_reducible exact quiet_flip (of_dtai _)) | (go_at_call 26; with_reducible exact quiet_flip (of_m2 _)))
  go_wp2
  go_ret
  exact ⟨rfl, below_drewN ((Below.refl _ _).alloc (Nat.le_refl _) _) _⟩
set_option maxRecDepth 20000 in
theorem rdef_3 (w : World) : Calls Tryd.prog 10 #[.int .i64 3] w fun e w' => e = .returned (.int .i64 1731) ∧ Below w.heap.size w w' := by
  go_enter Tryd.func10, Tryd.ntmps10
  go_wp2
  go_quiet (first | (go_at_call 26; with_reducible exact quiet_flip (of_dtai _)) | (go_at_call 26; with_reducible exact quiet_flip (of_m3 _)))
  go_wp2
  go_ret
  exact ⟨rfl, below_drewN ((Below.refl _ _).alloc (Nat.le_refl _) _) _⟩
set_option maxRecDepth 20000 in
theorem rdef_4 (w : World) : Calls Tryd.prog 10 #[.int .i64 4] w fun e w' => e = .returned (.int .i64 255) ∧ Below w.heap.size w w' := by
  go_enter Tryd.func10, Tryd.ntmps10
  go_wp2
  go_quiet (first | (go_at_call 26; with_reducible exact quiet_flip (of_dtai _)) | (go_at_call 26; with_reducible exact quiet_flip (of_m4 _)))
  go_wp2
  go_ret
  exact ⟨rfl, below_drewN ((Below.refl _ _).alloc (Nat.le_refl _) _) _⟩
set_option maxRecDepth 20000 in
theorem rdef_5 (w : World) : Calls Tryd.prog 10 #[.int .i64 5] w fun e w' => e = .returned (.int .i64 255) ∧ Below w.heap.size w w' := by
  go_enter Tryd.func10, Tryd.ntmps10
  go_wp2
  go_quiet (first | (go_at_call 26; with_reducible exact quiet_flip (of_dtai _)) | (go_at_call 26; with_reducible exact quiet_flip (of_m5 _)))
  go_wp2
  go_ret
  exact ⟨rfl, below_drewN ((Below.refl _ _).alloc (Nat.le_refl _) _) _⟩
set_option maxRecDepth 20000 in
theorem rdef_6 (w : World) : Calls Tryd.prog 10 #[.int .i64 6] w fun e w' => e = .returned (.int .i64 255) ∧ Below w.heap.size w w' := by
  go_enter Tryd.func10, Tryd.ntmps10
  go_wp2
  go_quiet (first | (go_at_call 26; with_reducible exact quiet_flip (of_dtai _)) | (go_at_call 26; with_reducible exact quiet_flip (of_m6 _)))
  go_wp2
  go_ret
  exact ⟨rfl, below_drewN ((Below.refl _ _).alloc (Nat.le_refl _) _) _⟩
set_option maxRecDepth 20000 in
theorem rdef_7 (w : World) : Calls Tryd.prog 10 #[.int .i64 7] w fun e w' => e = .returned (.int .i64 211) ∧ Below w.heap.size w w' := by
  go_enter Tryd.func10, Tryd.ntmps10
  go_wp2
  go_quiet (first | (go_at_call 26; with_reducible exact quiet_flip (of_dtai _)) | (go_at_call 26; with_reducible exact quiet_flip (of_m7 _)))
  go_wp2
  go_ret
  exact ⟨rfl, below_drewN ((Below.refl _ _).alloc (Nat.le_refl _) _) _⟩
set_option maxRecDepth 20000 in
theorem rdef_8 (w : World) : Calls Tryd.prog 10 #[.int .i64 8] w fun e w' => e = .returned (.int .i64 243) ∧ Below w.heap.size w w' := by
  go_enter Tryd.func10, Tryd.ntmps10
  go_wp2
  go_quiet (first | (go_at_call 26; with_reducible exact quiet_flip (of_dtai _)) | (go_at_call 26; with_reducible exact quiet_flip (of_m8 _)))
  go_wp2
  go_ret
  exact ⟨rfl, below_drewN ((Below.refl _ _).alloc (Nat.le_refl _) _) _⟩
set_option maxRecDepth 20000 in
theorem rdef_9 (w : World) : Calls Tryd.prog 10 #[.int .i64 9] w fun e w' => e = .returned (.int .i64 207) ∧ Below w.heap.size w w' := by
  go_enter Tryd.func10, Tryd.ntmps10
  go_wp2
  go_quiet (first | (go_at_call 26; with_reducible exact quiet_flip (of_dtai _)) | (go_at_call 26; with_reducible exact quiet_flip (of_m9 _)))
  go_wp2
  go_ret
  exact ⟨rfl, below_drewN ((Below.refl _ _).alloc (Nat.le_refl _) _) _⟩
set_option maxRecDepth 20000 in
theorem rdef_10 (w : World) : Calls Tryd.prog 10 #[.int .i64 10] w fun e w' => e = .returned (.int .i64 219) ∧ Below w.heap.size w w' := by
  go_enter Tryd.func10, Tryd.ntmps10
  go_wp2
  go_quiet (first | (go_at_call 26; with_reducible exact quiet_flip (of_dtai _)) | (go_at_call 26; with_reducible exact quiet_flip (of_m10 _)))
  go_wp2
  go_ret
  exact ⟨rfl, below_drewN ((Below.refl _ _).alloc (Nat.le_refl _) _) _⟩
set_option maxRecDepth 20000 in
theorem rdef_11 (w : World) : Calls Tryd.prog 10 #[.int .i64 11] w fun e w' => e = .returned (.int .i64 2527) ∧ Below w.heap.size w w' := by
  go_enter Tryd.func10, Tryd.ntmps10
  go_wp2
  go_quiet (first | (go_at_call 26; with_reducible exact quiet_flip (of_dtai _)) | (go_at_call 26; with_reducible exact quiet_flip (of_m11 _)))
  go_wp2
  go_ret
  exact ⟨rfl, below_drewN ((Below.refl _ _).alloc (Nat.le_refl _) _) _⟩
theorem rdef_in (k : Nat) (h1 : 1 ≤ k) (h2 : k ≤ 11) (w : World) :
    Calls Tryd.prog 10 #[.int .i64 k] w fun e w' => e = .returned (.int .i64 (dflt k)) ∧ Below w.heap.size w w' := by
  have hb : k = 1 ∨ k = 2 ∨ k = 3 ∨ k = 4 ∨ k = 5 ∨ k = 6 ∨ k = 7 ∨ k = 8 ∨ k = 9 ∨ k = 10 ∨ k = 11 := by omega
  rcases hb with rfl | rfl | rfl | rfl | rfl | rfl | rfl | rfl | rfl | rfl | rfl
  · exact rdef_1 w
  · exact rdef_2 w
  · exact rdef_3 w
  · exact rdef_4 w
  · exact rdef_5 w
  · exact rdef_6 w
  · exact rdef_7 w
  · exact rdef_8 w
  · exact rdef_9 w
  · exact rdef_10 w
  · exact rdef_11 w
theorem rdef_out (k : Int) (w : World) (h : kindB k = false) :
    Calls Tryd.prog 10 #[.int .i64 k] w fun e w' => e = .returned (.int .i64 0) ∧ Below w.heap.size w w' := by
  have h' : k < 1 ∨ 11 < k := by
    simp [kindB] at h; omega
  clear h
  rcases h' with h | h
  · go_enter Tryd.func10, Tryd.ntmps10
    go_wp2
    go_ret
    exact ⟨rfl, (Below.refl _ _).alloc (Nat.le_refl _) _⟩
  · have h0 : ¬ k < 1 := by omega
    go_enter Tryd.func10, Tryd.ntmps10
    go_wp2
    go_ret
    exact ⟨rfl, (Below.refl _ _).alloc (Nat.le_refl _) _⟩
end Go.Proofs.YtefcklkepoihkaaDoor
