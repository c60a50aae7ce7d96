/-
  What awake answers. No conditions.
-/
import Derived.Test.YtcnellkoejhofaaQTell
namespace Go.Proofs.Ytcnellkoejhofaa
open Go.ChangeShapes Go.WideShapes Go.ChangeAt Go.RowKit

theorem fit_small (x : Int) (h : -1000000 ≤ x ∧ x ≤ 1000000) : fit x := by unfold fit; omega
theorem aw1 {w0 w : World} {c : Nat} (h : PSt w0 w c 2 2 [] [] NoBlock) : Calls Try.prog 15 #[.pointer (some ⟨c, 0, none⟩), .int .i64 5, .int .i64 9, .int .i64 3] w fun x w' => x = .returned (.int .i64 0) ∧ PSt w0 w' c 2 2 [] [⟨5, 9, 3⟩] NoBlock :=
  (h.watch 5 9 3 (fit_small _ (by omega))).mono (fun _ _ hh => ⟨hh.1, hh.2.1⟩)
theorem aw2 {w0 w : World} {c : Nat} (h : PSt w0 w c 2 2 [] [⟨5, 9, 3⟩] NoBlock) : Calls Try.prog 17 #[.pointer (some ⟨c, 0, none⟩), .int .i64 5, .int .i64 1] w fun x w' => x = .returned (.int .i64 1) ∧ PSt w0 w' c 2 2 [⟨9, 5, 1⟩] [] NoBlock := by
  have e1 : meetB 3 1 = true := by decide
  have e2 : telN [⟨5, 9, 3⟩] 5 1 = 1 := by simp [telN, goneN, ofO, e1]
  have e3 : packs (ofO [⟨5, 9, 3⟩] 5) 5 1 = [⟨9, 5, 1⟩] := by simp [packs, ofO, e1]
  have e4 : telL [⟨5, 9, 3⟩] 5 1 = [] := by simp [telL, dropW, e1]
  refine (h.tell 5 1 (fit_small _ (by omega))).mono (fun x w' hh => ?_)
  rw [e2, e3, e4] at hh
  exact ⟨hh.1, hh.2.1⟩
theorem aw3 {w0 w : World} {c : Nat} (h : PSt w0 w c 2 2 [⟨9, 5, 1⟩] [] NoBlock) : Calls Try.prog 12 #[.pointer (some ⟨c, 0, none⟩)] w fun x w' => x = .returned (.tuple #[.agg #[.int .i64 9, .int .i64 5, .int .i64 1], .int .i64 0]) ∧ PSt w0 w' c 2 2 [] [] NoBlock :=
  (h.take).mono (fun _ _ hh => ⟨hh.1, hh.2.1⟩)
theorem aw4 {w0 w : World} {c : Nat} (h : PSt w0 w c 2 2 [] [] NoBlock) : Calls Try.prog 25 #[.pointer (some ⟨c, 0, none⟩)] w fun x w' => x = .returned (.int .i64 0) ∧ w = w' := h.watches
set_option maxRecDepth 20000 in
set_option maxHeartbeats 1000000 in
theorem awake15 (w : World) : Calls Try.prog 9 #[] w fun e w' => e = .returned (.bool true) ∧ Turn NoBlock w w' := by
  have c1 := Lib.hid (new_yes 2 2 w (by omega) (by omega))
  go_enter Try.func9, Try.ntmps9
  go_wp2_with (first
    | (go_at_call 8; (with_reducible refine c1.out.mono ?_); rintro x w1 ⟨c, rfl, k1, -, -⟩; have K1 := Lib.hid k1; clear k1)
    | (go_at_call 15; (with_reducible refine (aw1 K1.out).mono ?_); rintro x w2 ⟨rfl, k2⟩; have K2 := Lib.hid k2; clear k2)
    | (go_at_call 17; (with_reducible refine (aw2 K2.out).mono ?_); rintro x w3 ⟨rfl, k3⟩; have K3 := Lib.hid k3; clear k3)
    | (go_at_call 12; (with_reducible refine (aw3 K3.out).mono ?_); rintro x w4 ⟨rfl, k4⟩; have K4 := Lib.hid k4; clear k4)
    | (go_at_call 25; (with_reducible refine (aw4 (K4.out.past ((Turn.refl NoBlock w4).alloc (.cells #[.int .i64 9, .int .i64 5, .int .i64 1] 37)))).mono ?_); rintro x w5 ⟨rfl, rfl⟩))
  go_ret
  exact ⟨rfl, TT K4.out.turn ((Turn.refl _ _).alloc _)⟩
end Go.Proofs.Ytcnellkoejhofaa
