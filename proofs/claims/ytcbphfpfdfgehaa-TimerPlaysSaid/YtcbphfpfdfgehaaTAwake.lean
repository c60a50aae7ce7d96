/-
  What awake answers. No conditions.
-/
import Derived.Test.YtcbphfpfdfgehaaTAdv2
namespace Go.Proofs.Ytcbphfpfdfgehaa
open Go.ChangeShapes Go.WideShapes Go.ChangeAt Go.RowKit

theorem TSt.same {w0 w : World} {c : Nat} {most now : Int} {L L' : List En} {X : Nat → Prop} (h : TSt w0 w c most now L X) (e : L = L') : TSt w0 w c most now L' X := e ▸ h
theorem fit_small (x : Int) (h : -1000000 ≤ x ∧ x ≤ 1000000) : fit x := by unfold fit; omega
theorem aw1 {w0 w : World} {c : Nat} (h : TSt w0 w c 4 0 [] NoBlock) : Calls Try.prog 23 #[.pointer (some ⟨c, 0, none⟩), .int .i64 5, .int .i64 10] w fun x w' => x = .returned (.tuple #[.bool false, .int .i64 0]) ∧ TSt w0 w' c 4 0 [⟨5, 10⟩] NoBlock :=
  (h.set 5 10 (fit_small _ (by omega)) (fit_small _ (by omega))).mono (fun _ _ hh => ⟨hh.1, hh.2.1⟩)
theorem aw2 {w0 w : World} {c : Nat} (h : TSt w0 w c 4 0 [⟨5, 10⟩] NoBlock) : Calls Try.prog 23 #[.pointer (some ⟨c, 0, none⟩), .int .i64 2, .int .i64 10] w fun x w' => x = .returned (.tuple #[.bool false, .int .i64 0]) ∧ TSt w0 w' c 4 0 [⟨2, 10⟩, ⟨5, 10⟩] NoBlock :=
  (h.set 2 10 (fit_small _ (by omega)) (fit_small _ (by omega))).mono (fun _ _ hh => ⟨hh.1, hh.2.1⟩)
theorem aw3 {w0 w : World} {c : Nat} (h : TSt w0 w c 4 0 [⟨2, 10⟩, ⟨5, 10⟩] NoBlock) : Calls Try.prog 28 #[.pointer (some ⟨c, 0, none⟩), .int .i64 10] w fun x w' => ∃ g o cp, x = .returned (.tuple #[.slice (some ⟨g, o, none⟩) 2 cp, .int .i64 0]) ∧ w'.cell? ⟨g, o, none⟩ = some (.int .i64 2) ∧ TSt w0 w' c 4 10 [] NoBlock := by
  refine (h.advance_yes 10 10 (by omega) (by omega) (by omega)).mono ?_
  rintro x w' ⟨v, rfl, hv, ht, -, -⟩
  have hv' : WRow w' 3 1 v 2 [.int .i64 2, .int .i64 5] := hv
  obtain ⟨g, o, cp, rfl, -, -, -, hc, -⟩ := hv'.shape (by omega)
  exact ⟨g, o, cp, rfl, hc 0 (by omega), (ht.same (L' := []) rfl).fewer (fun k hk => hk.elim)⟩
set_option maxRecDepth 20000 in
set_option maxHeartbeats 1000000 in
theorem awake14 (w : World) : Calls Try.prog 22 #[] w fun e w' => e = .returned (.bool true) ∧ Turn NoBlock w w' := by
  have c1 := Lib.hid (new_yes 4 w (by omega) (by omega))
  go_enter Try.func22, Try.ntmps22
  go_wp2_with (first
    | (go_at_call 21; (with_reducible refine c1.out.mono ?_); rintro x w1 ⟨c, rfl, k1, -, -⟩; have K1 := Lib.hid k1; clear k1)
    | (go_at_call 23; (with_reducible refine (aw1 K1.out).mono ?_); rintro x w2 ⟨rfl, k2⟩; have K2 := Lib.hid k2; clear k2)
    | (go_at_call 23; (with_reducible refine (aw2 K2.out).mono ?_); rintro x w3 ⟨rfl, k3⟩; have K3 := Lib.hid k3; clear k3)
    | (go_at_call 28; (with_reducible refine (aw3 K3.out).mono ?_); rintro x w4 ⟨g, o, cp, rfl, hc, k4⟩; have K4 := Lib.hid k4; clear k4)
    | (go_at_call 35; (with_reducible refine (K4.out.now').mono ?_); rintro x w5 ⟨rfl, rfl⟩))
  go_ret
  exact ⟨rfl, K4.out.turn⟩
end Go.Proofs.Ytcbphfpfdfgehaa
