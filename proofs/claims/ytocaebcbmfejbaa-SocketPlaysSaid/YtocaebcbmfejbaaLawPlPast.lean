/-
  SocketPlays' walk where nothing is played.
-/
import Derived.Test.YtocaebcbmfejbaaLawPlS
namespace Go.Proofs.Ytocaebcbmfejbaa
open Go.ChangeShapes Go.WideShapes Go.ChangeAt Go.RowKit

set_option maxRecDepth 20000 in
set_option maxHeartbeats 4000000 in
theorem plays_past (dg : Bool) (room : Int) (p : Option Addr) (n ca : Nat) (w : World) (h : (room < 1 ∨ 1048576 < room) ∨ (1 ≤ room ∧ room ≤ 1048576 ∧ 100 < n)) :
    Calls Try.prog 4 #[.bool dg, .int .i64 room, .slice p n ca] w fun e w' => e = .returned (.bool true) ∧ Turn NoBlock w w' := by
  have cA := Lib.hid awake12
  rcases h with h | ⟨h1, h2, h3⟩
  · have c1 := Lib.hid (knew_no dg room w h)
    have two : room < 1 ∨ (¬ room < 1 ∧ 1048576 < room) := by omega
    clear h
    rcases two with h1 | ⟨h1, h2⟩
    all_goals
      go_enter Try.func4, Try.ntmps4
      go_wp2_with (first
        | (go_at_call 22; (with_reducible refine c1.out.mono ?_); rintro e w1 ⟨rfl, rfl⟩)
        | (go_at_call 23; (with_reducible refine (cA.out _).mono ?_); rintro e w2 ⟨rfl, t2⟩))
      go_ret
      exact ⟨rfl, t2⟩
  · obtain ⟨r, rfl⟩ : ∃ r : Nat, room = r := ⟨room.toNat, by omega⟩
    have c1 := Lib.hid (knew_yes dg r w (by omega) (by omega))
    have g1 : ¬ (r : Int) < 1 := by omega
    have g2 : ¬ (1048576 : Int) < r := by omega
    have g3 : (100 : Int) < n := by omega
    clear h1 h2 h3
    go_enter Try.func4, Try.ntmps4
    go_wp2_with (first
      | (go_at_call 22; (with_reducible refine c1.out.mono ?_); rintro e w1 ⟨rfl, k1⟩; have K1 := Lib.hid k1; clear k1)
      | (go_at_call 23; (with_reducible refine (cA.out _).mono ?_); rintro e w2 ⟨rfl, t2⟩))
    go_ret
    exact ⟨rfl, TT K1.out.turn t2⟩
end Go.Proofs.Ytocaebcbmfejbaa
