/-
  TimerPlays' walk where nothing is played. No conditions but that the calls can be read.
-/
import Derived.Test.YtcbphfpfdfgehaaTViewO
import Derived.Test.YtcbphfpfdfgehaaTPlSt
import Derived.Deep.LoopGhost
import Derived.Deep.Cut
import Derived.Deep.CutBlock
namespace Go.Proofs.Ytcbphfpfdfgehaa
open Go.ChangeShapes Go.WideShapes Go.ChangeAt Go.RowKit

set_option maxRecDepth 100000 in
set_option maxHeartbeats 8000000 in
theorem plays_bad (most : Int) (p : Option Addr) (len cap : Nat) (w : World) (hb : most < 0 ∨ 65536 < most) :
    Calls Try.prog 4 #[.int .i64 most, .slice p len cap] w fun e w' => e = .returned (.bool true) ∧ Turn NoBlock w w' := by
  have cA := Lib.hid awake14
  have cN := Lib.hid (new_no most w hb)
  rcases hb with hb | hb
  · go_enter Try.func4, Try.ntmps4
    go_wp2_with (first
      | (go_at_call 21; (with_reducible refine cN.out.mono ?_); rintro x w1 ⟨rfl, rfl⟩)
      | (go_at_call 22; (with_reducible refine (cA.out _).mono ?_); rintro x w9 ⟨rfl, t9⟩))
    go_ret
    exact ⟨rfl, t9⟩
  · have hb0 : decide (most < 0) = false := by simp; omega
    go_enter Try.func4, Try.ntmps4
    go_wp2_with (first
      | (go_at_call 21; (with_reducible refine cN.out.mono ?_); rintro x w1 ⟨rfl, rfl⟩)
      | (go_at_call 22; (with_reducible refine (cA.out _).mono ?_); rintro x w9 ⟨rfl, t9⟩))
    go_ret
    exact ⟨rfl, t9⟩
set_option maxRecDepth 100000 in
set_option maxHeartbeats 8000000 in
theorem plays_long (most : Int) (p : Option Addr) (len cap : Nat) (w : World) (h0 : 0 ≤ most) (h1 : most ≤ 65536) (hlen : 150 < len) :
    Calls Try.prog 4 #[.int .i64 most, .slice p len cap] w fun e w' => e = .returned (.bool true) ∧ Turn NoBlock w w' := by
  have cA := Lib.hid awake14
  have cN := Lib.hid (new_yes most w h0 h1)
  have hb0 : decide (most < 0) = false := by simp; omega
  have hb1 : decide (65536 < most) = false := by simp; omega
  have hd : decide ((len : Int) > 150) = true := by simp; omega
  go_enter Try.func4, Try.ntmps4
  go_wp2_with (first
    | (go_at_call 21; (with_reducible refine cN.out.mono ?_); rintro x w1 ⟨c, rfl, k1, -, -⟩; have K1 := Lib.hid k1; clear k1)
    | (go_at_call 22; (with_reducible refine (cA.out _).mono ?_); rintro x w9 ⟨rfl, t9⟩))
  go_ret
  exact ⟨rfl, TT K1.out.turn t9⟩
end Go.Proofs.Ytcbphfpfdfgehaa
