/-
  PortPlays' walk, whatever comes in. No conditions but that the calls can be read.
-/
import Derived.Test.YtcnellkoejhofaaLawPl
namespace Go.Proofs.Ytcnellkoejhofaa
open Go.ChangeShapes Go.WideShapes Go.ChangeAt Go.RowKit

set_option maxRecDepth 20000 in
set_option maxHeartbeats 4000000 in
theorem pl_any (depth most : Int) (p : Option Addr) (len cap : Nat) (os : List O15) (w : World) (ho : OpsAt w p len os) :
    Calls Try.prog 3 #[.int .i64 depth, .int .i64 most, .slice p len cap] w fun e w' => e = .returned (.bool true) ∧ Turn NoBlock w w' := by
  have cA := Lib.hid awake15
  by_cases h1 : depth < 1
  · have cN := Lib.hid (new_no depth most w (.inl h1))
    clear ho
    go_enter Try.func3, Try.ntmps3
    go_wp2_with (first
      | (go_at_call 8; (with_reducible refine cN.out.mono ?_); rintro e w1 ⟨rfl, rfl⟩)
      | (go_at_call 9; (with_reducible refine (cA.out _).mono ?_); rintro e w9 ⟨rfl, t9⟩))
    go_ret
    exact ⟨rfl, t9⟩
  by_cases h2 : 65536 < depth
  · have cN := Lib.hid (new_no depth most w (.inr (.inr (.inl h2))))
    clear ho
    go_enter Try.func3, Try.ntmps3
    go_wp2_with (first
      | (go_at_call 8; (with_reducible refine cN.out.mono ?_); rintro e w1 ⟨rfl, rfl⟩)
      | (go_at_call 9; (with_reducible refine (cA.out _).mono ?_); rintro e w9 ⟨rfl, t9⟩))
    go_ret
    exact ⟨rfl, t9⟩
  by_cases h3 : most < 0
  · have cN := Lib.hid (new_no depth most w (.inr (.inl h3)))
    clear ho
    go_enter Try.func3, Try.ntmps3
    go_wp2_with (first
      | (go_at_call 8; (with_reducible refine cN.out.mono ?_); rintro e w1 ⟨rfl, rfl⟩)
      | (go_at_call 9; (with_reducible refine (cA.out _).mono ?_); rintro e w9 ⟨rfl, t9⟩))
    go_ret
    exact ⟨rfl, t9⟩
  by_cases h4 : 65536 < most
  · have cN := Lib.hid (new_no depth most w (.inr (.inr (.inr h4))))
    clear ho
    go_enter Try.func3, Try.ntmps3
    go_wp2_with (first
      | (go_at_call 8; (with_reducible refine cN.out.mono ?_); rintro e w1 ⟨rfl, rfl⟩)
      | (go_at_call 9; (with_reducible refine (cA.out _).mono ?_); rintro e w9 ⟨rfl, t9⟩))
    go_ret
    exact ⟨rfl, t9⟩
  by_cases h5 : len ≤ 120
  · exact pl_walk depth most p len cap os w (by omega) (by omega) h5 ho
  · have cN := Lib.hid (new_yes depth most w (by omega) (by omega))
    have hd : decide ((len : Int) > 120) = true := by simp; omega
    clear ho
    go_enter Try.func3, Try.ntmps3
    go_wp2_with (first
      | (go_at_call 8; (with_reducible refine cN.out.mono ?_); rintro e w1 ⟨c, rfl, k1, -, -⟩; have K1 := Lib.hid k1; clear k1)
      | (go_at_call 9; (with_reducible refine (cA.out _).mono ?_); rintro e w9 ⟨rfl, t9⟩))
    go_ret
    exact ⟨rfl, TT K1.out.turn t9⟩
end Go.Proofs.Ytcnellkoejhofaa
