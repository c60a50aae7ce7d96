/-
  The statement NumProducts answers true at all pairs of numbers of 64 bits.
-/
import Derived.Test.YtdpkkkkmohnhgaaNumCalls
import Derived.Test.YtdpkkkkmohnhgaaNumTold
import Derived.Deep.QuietTactic
import Derived.BigQuiet
import Derived.Deep.RegionHeld3
import Derived.Deep.DeepCutAuto
namespace Go.Proofs.Ytdpkkkkmohnhgaa
open Go.ChangeShapes Go.WideShapes Go.ChangeAt Go.RowKit

set_option maxRecDepth 100000 in
set_option maxHeartbeats 2000000 in
theorem products_walk (a b : Int) (w : World) (ha : fit a) (hb : fit b) :
    Calls Try.prog 4 #[.int .i64 a, .int .i64 b] w fun e w' => e = .returned (.bool true) ∧ Below w.heap.size w w' := by
  obtain ⟨y, yk, c1, h1⟩ := mul_two a b ha hb
  obtain ⟨n, ok, c4, h2⟩ := prod_int a b ha hb
  obtain ⟨rfl, rfl⟩ := told_one h1 h2
  have c5 := fun w => same_true n ok _ _ w c4 (told_zero h2)
  have c2 := of_val a ha
  have c2' := of_val b hb
  have c3 := mul_val (dig a) (dig b) (decide (a < 0)) (decide (b < 0)) (dig_bd a ha) (dig_bd b hb)
  have c6 := awake_any
  clear c4 h1 h2
  generalize decide (a < 0) = s at *
  generalize decide (b < 0) = t at *
  generalize pdig (dig a) (dig b) = d at *
  go_enter Try.func4, Try.ntmps4
  go_wp2_with (first | (go_at_call 20; (with_reducible refine (c1 _).mono ?_); rintro e w' ⟨rfl, rfl⟩) | (go_at_call 13; (with_reducible refine (c2 _).mono ?_); rintro e w1 ⟨rfl, hb1⟩) | (go_at_call 13; (with_reducible refine (c2' _).mono ?_); rintro e w2 ⟨rfl, hb2⟩) | (go_at_call 21; (with_reducible refine (c3 _).mono ?_); rintro e w3 ⟨rfl, hb3⟩) | (go_at_call 16; (with_reducible refine (c5 _).mono ?_); rintro e w4 ⟨rfl, hb4⟩) | (go_at_call 19; (with_reducible refine (c6 _).mono ?_); rintro e w' ⟨rfl, rfl⟩))
  go_ret
  exact ⟨rfl, below_next (below_next (below_next hb1 hb2) hb3) hb4⟩
end Go.Proofs.Ytdpkkkkmohnhgaa
