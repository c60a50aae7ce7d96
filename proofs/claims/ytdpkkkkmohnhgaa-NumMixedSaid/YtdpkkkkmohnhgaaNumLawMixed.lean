/-
  The statement NumMixed answers true at all pairs of numbers. No condition.
-/
import Derived.Test.YtdpkkkkmohnhgaaNumCalls
import Derived.Test.YtdpkkkkmohnhgaaNumMath2
import Derived.Outline
import Derived.Deep.Light
namespace Go.Proofs.Ytdpkkkkmohnhgaa
open Go.ChangeShapes Go.WideShapes Go.ChangeAt Go.RowKit

theorem mixed_walk (a b : Int) (w : World) :
    Calls Try.prog 12 #[.int .i64 a, .int .i64 b] w fun e w' => e = .returned (.bool true) ∧ w = w' := by
  have c1 := fun w => mix_any a w
  have c2 := fun w => mix_any b w
  have c3 := awake_any
  have h1 := (mixv_nonneg a).1
  have h2 := (mixv_nonneg b).1
  go_enter Try.func12, Try.ntmps12
  go_wp2_with (first | (go_at_call 29; (with_reducible refine (c1 _).mono ?_); rintro e w' ⟨rfl, rfl⟩) | (go_at_call 29; (with_reducible refine (c2 _).mono ?_); rintro e w' ⟨rfl, rfl⟩) | (go_at_call 19; (with_reducible refine (c3 _).mono ?_); rintro e w' ⟨rfl, rfl⟩))
  all_goals
    go_ret
    first
    | exact ⟨rfl, rfl⟩
    | exact absurd (mixed_eq a b) ‹_›
end Go.Proofs.Ytdpkkkkmohnhgaa
