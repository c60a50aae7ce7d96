/-
  The statement NumMixes answers true at all numbers of 64 bits.
-/
import Derived.Test.YtdpkkkkmohnhgaaNumCalls
import Derived.Test.YtdpkkkkmohnhgaaNumMath2
import Derived.Outline
import Derived.Deep.Light
namespace Go.Proofs.Ytdpkkkkmohnhgaa
open Go.ChangeShapes Go.WideShapes Go.ChangeAt Go.RowKit

theorem mixes_walk (n : Int) (w : World) :
    Calls Try.prog 7 #[.int .i64 n] w fun e w' => e = .returned (.bool true) ∧ w = w' := by
  have c1 := fun w => mix_any n w
  have c3 := awake_any
  have hm := (mixv_nonneg n).1
  have he := mixes_end n
  go_enter Try.func7, Try.ntmps7
  go_wp2
  go_loop [4, 9] (fun s i => ∃ k : Nat, k ≤ 64 ∧ i = .int .i64 k ∧ s = .int .u64 (part n k)) (fun _ i => 64 - (intOf i).toNat)
  case atStart => exact ⟨0, Nat.zero_le _, rfl, by rw [part_zero]⟩
  case round =>
    obtain ⟨k, hk, rfl, rfl⟩ := hrel
    by_cases hlt : k < 64
    · have hb := bit_test k
      have h1 := part_true n k
      have h2 := part_false n k
      generalize bit k = b at hb h1 h2
      cases b
      · have h3 := h2 rfl
        clear h1 h2
        have H := hide h3
        clear h3 c1 c3 he hm
        go_wp2
        all_goals
          go_round
          case rel => exact ⟨k + 1, by omega, by go_num, by rw [H.out]⟩
          case measure => simp [intOf]; omega
      · have h3 := h1 rfl
        clear h1 h2
        have H := hide h3
        clear h3 c1 c3 he hm
        go_wp2
        all_goals
          go_round
          case rel => exact ⟨k + 1, by omega, by go_num, by rw [H.out]⟩
          case measure => simp [intOf]; omega
    · obtain rfl : k = 64 := by omega
      go_wp2_with (first | (go_at_call 29; (with_reducible refine (c1 _).mono ?_); rintro e w' ⟨rfl, rfl⟩) | (go_at_call 19; (with_reducible refine (c3 _).mono ?_); rintro e w' ⟨rfl, rfl⟩))
      all_goals
        go_ret
        exact ⟨rfl, rfl⟩
end Go.Proofs.Ytdpkkkkmohnhgaa
