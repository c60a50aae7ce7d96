/-
  The statements' own comparison of two slices of numbers: true where both hold the same. No conditions.
-/
import Derived.Test.YtpfoleaampcibaaThings
import Derived.Test.YtpfoleaampcibaaRows
import Derived.Deep.LoopGhost
import Derived.BigQuiet
namespace Go.Proofs.Ytpfoleaampcibaa
open Go.ChangeShapes Go.WideShapes Go.ChangeAt Go.RowKit

theorem ints_same (w : World) (va vb : Value) (xs : List Int) (ha : Ints va xs w) (hb : Ints vb xs w) (hx : xs.length ≤ 9223372036854775807) :
    Calls Try.prog 24 #[va, vb] w fun e w' => e = .returned (.bool true) ∧ ∃ n, w' = w.drewN n := by
  obtain ⟨pa, ca, rfl⟩ := ints_slice ha
  obtain ⟨pb, cb, rfl⟩ := ints_slice hb
  obtain ⟨n, hn⟩ : ∃ n, xs.length = n := ⟨_, rfl⟩
  have HA : Hid (Ints (.slice pa xs.length ca) xs w) := ha
  have HB : Hid (Ints (.slice pb xs.length cb) xs w) := hb
  have HN : Hid (xs.length = n) := hn
  rw [hn] at HA HB hx ⊢
  clear ha hb hn
  go_enter Try.func24, Try.ntmps24
  go_wp2
  go_loopg [13] n (fun g c wr => ∃ i d : Nat, i ≤ n ∧ g = n - i ∧ c = .int .i64 i ∧ wr = w.drewN d)
  case atStart => exact ⟨0, 0, by omega, by omega, rfl, rfl⟩
  case round =>
    obtain ⟨i, d, hi, hgk, rfl, rfl⟩ := hrel
    by_cases hlt : i < n
    · obtain ⟨ga, _, hea, _⟩ := ints_shape HA.out (by rw [HN.out]; omega)
      obtain ⟨gb, _, heb, _⟩ := ints_shape HB.out (by rw [HN.out]; omega)
      simp only [Value.slice.injEq] at hea heb
      obtain ⟨rfl, _, rfl⟩ := hea
      obtain ⟨rfl, _, rfl⟩ := heb
      have c1 := ints_cell HA.out i (by rw [HN.out]; exact hlt)
      have c2 := ints_cell HB.out i (by rw [HN.out]; exact hlt)
      obtain ⟨x, hx⟩ : ∃ x, xs.getD i 0 = x := ⟨_, rfl⟩
      rw [hx] at c1 c2
      have hlt' : (i : Int) < (n : Int) := by omega
      clear hx
      go_wp2
      go_quiet (fail)
      go_wp2
      go_roundg (n - (i + 1))
      case measure => omega
      case rel => exact ⟨i + 1, _, by omega, by omega, by go_num, rfl⟩
    · obtain rfl : i = n := by omega
      go_wp2
      go_ret
      exact ⟨rfl, d, rfl⟩

end Go.Proofs.Ytpfoleaampcibaa
