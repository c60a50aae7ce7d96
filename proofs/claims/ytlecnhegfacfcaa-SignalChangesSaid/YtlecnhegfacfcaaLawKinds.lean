/-
  The statement SignalKinds answers true at all pairs of numbers.
-/
import Derived.Test.YtlecnhegfacfcaaSOf
namespace Go.Proofs.Ytlecnhegfacfcaa
open Go.ChangeShapes Go.WideShapes Go.ChangeAt Go.RowKit

theorem bits_of (k : Int) (w : World) : Calls Try.prog 10 #[.string ⟨(ofS k).toArray⟩] w fun e w' => e = .returned (.int .i64 (ofV k)) ∧ Below w.heap.size w w' :=
  (rbits_any ⟨(ofS k).toArray⟩ (by rw [size_toArray]; exact ofS_len k) w).mono fun _ _ h => ⟨h.1.trans (ret_int (of_sum k)), h.2⟩
theorem bits_mine (k : Int) (w : World) : Calls Try.prog 10 #[.string ⟨(mineS k).toArray⟩] w fun e w' => e = .returned (.int .i64 (mineV k)) ∧ Below w.heap.size w w' :=
  (rbits_any ⟨(mineS k).toArray⟩ (by rw [size_toArray]; exact mineS_len k) w).mono fun _ _ h => ⟨h.1.trans (ret_int (mine_sum k)), h.2⟩
theorem userV_nat (n : Nat) (h : n < 8) : wrap64 (2 ^ (n + 8)) = userV n := by
  have : ∀ n : Nat, n < 8 → wrap64 (2 ^ (n + 8)) = userV n := by decide +kernel
  exact this n h
set_option maxHeartbeats 2000000 in
set_option maxRecDepth 20000 in
theorem kinds_walk (k i : Int) (w : World) :
    Calls Try.prog 3 #[.int .i64 k, .int .i64 i] w fun e w' => e = .returned (.bool true) ∧ Below w.heap.size w w' := by
  have cA := awake_at w
  have hb0 := Below.refl w.heap.size w
  have c1 := of_any k
  have c2 := rof_any k
  have c3 := bits_of k
  have c4 := mine_any k
  have c5 := rmine_any k
  have c6 := bits_mine k
  have c7 := first_any k
  have c8 := user_any i
  generalize ofV k = V1 at c1 c3
  generalize mineV k = V2 at c4 c6
  generalize (⟨(ofS k).toArray⟩ : ByteArray) = T1 at c2 c3
  generalize (⟨(mineS k).toArray⟩ : ByteArray) = T2 at c5 c6
  have hk : (4 ≤ k ∧ k ≤ 6 ∧ firstV k = 2) ∨ (¬ k ≤ 6 ∧ 4 ≤ k ∧ k = 11 ∧ firstV k = 32) ∨ (¬ 4 ≤ k ∧ k ≠ 11 ∧ firstV k = 0) ∨ (4 ≤ k ∧ ¬ k ≤ 6 ∧ k ≠ 11 ∧ firstV k = 0) := by
    unfold firstV
    by_cases a1 : 4 ≤ k
    · by_cases a2 : k ≤ 6
      · exact .inl ⟨a1, a2, by rw [if_pos (by omega)]⟩
      · by_cases a3 : k = 11
        · exact .inr (.inl ⟨a2, a1, a3, by rw [if_neg (by omega), if_pos a3]⟩)
        · exact .inr (.inr (.inr ⟨a1, a2, a3, by rw [if_neg (by omega), if_neg a3]⟩))
    · exact .inr (.inr (.inl ⟨a1, by omega, by rw [if_neg (by omega), if_neg (by omega)]⟩))
  have hu : (∃ n : Nat, i = n ∧ n < 8 ∧ wrap64 (2 ^ (n + 8)) = userV i) ∨ (¬ 0 ≤ i ∧ userV i = 0) ∨ (0 ≤ i ∧ ¬ i < 8 ∧ userV i = 0) := by
    by_cases a1 : 0 ≤ i
    · by_cases a2 : i < 8
      · refine .inl ⟨i.toNat, by omega, by omega, ?_⟩
        rw [userV_nat i.toNat (by omega), show ((i.toNat : Nat) : Int) = i by omega]
      · exact .inr (.inr ⟨a1, a2, by unfold userV; rw [if_neg (by omega)]⟩)
    · exact .inr (.inl ⟨a1, by unfold userV; rw [if_neg (by omega)]⟩)
  rcases hk with ⟨k1, k2, k3⟩ | ⟨k1, k2, rfl, k4⟩ | ⟨k1, k2, k3⟩ | ⟨k1, k2, k3, k4⟩ <;>
    rcases hu with ⟨n, rfl, u1, u2⟩ | ⟨u1, u2⟩ | ⟨u1, u2, u3⟩
  all_goals
    first | rw [k4] at c7 | rw [k3] at c7
    first | rw [← u2] at c8 | rw [u2] at c8 | rw [u3] at c8
    go_enter Try.func3, Try.ntmps3
    go_wp2_with (first
      | (go_at_call 9; (with_reducible refine (c1 _).mono ?_); rintro e w' ⟨rfl, rfl⟩)
      | (go_at_call 11; (with_reducible refine (lift (by assumption) (c2 _)).mono ?_); rintro e w' ⟨rfl, hb⟩)
      | (go_at_call 10; (with_reducible refine (lift (by assumption) (c3 _)).mono ?_); rintro e w' ⟨rfl, hb⟩)
      | (go_at_call 12; (with_reducible refine (c4 _).mono ?_); rintro e w' ⟨rfl, rfl⟩)
      | (go_at_call 13; (with_reducible refine (c5 _).mono ?_); rintro e w' ⟨rfl, rfl⟩)
      | (go_at_call 10; (with_reducible refine (lift (by assumption) (c6 _)).mono ?_); rintro e w' ⟨rfl, hb⟩)
      | (go_at_call 14; (with_reducible refine (c7 _).mono ?_); rintro e w' ⟨rfl, rfl⟩)
      | (go_at_call 15; (with_reducible refine (c8 _).mono ?_); rintro e w' ⟨rfl, rfl⟩)
      | (go_at_call 16; (with_reducible refine (cA _ (by assumption)).mono ?_); rintro e w' ⟨rfl, hb⟩))
    go_ret
    exact ⟨rfl, by assumption⟩
end Go.Proofs.Ytlecnhegfacfcaa
