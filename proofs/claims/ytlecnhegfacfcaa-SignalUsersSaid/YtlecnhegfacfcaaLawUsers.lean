/-
  The statement SignalUsers answers true at all numbers.
-/
import Derived.Test.YtlecnhegfacfcaaLawKinds
namespace Go.Proofs.Ytlecnhegfacfcaa
open Go.ChangeShapes Go.WideShapes Go.ChangeAt Go.RowKit

theorem user_cases (i : Int) : userV i = 0 ∨ userV i = 256 ∨ userV i = 512 ∨ userV i = 1024 ∨ userV i = 2048 ∨ userV i = 4096 ∨ userV i = 8192 ∨ userV i = 16384 ∨ userV i = 32768 := by
  by_cases h : 0 ≤ i ∧ i < 8
  · have : ∀ n : Nat, n < 8 → userV n = 256 ∨ userV n = 512 ∨ userV n = 1024 ∨ userV n = 2048 ∨ userV n = 4096 ∨ userV n = 8192 ∨ userV n = 16384 ∨ userV n = 32768 := by decide +kernel
    have := this i.toNat (by omega)
    rw [show ((i.toNat : Nat) : Int) = i by omega] at this
    exact .inr this
  · exact .inl (by unfold userV; rw [if_neg h])
theorem user_ne (i : Int) (h1 : 0 ≤ i) (h2 : i < 8) : userV i ≠ 0 := by
  have : ∀ n : Nat, n < 8 → userV n ≠ 0 := by decide +kernel
  have := this i.toNat (by omega)
  rwa [show ((i.toNat : Nat) : Int) = i by omega] at this
theorem user_inj (i k : Int) (h1 : 0 ≤ i) (h2 : i < 8) (h : userV i = userV k) : i = k := by
  by_cases hk : 0 ≤ k ∧ k < 8
  · have : ∀ n : Nat, n < 8 → ∀ m : Nat, m < 8 → userV n = userV m → n = m := by decide +kernel
    have := this i.toNat (by omega) k.toNat (by omega) (by
      rw [show ((i.toNat : Nat) : Int) = i by omega, show ((k.toNat : Nat) : Int) = k by omega]; exact h)
    omega
  · exact absurd (h.trans (by unfold userV; rw [if_neg hk])) (user_ne i h1 h2)
/-- What is asked of a type. -/
def Asked (k : Int) : Prop := inB (mineV k) (ofV k) = true ∧ inB (firstV k) (ofV k) = true ∧ (∀ u ∈ [(0 : Int), 256, 512, 1024, 2048, 4096, 8192, 16384, 32768], (1 ≤ k ∧ k ≤ 11 → inB u (ofV k) = true) ∧ okB k 0 u = (decide (u = 0) || (decide (1 ≤ k ∧ k ≤ 11) && decide (k ≠ 9))))
instance (k : Int) : Decidable (Asked k) := by unfold Asked; infer_instance
theorem asked (k : Int) : Asked k := by
  by_cases hk : 1 ≤ k ∧ k ≤ 11
  · refine kinds_all (p := Asked) ?_ k hk
    decide +kernel
  · have e1 : ofV k = 0 := by unfold ofV; repeat' (rw [if_neg (by omega)])
    have e2 : mineV k = 0 := by unfold mineV; rw [if_neg (by omega), if_neg (by omega), if_neg hk]
    have e3 : firstV k = 0 := by unfold firstV; rw [if_neg (by omega), if_neg (by omega)]
    unfold Asked okB
    rw [e1, e2, e3]
    refine ⟨by decide +kernel, by decide +kernel, fun u hu => ⟨fun h => absurd h hk, ?_⟩⟩
    rw [decide_eq_false hk, Bool.false_and, Bool.or_false]
    clear e1 e2 e3 hk
    revert u
    decide +kernel
theorem asked_user (k i : Int) : (1 ≤ k ∧ k ≤ 11 → inB (userV i) (ofV k) = true) ∧ okB k 0 (userV i) = (decide (userV i = 0) || (decide (1 ≤ k ∧ k ≤ 11) && decide (k ≠ 9))) :=
  (asked k).2.2 _ (by have := user_cases i; simpa using this)
set_option linter.unusedSimpArgs false in
set_option maxHeartbeats 4000000 in
set_option maxRecDepth 20000 in
theorem users_walk (k i j : Int) (w : World) :
    Calls Try.prog 8 #[.int .i64 k, .int .i64 i, .int .i64 j] w fun e w' => e = .returned (.bool true) ∧ Below w.heap.size w w' := by
  have cA := awake_any w
  have c1 := user_any i
  have c2 := user_any j
  have c3 := mine_any k
  have c4 := first_any k
  have c5 := right_any (mineV k) k
  have c6 := right_any (firstV k) k
  have c7 := right_any (userV i) k
  have c8 := change_any 0 k 0 (userV i)
  rw [(asked k).1] at c5
  rw [(asked k).2.1] at c6
  have hA := (asked_user k i).1
  have hE : chS k 0 (userV i) = if okB k 0 (userV i) then 0 else -10 := rfl
  rw [(asked_user k i).2] at hE
  generalize hQ : (decide (1 ≤ k ∧ k ≤ 11) && decide (k ≠ 9)) = Q at hE
  generalize hZ : decide (userV i = 0) = Z at hE
  generalize inB (userV i) (ofV k) = R at c7 hA
  have hk : (1 ≤ k ∧ k ≤ 11 ∧ k ≠ 9 ∧ Q = true ∧ R = true) ∨ (k = 9 ∧ Q = false ∧ R = true) ∨ (¬ 1 ≤ k ∧ Q = false) ∨ (1 ≤ k ∧ ¬ k ≤ 11 ∧ Q = false) := by
    by_cases a1 : 1 ≤ k
    · by_cases a2 : k ≤ 11
      · by_cases a3 : k = 9
        · exact .inr (.inl ⟨a3, by rw [← hQ, a3]; rfl, hA ⟨a1, a2⟩⟩)
        · exact .inl ⟨a1, a2, a3, by rw [← hQ]; simp [a1, a2, a3], hA ⟨a1, a2⟩⟩
      · exact .inr (.inr (.inr ⟨a1, a2, by rw [← hQ]; simp [a2]⟩))
    · exact .inr (.inr (.inl ⟨a1, by rw [← hQ]; simp [a1]⟩))
  have hi : (0 ≤ i ∧ i < 8 ∧ userV i ≠ 0 ∧ Z = false ∧ ((i = j ∧ userV i = userV j) ∨ (i ≠ j ∧ userV i ≠ userV j))) ∨ (¬ 0 ≤ i ∧ userV i = 0 ∧ Z = true) ∨ (0 ≤ i ∧ ¬ i < 8 ∧ userV i = 0 ∧ Z = true) := by
    by_cases a1 : 0 ≤ i
    · by_cases a2 : i < 8
      · refine .inl ⟨a1, a2, user_ne i a1 a2, by rw [← hZ]; simp [user_ne i a1 a2], ?_⟩
        by_cases h : i = j
        · exact .inl ⟨h, by rw [h]⟩
        · exact .inr ⟨h, fun e => h (user_inj i j a1 a2 e)⟩
      · have e : userV i = 0 := by unfold userV; rw [if_neg (by omega)]
        exact .inr (.inr ⟨a1, a2, e, by rw [← hZ, e]; rfl⟩)
    · have e : userV i = 0 := by unfold userV; rw [if_neg (by omega)]
      exact .inr (.inl ⟨a1, e, by rw [← hZ, e]; rfl⟩)
  clear hQ hZ hA
  generalize chS k 0 (userV i) = E at c8 hE
  generalize chV 0 k 0 (userV i) = X at c8
  generalize userV i = A at *
  generalize userV j = B at *
  generalize mineV k = M at *
  generalize firstV k = F at *
  rcases hk with ⟨k1, k2, k3, rfl, rfl⟩ | ⟨rfl, rfl, rfl⟩ | ⟨k1, rfl⟩ | ⟨k1, k2, rfl⟩ <;>
    rcases hi with ⟨i1, i2, i3, rfl, ⟨rfl, rfl⟩ | ⟨i4, i5⟩⟩ | ⟨i1, rfl, rfl⟩ | ⟨i1, i2, rfl, rfl⟩
  all_goals
    simp only [Bool.or_false, Bool.or_true, Bool.true_or, Bool.false_or, Bool.false_eq_true, if_true, if_false] at hE
    subst hE
    try have a0 : (A == 0) = false := by simpa using i3
    try have k9 : (k != 9) = true := by simpa using k3
    try have ab : (A == B) = false := by simpa using i5
    try have ij : (i == j) = false := by simpa using i4
    go_enter Try.func8, Try.ntmps8
    go_wp2_with (first
      | (go_at_call 15; (with_reducible refine (c1 _).mono ?_); rintro e w' ⟨rfl, rfl⟩)
      | (go_at_call 15; (with_reducible refine (c2 _).mono ?_); rintro e w' ⟨rfl, rfl⟩)
      | (go_at_call 12; (with_reducible refine (c3 _).mono ?_); rintro e w' ⟨rfl, rfl⟩)
      | (go_at_call 14; (with_reducible refine (c4 _).mono ?_); rintro e w' ⟨rfl, rfl⟩)
      | (go_at_call 19; (with_reducible refine (c5 _).mono ?_); rintro e w' ⟨rfl, rfl⟩)
      | (go_at_call 19; (with_reducible refine (c6 _).mono ?_); rintro e w' ⟨rfl, rfl⟩)
      | (go_at_call 19; (with_reducible refine (c7 _).mono ?_); rintro e w' ⟨rfl, rfl⟩)
      | (go_at_call 17; (with_reducible refine (c8 _).mono ?_); rintro e w' ⟨rfl, rfl⟩)
      | (go_at_call 16; (with_reducible refine cA.mono ?_); rintro e w' ⟨rfl, hb⟩))
    go_ret
    exact ⟨rfl, by assumption⟩
end Go.Proofs.Ytlecnhegfacfcaa
