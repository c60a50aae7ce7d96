/-
  Who can die with a task: only who stands below it, and below the jobs to which those are critical. No walk, no conditions.
-/
import Derived.Test.YtabakjimlndhcaaTkDie
namespace Go.Proofs.Ytabakjimlndhcaa

/-- A set of places with all that stands below them, and with the jobs to which the living of them are critical. -/
structure Conf (n : Nat) (T : Nat → Tk) (U : Nat → Prop) : Prop where
  kid : ∀ i j, U i → j < n → (T j).par = (i : Int) + 1 → U j
  crit : ∀ j, j < n → U j → (T j).st ≠ 2 → (T j).crit = 0 ∨ U ((T j).crit.toNat - 1)
section
variable {n p : Nat} {c : Int} {T T' : Nat → Tk} {o : List Nat} {U : Nat → Prop}
theorem Conf.ends (h : Conf n T U) (he : Ends n c T o T') : Conf n T' U := by
  refine ⟨fun i j hi hj e => h.kid i j hi hj (by rw [← (he.fields j).1]; exact e), fun j hj hu ha => ?_⟩
  rw [(he.fields j).2.1]
  exact h.crit j hj hu (fun hd => ha (he.dead hd))
theorem die_conf (c : Int) (U : Nat → Prop) : ∀ (M : Nat) (T : Nat → Tk) (p : Nat), DOK n T → Conf n T U → p < n → U p → meas n T p < M → ∀ q, q ∈ (die n c T p).2 → U q
  | 0, _, _, _, _, _, _, h => absurd h (Nat.not_lt_zero _)
  | M + 1, T, p, hT, hC, hp, hu, hm => by
    have ih := die_conf c U M
    rw [die_eq hT hp]
    by_cases hd : (T p).st = 2
    · rw [if_pos hd]; exact fun q hq => (List.not_mem_nil hq).elim
    rw [if_neg hd]
    have hk : ∀ (l : List Nat) (T1 : Nat → Tk), DOK n T1 → Conf n T1 U → liveN T1 n ≤ liveN T n → (∀ q, q ∈ l → p < q ∧ q < n ∧ U q) → ∀ q, q ∈ (kids (die n c) l T1).2 → U q := by
      intro l
      induction l with
      | nil => exact fun T1 _ _ _ _ q hq => (List.not_mem_nil hq).elim
      | cons x l ihl =>
        intro T1 h1 h2 h3 h4 q hq
        obtain ⟨hx, hxn, hxu⟩ := h4 x List.mem_cons_self
        obtain ⟨a, _⟩ := die_ends h1 hxn c
        rw [kids] at hq
        rcases List.mem_append.1 hq with hq | hq
        · exact ih T1 x h1 h2 hxn hxu (meas_kid h3 hx hxn (f := M) hm) q hq
        · exact ihl _ (a.ok h1) (h2.ends a) (Nat.le_trans a.live_le h3) (fun q hq => h4 q (List.mem_cons_of_mem _ hq)) q hq
    have hkl : ∀ q, q ∈ kidL T n p → p < q ∧ q < n ∧ U q := fun q hq => ⟨kid_gt hT (mem_kidL.1 hq).1 (mem_kidL.1 hq).2, (mem_kidL.1 hq).1, hC.kid p q hu (mem_kidL.1 hq).1 (mem_kidL.1 hq).2⟩
    have h1 := hk (kidL T n p) T hT hC (Nat.le_refl _) hkl
    obtain ⟨hE, hdk⟩ := kids_ends c (kidL T n p) T hT (fun q hq => (hkl q hq).2.1)
    generalize kids (die n c) (kidL T n p) T = r at h1 hE hdk
    unfold ends
    by_cases hd2 : (r.1 p).st = 2
    · rw [if_pos hd2]; exact h1
    rw [if_neg hd2]
    have h3 : Ends n c r.1 [p] (endT r.1 c p) := .one hp hd2 (fun j hj he => hdk j (mem_kidL.2 ⟨hj, by rw [← (hE.fields j).1]; exact he⟩))
    have hone : ∀ q, q ∈ r.2 ++ [p] → U q := fun q hq => by
      rcases List.mem_append.1 hq with h4 | h4
      · exact h1 q h4
      · rw [List.mem_singleton] at h4; subst h4; exact hu
    by_cases hc : (T p).crit = 0
    · rw [if_pos hc]; exact hone
    rw [if_neg hc]
    have hcr := hT.crit p hp
    have h5 := h3.live
    have hl : liveN (endT r.1 c p) n + 1 ≤ liveN T n := by have := hE.live_le; simp at h5; omega
    intro q hq
    rcases List.mem_append.1 hq with h4 | h4
    · exact hone q h4
    · exact ih (endT r.1 c p) ((T p).crit.toNat - 1) ((hE.app h3).ok hT) (hC.ends (hE.app h3)) (by omega) ((hC.crit p hp hu hd).resolve_left hc) (meas_crit hl (f := M) hm) q h4
theorem die_in (hT : DOK n T) (hC : Conf n T U) (hp : p < n) (hu : U p) (c : Int) : ∀ q, q ∈ (die n c T p).2 → U q := die_conf c U _ T p hT hC hp hu (Nat.lt_succ_self _)
end
end Go.Proofs.Ytabakjimlndhcaa
