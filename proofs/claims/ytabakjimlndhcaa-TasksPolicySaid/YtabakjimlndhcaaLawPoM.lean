/-
  What TasksPolicy's calls answer. No walk, no conditions.
-/
import Derived.Test.YtabakjimlndhcaaTkInfo
import Derived.Test.YtabakjimlndhcaaTkAwake
namespace Go.Proofs.Ytabakjimlndhcaa
open Go.ChangeShapes Go.WideShapes Go.ChangeAt Go.RowKit

/-- n jobs one below the other, all but the root of the policy b; there may be others behind them. -/
structure PI (b : Int) (n m : Nat) (T : Nat → Tk) : Prop where
  ok : TOK 100 m T
  le : n ≤ m
  root : T 0 = ⟨1, 0, 1, 0, 0, 0⟩
  job : ∀ j, 0 < j → j < n → T j = ⟨1, j, 1, 0, b, 0⟩
  two : 2 ≤ n ∧ n ≤ 12 ∧ m ≤ 14
section
variable {w0 w : World} {c n m p : Nat} {b : Int} {T : Nat → Tk} {X : Nat → Prop}
theorem PI.chain (h : PI b n m T) : ∀ p, p < n → chain T p = (List.range (p + 1)).reverse := by
  intro p
  induction p with
  | zero =>
    intro hp
    rw [chain_eq h.ok.dok (by have := h.le; omega), h.root]
    rfl
  | succ p ih =>
    intro hp
    have hle := h.le
    rw [chain_eq h.ok.dok (by omega), h.job (p + 1) (by omega) hp, if_neg (by show ¬ ((p + 1 : Nat) : Int) = 0; omega)]
    rw [show (((p + 1 : Nat) : Int).toNat - 1) = p by omega, ih (by omega)]
    rw [List.range_succ (n := p + 1), List.reverse_append]
    rfl
theorem PI.depth (h : PI b n m T) (hp : p < n) : dep T p = p + 1 := by unfold dep; rw [h.chain p hp]; simp
theorem live_le (T : Nat → Tk) (n : Nat) : liveN T n ≤ n := by
  have : liveN T n ≤ (List.range n).length := List.countP_le_length
  rwa [List.length_range] at this
theorem PI.last (h : PI b n m T) : inN m (n : Int) = true ∧ plc (n : Int) = n - 1 ∧ T (n - 1) = ⟨1, ((n - 1 : Nat) : Int), 1, 0, b, 0⟩ ∧ (liveN T m : Int) ≠ 100 := by
  have h2 := h.two
  have hle := h.le
  have := live_le T m
  exact ⟨inN_iff.2 ⟨by omega, by omega⟩, by unfold plc; omega, h.job _ (by omega) (by omega), by omega⟩
/-- Below the last job a job or a process. -/
theorem PI.mks (h : PI b n m T) (k : Int) (hk : k = 1 ∨ k = 2) : mkS 100 m T k n = if bits .and .i64 b (forb k) ≠ 0 then -30 else 0 := by
  obtain ⟨h1, h2, h3, h4⟩ := h.last
  have ht := h.two
  have hj : jobP T (n - 1) = n - 1 := by unfold jobP; rw [h3]; rfl
  have hf : fitsB k 1 = true := fitsB_iff.2 (.inl ⟨hk, rfl⟩)
  unfold mkS
  rw [if_neg (by rw [h1]; simp), h2, hj, h.depth (by omega), h3, if_neg (by rw [hf]; simp), if_neg (show ¬ ((1 : Int) = 2) by decide)]
  have h5 : ¬ (k = 1 ∧ n - 1 + 1 = 16) := by omega
  rw [if_neg h5, if_neg h4]
theorem PI.old (h : PI b n m T) (t : Tk) (hok : TOK 100 (m + 1) (setT T m t)) (hm : m ≤ 13) : PI b n (m + 1) (setT T m t) := by
  have h2 := h.two
  have hle := h.le
  refine ⟨hok, by omega, by rw [setT_other _ _ (by omega)]; exact h.root, fun j h0 hj => by rw [setT_other _ _ (by omega)]; exact h.job j h0 hj, by omega⟩
theorem pol_no (h : KSt w0 w c 100 m T X) (q : PI b n m T) (k : Int) (hk : k = 1 ∨ k = 2) (hb : bits .and .i64 b (forb k) ≠ 0) : Calls Try.prog 45 #[.pointer (some ⟨c, 0, none⟩), .int .i64 k, .int .i64 (n : Int)] w fun x w' => x = .returned (.tuple #[.int .i64 0, .int .i64 (-30)]) ∧ KSt w0 w' c 100 m T X := by
  have hs : mkS 100 m T k n = -30 := by rw [q.mks k hk, if_pos hb]
  have := q.two
  refine (h.make (by omega) k n).mono ?_
  rintro x w' ⟨rfl, h2, -⟩
  unfold mkC mkT at h2
  rw [hs] at h2 ⊢
  exact ⟨rfl, h2⟩
/-- One more job. -/
theorem pol_job (h : KSt w0 w c 100 n T X) (q : PI b n n T) (hn : n ≤ 11) (hb : bits .and .i64 b 2 = 0) : Calls Try.prog 45 #[.pointer (some ⟨c, 0, none⟩), .int .i64 1, .int .i64 (n : Int)] w fun x w' => x = .returned (.tuple #[.int .i64 ((n : Int) + 1), .int .i64 0]) ∧ ∃ T', KSt w0 w' c 100 (n + 1) T' X ∧ PI b (n + 1) (n + 1) T' := by
  have hs : mkS 100 n T 1 n = 0 := by rw [q.mks 1 (.inl rfl), if_neg (by rw [show forb 1 = 2 from rfl, hb]; simp)]
  refine (h.make (by omega) 1 n).mono ?_
  rintro x w' ⟨rfl, h2, -⟩
  unfold mkC mkT at h2
  rw [hs] at h2 ⊢
  rw [if_pos rfl, if_pos rfl] at h2
  obtain ⟨l1, l2, l3, l4⟩ := q.last
  have ho := q.old (newT T 1 n) (q.ok.make hs) (by omega)
  have q2 := q.two
  refine ⟨rfl, _, h2, ho.ok, Nat.le_refl _, ho.root, fun j h0 hj => ?_, by omega⟩
  by_cases e : j = n
  · subst e
    rw [setT_same]
    unfold newT
    rw [l2, l3]
    rfl
  · exact ho.job j h0 (by omega)
/-- Behind the jobs a process. -/
structure PP (b : Int) (n m : Nat) (T : Nat → Tk) : Prop where
  pi : PI b n m T
  lt : n < m
  pro : T n = ⟨2, n, 0, 0, 0, 0⟩
theorem pol_pro (h : KSt w0 w c 100 n T X) (q : PI b n n T) (hb : bits .and .i64 b 1 = 0) : Calls Try.prog 45 #[.pointer (some ⟨c, 0, none⟩), .int .i64 2, .int .i64 (n : Int)] w fun x w' => x = .returned (.tuple #[.int .i64 ((n : Int) + 1), .int .i64 0]) ∧ ∃ T', KSt w0 w' c 100 (n + 1) T' X ∧ PP b n (n + 1) T' := by
  have hs : mkS 100 n T 2 n = 0 := by rw [q.mks 2 (.inr rfl), if_neg (by rw [show forb 2 = 1 from rfl, hb]; simp)]
  have q2 := q.two
  refine (h.make (by omega) 2 n).mono ?_
  rintro x w' ⟨rfl, h2, -⟩
  unfold mkC mkT at h2
  rw [hs] at h2 ⊢
  rw [if_pos rfl, if_pos rfl] at h2
  exact ⟨rfl, _, h2, q.old (newT T 2 n) (q.ok.make hs) (by omega), by omega, by rw [setT_same]; rfl⟩
theorem PP.mks (h : PP b n (n + 1) T) : mkS 100 (n + 1) T 3 ((n : Int) + 1) = if bits .and .i64 b 4 ≠ 0 then -30 else 0 := by
  obtain ⟨l1, l2, l3, l4⟩ := h.pi.last
  have hin : inN (n + 1) ((n : Int) + 1) = true := inN_iff.2 ⟨by omega, by omega⟩
  have hpl : plc ((n : Int) + 1) = n := by unfold plc; omega
  have hj : jobP T n = n - 1 := by unfold jobP; rw [h.pro, if_pos rfl]; show (n : Int).toNat - 1 = n - 1; omega
  unfold mkS
  rw [if_neg (by rw [hin]; simp), hpl, hj, l3, h.pro, if_neg (show ¬ (fitsB 3 2 = false) by decide), if_neg (show ¬ ((0 : Int) = 2) by decide), if_neg l4]
  rw [show forb 3 = 4 from rfl]
  have : ¬ ((3 : Int) = 1 ∧ dep T n = 16) := by omega
  rw [if_neg this]
theorem pol_thr_no (h : KSt w0 w c 100 (n + 1) T X) (q : PP b n (n + 1) T) (hb : bits .and .i64 b 4 ≠ 0) : Calls Try.prog 45 #[.pointer (some ⟨c, 0, none⟩), .int .i64 3, .int .i64 ((n : Int) + 1)] w fun x w' => x = .returned (.tuple #[.int .i64 0, .int .i64 (-30)]) ∧ ∃ m T', KSt w0 w' c 100 m T' X ∧ PP b n m T' := by
  have hs : mkS 100 (n + 1) T 3 ((n : Int) + 1) = -30 := by rw [q.mks, if_pos hb]
  have q2 := q.pi.two
  refine (h.make (by omega) 3 ((n : Int) + 1)).mono ?_
  rintro x w' ⟨rfl, h2, -⟩
  unfold mkC mkT at h2
  rw [hs] at h2 ⊢
  exact ⟨rfl, _, _, h2, q⟩
theorem pol_thr (h : KSt w0 w c 100 (n + 1) T X) (q : PP b n (n + 1) T) (hb : bits .and .i64 b 4 = 0) : Calls Try.prog 45 #[.pointer (some ⟨c, 0, none⟩), .int .i64 3, .int .i64 ((n : Int) + 1)] w fun x w' => x = .returned (.tuple #[.int .i64 (((n + 1 : Nat) : Int) + 1), .int .i64 0]) ∧ ∃ m T', KSt w0 w' c 100 m T' X ∧ PP b n m T' := by
  have hs : mkS 100 (n + 1) T 3 ((n : Int) + 1) = 0 := by rw [q.mks, if_neg (by rw [hb]; simp)]
  have q2 := q.pi.two
  refine (h.make (by omega) 3 ((n : Int) + 1)).mono ?_
  rintro x w' ⟨rfl, h2, -⟩
  unfold mkC mkT at h2
  rw [hs] at h2 ⊢
  rw [if_pos rfl, if_pos rfl] at h2
  exact ⟨rfl, _, _, h2, q.pi.old _ (q.pi.ok.make hs) (by omega), by omega, by rw [setT_other _ _ (by omega)]; exact q.pro⟩
theorem pol_crit (h : KSt w0 w c 100 m T X) (q : PP b n m T) : Calls Try.prog 49 #[.pointer (some ⟨c, 0, none⟩), .int .i64 ((n : Int) + 1), .int .i64 1] w fun x w' => x = .returned (.int .i64 (if bits .and .i64 b 8 ≠ 0 then -30 else 0)) ∧ KSt w0 w' c 100 m (critT m T ((n : Int) + 1) 1) X := by
  have q2 := q.pi.two
  have q3 := q.lt
  have hin : inN m ((n : Int) + 1) = true := inN_iff.2 ⟨by omega, by omega⟩
  have hi1 : inN m 1 = true := inN_iff.2 ⟨by omega, by omega⟩
  have hpl : plc ((n : Int) + 1) = n := by unfold plc; omega
  have hu : underB m T ((n : Int) + 1) 1 = true := by
    unfold underB
    rw [hin, hpl, chain_eq q.pi.ok.dok q3, q.pro, if_neg (by show ¬ (n : Int) = 0; omega)]
    rw [show ((n : Int).toNat - 1) = n - 1 by omega, q.pi.chain (n - 1) (by omega)]
    simp only [Bool.true_and]
    exact List.any_eq_true.2 ⟨0, List.mem_cons_of_mem _ (List.mem_reverse.2 (List.mem_range.2 (by omega))), by simp⟩
  obtain ⟨l1, l2, l3, l4⟩ := q.pi.last
  have hs : critS m T ((n : Int) + 1) 1 = if bits .and .i64 b 8 ≠ 0 then -30 else 0 := by
    unfold critS
    rw [if_neg (by rw [hin, hi1]; simp), hpl, show plc 1 = 0 from rfl, q.pro, q.pi.root, if_neg (show ¬ ((2 : Int) ≠ 2 ∨ (1 : Int) ≠ 1) by decide), if_neg (by rw [hu]; simp), if_neg (show ¬ ((0 : Int) = 2 ∨ (1 : Int) = 2 ∨ (0 : Int) ≠ 0) by decide)]
    rw [show ((n : Int).toNat - 1) = n - 1 by omega, l3]
  refine (h.critical (by omega) ((n : Int) + 1) 1).mono ?_
  rintro x w' ⟨rfl, h2, -⟩
  rw [hs]
  exact ⟨rfl, h2⟩
/-- How it begins. -/
theorem pol_one (h : KSt w0 w c 100 1 T1 X) : Calls Try.prog 45 #[.pointer (some ⟨c, 0, none⟩), .int .i64 1, .int .i64 1] w fun x w' => x = .returned (.tuple #[.int .i64 2, .int .i64 0]) ∧ KSt w0 w' c 100 2 (mkT 100 1 T1 1 1) X := by
  have hs : mkS 100 1 T1 1 1 = 0 := by decide
  refine (h.make (by omega) 1 1).mono ?_
  rintro x w' ⟨rfl, h2, -⟩
  rw [show mkC 100 1 T1 1 1 = 2 by unfold mkC; rw [hs]; rfl] at h2
  rw [hs]
  exact ⟨rfl, h2⟩
theorem or_zero : ∀ b : Fin 16, bits .or .i64 0 (b.val : Int) = (b.val : Int) := by decide +kernel
theorem pol_two (h : KSt w0 w c 100 2 (mkT 100 1 T1 1 1) X) (b : Int) (hb : 0 ≤ b ∧ b ≤ 15) : Calls Try.prog 50 #[.pointer (some ⟨c, 0, none⟩), .int .i64 2, .int .i64 b] w fun x w' => x = .returned (.int .i64 0) ∧ ∃ T', KSt w0 w' c 100 2 T' X ∧ PI b 2 2 T' := by
  have hs0 : mkS 100 1 T1 1 1 = 0 := by decide
  have hT : mkT 100 1 T1 1 1 = setT T1 1 ⟨1, 1, 1, 0, 0, 0⟩ := by unfold mkT; rw [if_pos hs0]; rfl
  have ht1 : mkT 100 1 T1 1 1 1 = ⟨1, 1, 1, 0, 0, 0⟩ := by rw [hT, setT_same]
  have hs : polS 2 (mkT 100 1 T1 1 1) 2 b = 0 := by
    unfold polS
    rw [show plc 2 = 1 from rfl, ht1, if_neg (by decide), if_neg (by decide), if_neg (by omega)]
    have : liveK (mkT 100 1 T1 1 1) 2 1 = 0 := by decide
    rw [this]
    rfl
  refine (h.policy (by omega) 2 b).mono ?_
  rintro x w' ⟨rfl, h2, -⟩
  unfold polT at h2
  rw [hs] at h2 ⊢
  rw [if_pos rfl, show plc 2 = 1 from rfl, ht1] at h2
  refine ⟨rfl, _, h2, h2.ok, Nat.le_refl _, ?_, fun j h0 hj => ?_, by omega⟩
  · rw [setT_other _ _ (by decide), hT, setT_other _ _ (by decide)]
    rfl
  · obtain rfl : j = 1 := by omega
    rw [setT_same]
    have : bits .or .i64 0 b = b := by
      obtain ⟨x, rfl⟩ : ∃ x : Nat, b = x := ⟨b.toNat, by omega⟩
      exact or_zero ⟨x, by omega⟩
    dsimp only
    rw [this]
    rfl
end
end Go.Proofs.Ytabakjimlndhcaa
