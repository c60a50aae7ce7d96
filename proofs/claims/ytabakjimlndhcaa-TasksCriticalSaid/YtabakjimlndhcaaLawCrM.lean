/-
  What TasksCritical's calls answer. No walk, no conditions.
-/
import Derived.Test.YtabakjimlndhcaaTkInfo
import Derived.Test.YtabakjimlndhcaaTkAwake
import Derived.Test.YtabakjimlndhcaaTkConf
namespace Go.Proofs.Ytabakjimlndhcaa
open Go.ChangeShapes Go.WideShapes Go.ChangeAt Go.RowKit

/-- n jobs one below the other; there may be others behind them. -/
structure CI (n m : Nat) (T : Nat → Tk) : Prop where
  ok : TOK 100 m T
  le : n ≤ m
  job : ∀ j, j < n → T j = ⟨1, j, 1, 0, 0, 0⟩
  two : 1 ≤ n ∧ n ≤ 11 ∧ m ≤ 13
section
variable {w0 w : World} {c n m p A : Nat} {T : Nat → Tk} {X : Nat → Prop}
theorem CI.chain (h : CI n m T) : ∀ p, p < n → chain T p = (List.range (p + 1)).reverse := by
  intro p
  have hle := h.le
  induction p with
  | zero =>
    intro hp
    rw [chain_eq h.ok.dok (by omega), h.job 0 hp]
    rfl
  | succ p ih =>
    intro hp
    rw [chain_eq h.ok.dok (by omega), h.job (p + 1) hp, if_neg (by show ¬ ((p + 1 : Nat) : Int) = 0; omega)]
    rw [show (((p + 1 : Nat) : Int).toNat - 1) = p by omega, ih (by omega)]
    rw [List.range_succ (n := p + 1), List.reverse_append]
    rfl
theorem CI.mks (h : CI n m T) (k : Int) (hk : k = 1 ∨ k = 2) (j : Nat) (hj : j < n) : mkS 100 m T k ((j : Int) + 1) = 0 := by
  have h2 := h.two
  have hle := h.le
  have hin : inN m ((j : Int) + 1) = true := inN_iff.2 ⟨by omega, by omega⟩
  have hpl : plc ((j : Int) + 1) = j := by unfold plc; omega
  have hjb : jobP T j = j := by unfold jobP; rw [h.job j hj]; rfl
  have hf : fitsB k 1 = true := fitsB_iff.2 (.inl ⟨hk, rfl⟩)
  have hd : dep T j = j + 1 := by unfold dep; rw [h.chain j hj]; simp
  have hl : (liveN T m : Int) ≠ 100 := by
    have : liveN T m ≤ (List.range m).length := List.countP_le_length
    rw [List.length_range] at this
    omega
  have hb : ¬ (bits .and .i64 0 (forb k) ≠ 0) := by rcases hk with rfl | rfl <;> decide
  unfold mkS
  rw [if_neg (by rw [hin]; simp), hpl, hjb, hd, h.job j hj, if_neg (by rw [hf]; simp), if_neg (show ¬ ((1 : Int) = 2) by decide), if_neg hb, if_neg (by omega), if_neg hl]
theorem CI.old (h : CI n m T) (t : Tk) (hok : TOK 100 (m + 1) (setT T m t)) (hm : m ≤ 12) : CI n (m + 1) (setT T m t) := by
  have h2 := h.two
  have hle := h.le
  exact ⟨hok, by omega, fun j hj => by rw [setT_other _ _ (by omega)]; exact h.job j hj, by omega⟩
theorem cr_job (h : KSt w0 w c 100 n T X) (q : CI n n T) (hn : n ≤ 10) : Calls Try.prog 45 #[.pointer (some ⟨c, 0, none⟩), .int .i64 1, .int .i64 (n : Int)] w fun x w' => x = .returned (.tuple #[.int .i64 ((n : Int) + 1), .int .i64 0]) ∧ (∃ T', KSt w0 w' c 100 (n + 1) T' X ∧ CI (n + 1) (n + 1) T') ∧ Kp X w w' := by
  have q2 := q.two
  have hs : mkS 100 n T 1 n = 0 := by
    have := q.mks 1 (.inl rfl) (n - 1) (by omega)
    rwa [show ((n - 1 : Nat) : Int) + 1 = n by omega] at this
  refine (h.make (by omega) 1 n).mono ?_
  rintro x w' ⟨rfl, h2, h3⟩
  unfold mkC mkT at h2
  rw [hs] at h2 ⊢
  rw [if_pos rfl, if_pos rfl] at h2
  have ho := q.old (newT T 1 n) (q.ok.make hs) (by omega)
  refine ⟨rfl, ⟨_, h2, ho.ok, Nat.le_refl _, fun j hj => ?_, by omega⟩, h3⟩
  by_cases e : j = n
  · subst e
    rw [setT_same]
    unfold newT
    rw [show plc (j : Int) = j - 1 by unfold plc; omega, q.job _ (by omega)]
    rfl
  · exact ho.job j (by omega)
structure CP1 (n : Nat) (T : Nat → Tk) : Prop where
  ci : CI n (n + 1) T
  pro : T n = ⟨2, n, 0, 0, 0, 0⟩
theorem cr_p (h : KSt w0 w c 100 n T X) (q : CI n n T) : Calls Try.prog 45 #[.pointer (some ⟨c, 0, none⟩), .int .i64 2, .int .i64 (n : Int)] w fun x w' => x = .returned (.tuple #[.int .i64 ((n : Int) + 1), .int .i64 0]) ∧ (∃ T', KSt w0 w' c 100 (n + 1) T' X ∧ CP1 n T') ∧ Kp X w w' := by
  have q2 := q.two
  have hs : mkS 100 n T 2 n = 0 := by
    have := q.mks 2 (.inr rfl) (n - 1) (by omega)
    rwa [show ((n - 1 : Nat) : Int) + 1 = n by omega] at this
  refine (h.make (by omega) 2 n).mono ?_
  rintro x w' ⟨rfl, h2, h3⟩
  unfold mkC mkT at h2
  rw [hs] at h2 ⊢
  rw [if_pos rfl, if_pos rfl] at h2
  exact ⟨rfl, ⟨_, h2, q.old (newT T 2 n) (q.ok.make hs) (by omega), by rw [setT_same]; rfl⟩, h3⟩
/-- The process, to which job it is critical, and another one. -/
structure CQ (n A : Nat) (cr : Int) (T : Nat → Tk) : Prop where
  ci : CI n (n + 2) T
  lt : A < n
  pro : T n = ⟨2, n, 0, 0, 0, cr⟩
  oth : T (n + 1) = ⟨2, (A : Int) + 1, 0, 0, 0, 0⟩
theorem cr_q (h : KSt w0 w c 100 (n + 1) T X) (q : CP1 n T) (hA : A < n) : Calls Try.prog 45 #[.pointer (some ⟨c, 0, none⟩), .int .i64 2, .int .i64 ((A : Int) + 1)] w fun x w' => x = .returned (.tuple #[.int .i64 ((n : Int) + 2), .int .i64 0]) ∧ (∃ T', KSt w0 w' c 100 (n + 2) T' X ∧ CQ n A 0 T') ∧ Kp X w w' := by
  have q2 := q.ci.two
  have hs := q.ci.mks 2 (.inr rfl) A hA
  refine (h.make (by omega) 2 ((A : Int) + 1)).mono ?_
  rintro x w' ⟨rfl, h2, h3⟩
  unfold mkC mkT at h2
  rw [hs] at h2 ⊢
  rw [if_pos rfl, if_pos rfl] at h2
  refine ⟨?_, ⟨_, h2, q.ci.old _ (q.ci.ok.make hs) (by omega), hA, by rw [setT_other _ _ (by omega)]; exact q.pro, by rw [setT_same]; rfl⟩, h3⟩
  unfold mkN
  rw [if_pos rfl, show ((n + 1 : Nat) : Int) + 1 = (n : Int) + 2 by omega]
theorem cr_set (h : KSt w0 w c 100 (n + 2) T X) (q : CQ n A 0 T) : Calls Try.prog 49 #[.pointer (some ⟨c, 0, none⟩), .int .i64 ((n : Int) + 1), .int .i64 ((A : Int) + 1)] w fun x w' => x = .returned (.int .i64 0) ∧ (∃ T', KSt w0 w' c 100 (n + 2) T' X ∧ CQ n A ((A : Int) + 1) T') ∧ Kp X w w' := by
  have q2 := q.ci.two
  have hA := q.lt
  have hin : inN (n + 2) ((n : Int) + 1) = true := inN_iff.2 ⟨by omega, by omega⟩
  have hi1 : inN (n + 2) ((A : Int) + 1) = true := inN_iff.2 ⟨by omega, by omega⟩
  have hpl : plc ((n : Int) + 1) = n := by unfold plc; omega
  have hpa : plc ((A : Int) + 1) = A := by unfold plc; omega
  have hu : underB (n + 2) T ((n : Int) + 1) ((A : Int) + 1) = true := by
    unfold underB
    rw [hin, hpl, chain_eq q.ci.ok.dok (by omega), q.pro, if_neg (by show ¬ (n : Int) = 0; omega)]
    rw [show ((n : Int).toNat - 1) = n - 1 by omega, q.ci.chain (n - 1) (by omega)]
    simp only [Bool.true_and]
    exact List.any_eq_true.2 ⟨A, List.mem_cons_of_mem _ (List.mem_reverse.2 (List.mem_range.2 (by omega))), by simp⟩
  have hs : critS (n + 2) T ((n : Int) + 1) ((A : Int) + 1) = 0 := by
    unfold critS
    rw [if_neg (by rw [hin, hi1]; simp), hpl, hpa, q.pro, q.ci.job A hA, if_neg (show ¬ ((2 : Int) ≠ 2 ∨ (1 : Int) ≠ 1) by decide), if_neg (by rw [hu]; simp), if_neg (show ¬ ((0 : Int) = 2 ∨ (1 : Int) = 2 ∨ (0 : Int) ≠ 0) by decide)]
    rw [show ((n : Int).toNat - 1) = n - 1 by omega, q.ci.job (n - 1) (by omega)]
    exact if_neg (show ¬ (bits .and .i64 (0 : Int) 8 ≠ 0) by decide)
  refine (h.critical (by omega) ((n : Int) + 1) ((A : Int) + 1)).mono ?_
  rintro x w' ⟨rfl, h2, h3⟩
  unfold critT at h2
  rw [hs] at h2 ⊢
  rw [if_pos rfl, hpl] at h2
  refine ⟨rfl, ⟨_, h2, ⟨h2.ok, by omega, fun j hj => by rw [setT_other _ _ (by omega)]; exact q.ci.job j hj, by omega⟩, hA, ?_, by rw [setT_other _ _ (by omega)]; exact q.oth⟩, h3⟩
  rw [setT_same, q.pro]
def crOf (A : Nat) (K : Bool) : Int := if K = true then (A : Int) + 1 else 0
theorem cr_kill {K : Bool} (h : KSt w0 w c 100 (n + 2) T X) (q : CQ n A (crOf A K) T) (code : Int) : Calls Try.prog 47 #[.pointer (some ⟨c, 0, none⟩), .int .i64 ((n : Int) + 1), .int .i64 code] w fun x w' =>
    ∃ v l, x = .returned (.tuple #[v, .int .i64 0]) ∧ Nums v (((n : Int) + 1) :: l) w' ∧ (∃ T', KSt w0 w' c 100 (n + 2) T' X ∧ (∀ j, j < n → aliveB (T' j) = !(K && decide (A ≤ j))) ∧ aliveB (T' (n + 1)) = !K) ∧ Kp X w w' := by
  have q2 := q.ci.two
  have hA := q.lt
  have hin : inN (n + 2) ((n : Int) + 1) = true := inN_iff.2 ⟨by omega, by omega⟩
  have hpl : plc ((n : Int) + 1) = n := by unfold plc; omega
  have hp : n < n + 2 := by omega
  have ha : (T n).st ≠ 2 := by rw [q.pro]; exact (show (0 : Int) ≠ 2 by decide)
  have hs : killS (n + 2) T ((n : Int) + 1) = 0 := by unfold killS; rw [if_neg (by rw [hin]; simp), hpl, if_neg ha]
  have hkd : ∀ j, j < n + 2 → (T j).par = (n : Int) + 1 → (T j).st = 2 := by
    intro j hj he
    exfalso
    rcases (show j < n ∨ j = n ∨ j = n + 1 by omega) with h1 | rfl | rfl
    · rw [q.ci.job j h1] at he; have : (j : Int) = (n : Int) + 1 := he; omega
    · rw [q.pro] at he; have : (j : Int) = (j : Int) + 1 := he; omega
    · rw [q.oth] at he; have : (A : Int) + 1 = (n : Int) + 1 := he; omega
  have hd := die_leaf q.ci.ok.dok hp ha hkd code
  have hE1 : Ends (n + 2) code T [n] (endT T code n) := .one hp ha hkd
  refine (h.kill (by omega) ((n : Int) + 1) code).mono ?_
  rintro x w' ⟨v, rfl, r, h2, h3, -⟩
  unfold killT at h2
  unfold killL at r
  rw [hs] at h2 r ⊢
  rw [if_pos rfl, hpl] at h2 r
  cases K with
  | false =>
    rw [if_pos (by rw [q.pro]; rfl)] at hd
    rw [hd] at h2 r
    dsimp only at h2 r
    refine ⟨v, [], rfl, r, ⟨_, h2, fun j hj => ?_, ?_⟩, h3⟩
    · rw [endT_other _ _ (by omega), q.ci.job j hj]; rfl
    · rw [endT_other _ _ (by omega), q.oth]; rfl
  | true =>
    have hcr : (T n).crit = (A : Int) + 1 := by rw [q.pro]; rfl
    rw [if_neg (by rw [hcr]; omega), hcr, show ((A : Int) + 1).toNat - 1 = A by omega] at hd
    have hAn : A < n + 2 := by omega
    obtain ⟨hE2, hA2⟩ := die_ends (hE1.ok q.ci.ok.dok) hAn code
    have hdok := hE2.ok (hE1.ok q.ci.ok.dok)
    have hC : Conf (n + 2) T (fun k => A ≤ k) := by
      refine ⟨fun i j hi hj e => ?_, fun j hj hu hal => ?_⟩
      · have := q.ci.ok.dok.par j hj
        show A ≤ j
        have hi' : A ≤ i := hi
        omega
      · rcases (show j < n ∨ j = n ∨ j = n + 1 by omega) with h1 | rfl | rfl
        · left; rw [q.ci.job j h1]
        · right; rw [hcr]; show A ≤ _; omega
        · left; rw [q.oth]
    have hin2 := die_in (hE1.ok q.ci.ok.dok) (hC.ends hE1) hAn (show A ≤ A from Nat.le_refl _) code
    have hw2 := hE2.what
    have hf2 := hE2.fields
    rw [hd] at h2 r
    dsimp only at h2 r
    have hpar : ∀ j, ((die (n + 2) code (endT T code n) A).1 j).par = (T j).par := fun j => by rw [(hf2 j).1, (endT_par T code n j).1]
    refine ⟨v, _, rfl, r, ⟨_, h2, fun j hj => ?_, ?_⟩, h3⟩
    · by_cases hjA : A ≤ j
      · have key : ∀ d, A + d < n → ((die (n + 2) code (endT T code n) A).1 (A + d)).st = 2 := by
          intro d
          induction d with
          | zero => exact fun _ => hA2
          | succ d ih =>
            intro hlt
            refine hdok.down (A + (d + 1)) (A + d) (by omega) (by omega) ?_ (ih (by omega))
            rw [hpar, q.ci.job _ (by omega)]
            show ((A + (d + 1) : Nat) : Int) = _
            omega
        have := key (j - A) (by omega)
        rw [show A + (j - A) = j by omega] at this
        unfold aliveB
        rw [this]
        simp [hjA]
      · have hno : j ∉ (die (n + 2) code (endT T code n) A).2 := fun hm => hjA (hin2 j hm)
        rw [hw2.2.1 j hno, endT_other _ _ (by omega), q.ci.job j hj]
        simp [hjA, aliveB]
    · have : ((die (n + 2) code (endT T code n) A).1 (n + 1)).st = 2 := hdok.down (n + 1) A (by omega) (by omega) (by rw [hpar, q.oth]) hA2
      unfold aliveB
      rw [this]
      rfl
theorem ci1 (h : TOK 100 1 T1) : CI 1 1 T1 := by
  refine ⟨h, Nat.le_refl _, fun j hj => ?_, by decide⟩
  obtain rfl : j = 0 := by omega
  rfl
end
end Go.Proofs.Ytabakjimlndhcaa
