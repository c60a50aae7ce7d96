/-
  What TasksExits' calls answer. No walk, no conditions.
-/
import Derived.Test.YtabakjimlndhcaaTkInfo
import Derived.Test.YtabakjimlndhcaaTkAwake
namespace Go.Proofs.Ytabakjimlndhcaa
open Go.ChangeShapes Go.WideShapes Go.ChangeAt Go.RowKit

/-- A process that runs, and threads of the states s below it. -/
structure EX (n : Nat) (s : Nat → Int) (T : Nat → Tk) : Prop where
  ok : TOK 100 n T
  ge : 2 ≤ n ∧ n ≤ 32
  root : T 0 = ⟨1, 0, 1, 0, 0, 0⟩
  pro : (T 1).kind = 2 ∧ (T 1).par = 1 ∧ (T 1).st = 1 ∧ (T 1).crit = 0
  thr : ∀ i, 2 ≤ i → i < n → (T i).kind = 3 ∧ (T i).par = 2 ∧ (T i).st = s i ∧ (T i).crit = 0
section
variable {w0 w : World} {c n i : Nat} {s s' : Nat → Int} {T : Nat → Tk} {X : Nat → Prop}
theorem EX.same (h : EX n s T) (e : ∀ i, 2 ≤ i → i < n → s i = s' i) : EX n s' T := ⟨h.ok, h.ge, h.root, h.pro, fun i h1 h2 => by have := h.thr i h1 h2; rw [e i h1 h2] at this; exact this⟩
theorem live_le' (T : Nat → Tk) (n : Nat) : liveN T n ≤ n := by
  have : liveN T n ≤ (List.range n).length := List.countP_le_length
  rwa [List.length_range] at this
theorem ex_make (h : KSt w0 w c 100 n T X) (q : EX n s T) (hn : n ≤ 31) (hs0 : s n = 0) : Calls Try.prog 45 #[.pointer (some ⟨c, 0, none⟩), .int .i64 3, .int .i64 2] w fun x w' => x = .returned (.tuple #[.int .i64 ((n : Int) + 1), .int .i64 0]) ∧ ∃ T', KSt w0 w' c 100 (n + 1) T' X ∧ EX (n + 1) s T' := by
  have hg := q.ge
  have hin : inN n 2 = true := inN_iff.2 ⟨by omega, by omega⟩
  obtain ⟨p1, p2, p3, p4⟩ := q.pro
  have hj : jobP T 1 = 0 := by unfold jobP; rw [if_pos p1, p2]; rfl
  have hll := live_le' T n
  have hs : mkS 100 n T 3 2 = 0 := by
    unfold mkS
    rw [if_neg (by rw [hin]; simp), show plc 2 = 1 from rfl, hj, q.root, p1, p3, if_neg (by decide), if_neg (by decide), if_neg (by decide), if_neg (fun e => absurd e.1 (by decide)), if_neg (by omega)]
  refine (h.make (by omega) 3 2).mono ?_
  rintro x w' ⟨rfl, h2, -⟩
  unfold mkC mkT at h2
  rw [hs] at h2 ⊢
  rw [if_pos rfl, if_pos rfl] at h2
  refine ⟨rfl, _, h2, h2.ok, by omega, by rw [setT_other _ _ (by omega)]; exact q.root, by rw [setT_other _ _ (by omega)]; exact q.pro, fun i h1 h3 => ?_⟩
  by_cases e : i = n
  · subst e
    rw [setT_same, hs0]
    exact ⟨rfl, rfl, rfl, rfl⟩
  · rw [setT_other _ _ e]
    exact q.thr i h1 (by omega)
theorem ex_start (h : KSt w0 w c 100 n T X) (q : EX n s T) (hi : 2 ≤ i) (hin : i < n) (hs0 : s i = 0) : Calls Try.prog 46 #[.pointer (some ⟨c, 0, none⟩), .int .i64 ((i : Int) + 1)] w fun x w' => x = .returned (.int .i64 0) ∧ ∃ T', KSt w0 w' c 100 n T' X ∧ EX n (updN s i 1) T' := by
  have hg := q.ge
  have hinn : inN n ((i : Int) + 1) = true := inN_iff.2 ⟨by omega, by omega⟩
  have hpl : plc ((i : Int) + 1) = i := by unfold plc; omega
  obtain ⟨p1, p2, p3, p4⟩ := q.pro
  obtain ⟨t1, t2, t3, t4⟩ := q.thr i hi hin
  have hs : startS n T ((i : Int) + 1) = 0 := by
    unfold startS
    rw [if_neg (by rw [hinn]; simp), hpl, t1, t2, t3, hs0, show ((2 : Int).toNat - 1) = 1 from rfl, p3, if_neg (by decide), if_neg (by decide)]
  refine (h.start (by omega) ((i : Int) + 1)).mono ?_
  rintro x w' ⟨rfl, h2, -⟩
  unfold startT at h2
  rw [hs] at h2 ⊢
  rw [if_pos rfl, hpl] at h2
  refine ⟨rfl, _, h2, h2.ok, hg, by rw [setT_other _ _ (by omega)]; exact q.root, by rw [setT_other _ _ (by omega)]; exact q.pro, fun j h1 h3 => ?_⟩
  by_cases e : j = i
  · subst e
    rw [setT_same, updN_same]
    exact ⟨t1, t2, rfl, t4⟩
  · rw [setT_other _ _ e, updN_other _ _ e]
    exact q.thr j h1 h3
theorem ex_exit_no (h : KSt w0 w c 100 n T X) (q : EX n s T) (hi : 2 ≤ i) (hin : i < n) (hs0 : s i ≠ 1) (code : Int) : Calls Try.prog 48 #[.pointer (some ⟨c, 0, none⟩), .int .i64 ((i : Int) + 1), .int .i64 code] w fun x w' => ∃ v, x = .returned (.tuple #[v, .int .i64 (-20)]) ∧ Nums v [] w' ∧ KSt w0 w' c 100 n T X ∧ Kp X w w' := by
  have hg := q.ge
  have hinn : inN n ((i : Int) + 1) = true := inN_iff.2 ⟨by omega, by omega⟩
  have hpl : plc ((i : Int) + 1) = i := by unfold plc; omega
  obtain ⟨t1, t2, t3, t4⟩ := q.thr i hi hin
  have hs : exitS n T ((i : Int) + 1) = -20 := by
    unfold exitS
    rw [if_neg (by rw [hinn]; simp), hpl, t1, t3, if_neg (by decide), if_pos hs0]
  refine (h.exit (by omega) ((i : Int) + 1) code).mono ?_
  rintro x w' ⟨v, rfl, r, h2, h3, -⟩
  unfold exitT at h2
  unfold exitL at r
  rw [hs] at h2 r ⊢
  exact ⟨v, rfl, r, h2, h3⟩
theorem EX.leaf (q : EX n s T) (hi : 2 ≤ i) : ∀ j, j < n → (T j).par = (i : Int) + 1 → (T j).st = 2 := by
  intro j hj he
  exfalso
  rcases (show j = 0 ∨ j = 1 ∨ 2 ≤ j by omega) with rfl | rfl | h
  · rw [q.root] at he; have : (0 : Int) = (i : Int) + 1 := he; omega
  · rw [q.pro.2.1] at he; omega
  · rw [(q.thr j h hj).2.1] at he; omega
theorem EX.exit1 (q : EX n s T) (hi : 2 ≤ i) (hin : i < n) (hs1 : s i = 1) (code : Int) : exitS n T ((i : Int) + 1) = 0 ∧ plc ((i : Int) + 1) = i ∧ die n code T i = (endT T code i, [i]) ∧ (T i).par.toNat - 1 = 1 ∧ Ends n code T [i] (endT T code i) := by
  have hg := q.ge
  have hinn : inN n ((i : Int) + 1) = true := inN_iff.2 ⟨by omega, by omega⟩
  have hpl : plc ((i : Int) + 1) = i := by unfold plc; omega
  obtain ⟨t1, t2, t3, t4⟩ := q.thr i hi hin
  have ha : (T i).st ≠ 2 := by rw [t3, hs1]; decide
  have hd := die_leaf q.ok.dok hin ha (q.leaf hi) code
  rw [if_pos t4] at hd
  refine ⟨?_, hpl, hd, by rw [t2]; rfl, .one hin ha (q.leaf hi)⟩
  unfold exitS
  rw [if_neg (by rw [hinn]; simp), hpl, t1, t3, hs1, if_neg (by decide), if_neg (by decide)]
theorem ex_exit (h : KSt w0 w c 100 n T X) (q : EX n s T) (hi : 2 ≤ i) (hin : i < n) (hs1 : s i = 1) (code : Int) {j : Nat} (hj : 2 ≤ j) (hjn : j < n) (hji : j ≠ i) (hsj : s j ≠ 2) :
    Calls Try.prog 48 #[.pointer (some ⟨c, 0, none⟩), .int .i64 ((i : Int) + 1), .int .i64 code] w fun x w' => ∃ v, x = .returned (.tuple #[v, .int .i64 0]) ∧ Nums v [(i : Int) + 1] w' ∧ (∃ T', KSt w0 w' c 100 n T' X ∧ EX n (updN s i 2) T') ∧ Kp X w w' := by
  obtain ⟨hs, hpl, hd, hpar, hE⟩ := q.exit1 hi hin hs1 code
  have hg := q.ge
  have hl : liveK (endT T code i) n 1 ≠ 0 := by
    have hm : j ∈ kidL (endT T code i) n 1 := mem_kidL.2 ⟨hjn, by rw [(endT_par T code i j).1, (q.thr j hj hjn).2.1]; rfl⟩
    have : 0 < liveK (endT T code i) n 1 := List.countP_pos_iff.2 ⟨j, hm, by rw [endT_other _ _ hji]; unfold aliveB; rw [(q.thr j hj hjn).2.2.1]; simpa using hsj⟩
    omega
  have hR : exitR n T ((i : Int) + 1) code = (endT T code i, [i]) := by
    unfold exitR
    rw [hpl, hd, hpar, if_neg hl]
  refine (h.exit (by omega) ((i : Int) + 1) code).mono ?_
  rintro x w' ⟨v, rfl, r, h2, h3, -⟩
  unfold exitT at h2
  unfold exitL at r
  rw [hs] at h2 r ⊢
  rw [if_pos rfl, hR] at h2 r
  dsimp only at h2 r
  refine ⟨v, rfl, r, ⟨_, h2, h2.ok, hg, by rw [endT_other _ _ (by omega)]; exact q.root, by rw [endT_other _ _ (by omega)]; exact q.pro, fun k h4 h5 => ?_⟩, h3⟩
  obtain ⟨t1, t2, t3, t4⟩ := q.thr k h4 h5
  by_cases e : k = i
  · subst e
    rw [endT_same, updN_same]
    exact ⟨t1, t2, rfl, t4⟩
  · rw [endT_other _ _ e, updN_other _ _ e]
    exact ⟨t1, t2, t3, t4⟩
theorem ex_exit_last (h : KSt w0 w c 100 n T X) (q : EX n s T) (hi : 2 ≤ i) (hin : i < n) (hs1 : s i = 1) (code : Int) (hall : ∀ j, 2 ≤ j → j < n → j ≠ i → s j = 2) :
    Calls Try.prog 48 #[.pointer (some ⟨c, 0, none⟩), .int .i64 ((i : Int) + 1), .int .i64 code] w fun x w' => ∃ v, x = .returned (.tuple #[v, .int .i64 0]) ∧ Nums v [(i : Int) + 1, 2] w' ∧ (∃ T', KSt w0 w' c 100 n T' X ∧ T' 1 = (T 1).dead code ∧ liveN T' n = 1) ∧ Kp X w w' := by
  obtain ⟨hs, hpl, hd, hpar, hE⟩ := q.exit1 hi hin hs1 code
  have hg := q.ge
  have hkd : ∀ k, k < n → (endT T code i k).par = ((1 : Nat) : Int) + 1 → (endT T code i k).st = 2 := by
    intro k hk he
    rw [(endT_par T code i k).1] at he
    rw [endT_dead]
    rcases (show k = 0 ∨ k = 1 ∨ 2 ≤ k by omega) with rfl | rfl | h2
    · rw [q.root] at he; have : (0 : Int) = ((1 : Nat) : Int) + 1 := he; omega
    · rw [q.pro.2.1] at he; omega
    · by_cases e : k = i
      · exact .inl e
      · exact .inr (by rw [(q.thr k h2 hk).2.2.1]; exact hall k h2 hk e)
  have hl : liveK (endT T code i) n 1 = 0 := List.countP_eq_zero.2 (fun k hk => by
    obtain ⟨h1, h2⟩ := mem_kidL.1 hk
    unfold aliveB
    rw [hkd k h1 h2]
    simp)
  have ha1 : (endT T code i 1).st ≠ 2 := by rw [endT_other _ _ (by omega), q.pro.2.2.1]; decide
  have hd2 := die_leaf (hE.ok q.ok.dok) (show 1 < n by omega) ha1 hkd code
  rw [if_pos (by rw [(endT_par T code i 1).2.1]; exact q.pro.2.2.2)] at hd2
  have hE2 := hE.app (.one (show 1 < n by omega) ha1 hkd)
  have hR : exitR n T ((i : Int) + 1) code = (endT (endT T code i) code 1, [i, 1]) := by
    unfold exitR
    rw [hpl, hd, hpar, if_pos hl, hd2]
    rfl
  refine (h.exit (by omega) ((i : Int) + 1) code).mono ?_
  rintro x w' ⟨v, rfl, r, h2, h3, -⟩
  unfold exitT at h2
  unfold exitL at r
  rw [hs] at h2 r ⊢
  rw [if_pos rfl, hR] at h2 r
  dsimp only at h2 r
  refine ⟨v, rfl, r, ⟨_, h2, by rw [endT_same, endT_other _ _ (by omega)], ?_⟩, h3⟩
  have key : ∀ k, k < n → ((endT (endT T code i) code 1 k).st ≠ 2 ↔ k = 0) := by
    intro k hk
    rw [ne_eq, endT_dead, endT_dead]
    rcases (show k = 0 ∨ k = 1 ∨ 2 ≤ k by omega) with rfl | rfl | h2
    · rw [q.root]
      simp
      omega
    · simp
    · by_cases e : k = i
      · subst e; simp; omega
      · rw [(q.thr k h2 hk).2.2.1, hall k h2 hk e]; simp; omega
  unfold liveN
  rw [show n = 1 + (n - 1) by omega, List.range_add, List.countP_append]
  have z1 : (List.range 1).countP (fun j => aliveB (endT (endT T code i) code 1 j)) = 1 := by
    have : aliveB (endT (endT T code i) code 1 0) = true := by unfold aliveB; simpa using (key 0 (by omega)).2 rfl
    simp [List.range_succ, this]
  have z2 : ((List.range (n - 1)).map (fun x => 1 + x)).countP (fun j => aliveB (endT (endT T code i) code 1 j)) = 0 := List.countP_eq_zero.2 (fun k hk => by
    obtain ⟨x, hx, rfl⟩ := List.mem_map.1 hk
    have hx' := List.mem_range.1 hx
    unfold aliveB
    have := (key (1 + x) (by omega))
    by_cases e : (endT (endT T code i) code 1 (1 + x)).st = 2
    · simp [e]
    · have := this.1 e; omega)
  rw [z1, z2]
theorem ex_alive (h : KSt w0 w c 100 n T X) (hn : n ≤ 32) (h2 : 2 ≤ n) (v : Bool) (hv : aliveB (T 1) = v) : Calls Try.prog 38 #[.pointer (some ⟨c, 0, none⟩), .int .i64 2] w fun x w' => x = .returned (.bool v) ∧ w = w' := by
  have hin : inN n 2 = true := inN_iff.2 ⟨by omega, by omega⟩
  have := h.alive (by omega) 2
  unfold aliveAt at this
  rw [hin, show plc 2 = 1 from rfl, hv] at this
  exact this
/-- How it begins. -/
theorem ex_one (h : KSt w0 w c 100 1 T1 X) : Calls Try.prog 45 #[.pointer (some ⟨c, 0, none⟩), .int .i64 2, .int .i64 1] w fun x w' => x = .returned (.tuple #[.int .i64 2, .int .i64 0]) ∧ KSt w0 w' c 100 2 (mkT 100 1 T1 2 1) X := by
  have hs : mkS 100 1 T1 2 1 = 0 := by decide
  refine (h.make (by omega) 2 1).mono ?_
  rintro x w' ⟨rfl, h2, -⟩
  rw [show mkC 100 1 T1 2 1 = 2 by unfold mkC; rw [hs]; rfl] at h2
  rw [hs]
  exact ⟨rfl, h2⟩
theorem ex_two (h : KSt w0 w c 100 2 (mkT 100 1 T1 2 1) X) (s : Nat → Int) : Calls Try.prog 46 #[.pointer (some ⟨c, 0, none⟩), .int .i64 2] w fun x w' => x = .returned (.int .i64 0) ∧ ∃ T', KSt w0 w' c 100 2 T' X ∧ EX 2 s T' := by
  have hs0 : mkS 100 1 T1 2 1 = 0 := by decide
  have hT : mkT 100 1 T1 2 1 = setT T1 1 ⟨2, 1, 0, 0, 0, 0⟩ := by unfold mkT; rw [if_pos hs0]; rfl
  have hs : startS 2 (mkT 100 1 T1 2 1) 2 = 0 := by decide
  refine (h.start (by omega) 2).mono ?_
  rintro x w' ⟨rfl, h2, -⟩
  unfold startT at h2
  rw [hs] at h2 ⊢
  rw [if_pos rfl, show plc 2 = 1 from rfl, hT, setT_same] at h2
  refine ⟨rfl, _, h2, h2.ok, by omega, rfl, ⟨rfl, rfl, rfl, rfl⟩, fun i h1 h3 => by omega⟩
end
end Go.Proofs.Ytabakjimlndhcaa
