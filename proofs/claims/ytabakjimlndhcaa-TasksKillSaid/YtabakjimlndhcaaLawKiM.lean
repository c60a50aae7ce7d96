/-
  What TasksKill's calls leave, and what is so behind a kill. No walk, no conditions.
-/
import Derived.Test.YtabakjimlndhcaaTkInfo
import Derived.Test.YtabakjimlndhcaaTkAwake
import Derived.Test.YtabakjimlndhcaaTkConf
namespace Go.Proofs.Ytabakjimlndhcaa
open Go.ChangeShapes Go.WideShapes Go.ChangeAt Go.RowKit

def noC (n : Nat) (T : Nat → Tk) : Prop := ∀ i, i < n → (T i).crit = 0
/-- A tree, and whether one may be critical. -/
structure KI (w0 w : World) (c n : Nat) (T : Nat → Tk) (X : Nat → Prop) (cb : Bool) : Prop where
  st : KSt w0 w c 200 n T X
  no : cb = false → noC n T
section
variable {w0 w w' : World} {c n p : Nat} {code : Int} {T T' : Nat → Tk} {X : Nat → Prop} {cb : Bool} {o : List Nat}
theorem KI.past (h : KI w0 w c n T X cb) (t : Turn NoBlock w w') : KI w0 w' c n T X cb := ⟨h.st.past t, h.no⟩
theorem noC.ends (h : noC n T) (he : Ends n code T o T') : noC n T' := fun i hi => by rw [(he.fields i).2.1]; exact h i hi
theorem ki_make (h : KI w0 w c n T X cb) (hn : n ≤ 1000) (k p : Int) : Calls Try.prog 45 #[.pointer (some ⟨c, 0, none⟩), .int .i64 k, .int .i64 p] w fun x w' => ∃ r s, x = .returned (.tuple #[.int .i64 r, .int .i64 s]) ∧ ∃ n' T', KI w0 w' c n' T' X cb ∧ n' ≤ n + 1 := by
  refine (h.st.make (by omega) k p).mono ?_
  rintro x w' ⟨rfl, h2, -⟩
  refine ⟨_, _, rfl, _, _, ⟨h2, fun hc i hi => ?_⟩, by unfold mkC; split <;> omega⟩
  unfold mkC at hi
  unfold mkT
  by_cases e : mkS 200 n T k p = 0
  · rw [if_pos e] at hi ⊢
    by_cases e2 : i = n
    · subst e2; rw [setT_same]; rfl
    · rw [setT_other _ _ e2]; exact h.no hc i (by omega)
  · rw [if_neg e] at hi ⊢
    exact h.no hc i hi
theorem noC.set (h : noC n T) {t : Tk} (ht : t.crit = 0) : noC n (setT T p t) := fun i hi => by
  by_cases e : i = p
  · subst e; rw [setT_same]; exact ht
  · rw [setT_other _ _ e]; exact h i hi
theorem ki_start (h : KI w0 w c n T X cb) (hn : n ≤ 1000) (a : Int) : Calls Try.prog 46 #[.pointer (some ⟨c, 0, none⟩), .int .i64 a] w fun x w' => ∃ s, x = .returned (.int .i64 s) ∧ ∃ T', KI w0 w' c n T' X cb := by
  refine (h.st.start (by omega) a).mono ?_
  rintro x w' ⟨rfl, h2, -⟩
  refine ⟨_, rfl, _, h2, fun hc => ?_⟩
  unfold startT
  by_cases e : startS n T a = 0
  · rw [if_pos e]
    have hin : inN n a = true := by
      unfold startS at e
      by_cases hi : inN n a = false
      · rw [if_pos hi] at e; omega
      · simpa using hi
    exact (h.no hc).set (h.no hc _ (plc_lt hin))
  · rw [if_neg e]; exact h.no hc
theorem killS_in {id : Int} (hs : killS n T id = 0) : inN n id = true ∧ (T (plc id)).st ≠ 2 := by
  unfold killS at hs
  by_cases hi : inN n id = false
  · rw [if_pos hi] at hs; omega
  · rw [if_neg hi] at hs
    by_cases hd : (T (plc id)).st = 2
    · rw [if_pos hd] at hs; omega
    · exact ⟨by simpa using hi, hd⟩
theorem ki_kill (h : KI w0 w c n T X cb) (hn : n ≤ 1000) (a b : Int) : Calls Try.prog 47 #[.pointer (some ⟨c, 0, none⟩), .int .i64 a, .int .i64 b] w fun x w' => ∃ v s, x = .returned (.tuple #[v, .int .i64 s]) ∧ ∃ T', KI w0 w' c n T' X cb := by
  refine (h.st.kill (by omega) a b).mono ?_
  rintro x w' ⟨v, rfl, r, h2, -, -⟩
  refine ⟨v, _, rfl, _, h2, fun hc => ?_⟩
  unfold killT
  by_cases e : killS n T a = 0
  · rw [if_pos e]
    exact (h.no hc).ends (die_ends h.st.ok.dok (plc_lt (killS_in e).1) b).1
  · rw [if_neg e]; exact h.no hc
theorem ki_exit (h : KI w0 w c n T X cb) (hn : n ≤ 1000) (a b : Int) : Calls Try.prog 48 #[.pointer (some ⟨c, 0, none⟩), .int .i64 a, .int .i64 b] w fun x w' => ∃ v s, x = .returned (.tuple #[v, .int .i64 s]) ∧ ∃ T', KI w0 w' c n T' X cb := by
  refine (h.st.exit (by omega) a b).mono ?_
  rintro x w' ⟨v, rfl, r, h2, -, -⟩
  refine ⟨v, _, rfl, _, h2, fun hc => ?_⟩
  unfold exitT
  by_cases e : exitS n T a = 0
  · rw [if_pos e]
    have hin : inN n a = true ∧ (T (plc a)).kind = 3 := by
      unfold exitS at e
      by_cases hi : inN n a = false
      · rw [if_pos hi] at e; omega
      · rw [if_neg hi] at e
        by_cases hk : (T (plc a)).kind ≠ 3
        · rw [if_pos hk] at e; omega
        · exact ⟨by simpa using hi, by omega⟩
    have hp := plc_lt hin.1
    have h0 : 0 < plc a := by
      rcases Nat.eq_zero_or_pos (plc a) with e1 | e1
      · have := h.st.ok.root.2; rw [← e1, hin.2] at this; omega
      · exact e1
    obtain ⟨i, hi, hpi, -⟩ := h.st.ok.up _ hp h0
    have hE := (die_ends h.st.ok.dok hp b).1
    have n1 := (h.no hc).ends hE
    unfold exitR
    split
    · exact n1.ends (die_ends (hE.ok h.st.ok.dok) (show (T (plc a)).par.toNat - 1 < n by omega) b).1
    · exact n1
  · rw [if_neg e]; exact h.no hc
theorem ki_crit (h : KI w0 w c n T X cb) (hn : n ≤ 1000) (a b : Int) : Calls Try.prog 49 #[.pointer (some ⟨c, 0, none⟩), .int .i64 a, .int .i64 b] w fun x w' => ∃ s, x = .returned (.int .i64 s) ∧ ∃ T', KI w0 w' c n T' X (cb || (s == 0)) := by
  refine (h.st.critical (by omega) a b).mono ?_
  rintro x w' ⟨rfl, h2, -⟩
  refine ⟨_, rfl, _, h2, fun hc => ?_⟩
  simp only [Bool.or_eq_false_iff, beq_eq_false_iff_ne, ne_eq] at hc
  unfold critT
  rw [if_neg hc.2]
  exact h.no hc.1
/-- What is so behind a kill. -/
structure KD (n : Nat) (T : Nat → Tk) (id code : Int) (T' : Nat → Tk) (o : List Nat) : Prop where
  ok : DOK n T'
  ends : Ends n code T o T'
  dead : ∀ q, q < n → underB n T' ((q : Int) + 1) id = true → (T' q).st = 2
  under : noC n T → ∀ q, q ∈ o → underB n T' ((q : Int) + 1) id = true
theorem under_at (hq : p < n) (id : Int) : underB n T ((p : Int) + 1) id = (chain T p).any (fun q => decide ((q : Int) + 1 = id)) := by
  unfold underB inN plc
  rw [show ((p : Int) + 1 - 1).toNat = p by omega]
  have : decide (1 ≤ (p : Int) + 1 ∧ (p : Int) + 1 ≤ n) = true := by simp; omega
  rw [this]
  rfl
theorem chain_mem (hd : DOK n T) {z : Nat} : ∀ (m q : Nat), q < n → q < m → z ∈ chain T q → ∀ (P : Nat → Prop), P z → (∀ i j, i < n → P i → j < n → (T j).par = (i : Int) + 1 → P j) → P q
  | 0, _, _, h, _, _, _, _ => absurd h (Nat.not_lt_zero _)
  | m + 1, q, hq, hm, hz, P, hP, hk => by
    rw [chain_eq hd hq] at hz
    rcases List.mem_cons.1 hz with rfl | hz
    · exact hP
    · by_cases h0 : (T q).par = 0
      · rw [if_pos h0] at hz; cases hz
      · rw [if_neg h0] at hz
        have := par_lt hd hq h0
        have hpr := hd.par q hq
        exact hk ((T q).par.toNat - 1) q (by omega) (chain_mem hd m _ (by omega) (by omega) hz P hP hk) hq (by omega)
theorem kd_of (hd : DOK n T) {id : Int} (hs : killS n T id = 0) (code : Int) : KD n T id code (killT n T id code) (die n code T (plc id)).2 ∧ killL n T id code = numL (die n code T (plc id)).2 := by
  obtain ⟨hin, ha⟩ := killS_in hs
  have hp := plc_lt hin
  have hpe := plc_id hin
  obtain ⟨hE, hz⟩ := die_ends hd hp code
  have hT : killT n T id code = (die n code T (plc id)).1 := by unfold killT; rw [if_pos hs]
  have hok := hE.ok hd
  have hany : ∀ {q : Nat}, q < n → (underB n (die n code T (plc id)).1 ((q : Int) + 1) id = true ↔ plc id ∈ chain (die n code T (plc id)).1 q) := fun {q} hq => by
    rw [under_at hq, List.any_eq_true]
    constructor
    · rintro ⟨x, hx, e⟩
      simp only [decide_eq_true_eq] at e
      obtain rfl : x = plc id := by omega
      exact hx
    · exact fun h => ⟨_, h, by simpa using hpe.symm⟩
  rw [hT]
  refine ⟨⟨hok, hE, fun q hq hu => ?_, fun hn q hq => ?_⟩, by unfold killL; rw [if_pos hs]⟩
  · exact chain_mem hok (q + 1) q hq (Nat.lt_succ_self _) ((hany hq).1 hu) (fun i => ((die n code T (plc id)).1 i).st = 2) hz (fun i j hi h1 hj h2 => hok.down j i hj hi h2 h1)
  · have hqn := (hE.what.1 q hq).1
    rw [hany hqn]
    have hC : Conf n T (fun q => q < n ∧ plc id ∈ chain T q) := by
      refine ⟨fun i j hi hj e => ⟨hj, ?_⟩, fun j hj _ _ => .inl (hn j hj)⟩
      rw [chain_eq hd hj, if_neg (by omega), show (T j).par.toNat - 1 = i by omega]
      exact List.mem_cons_of_mem _ hi.2
    have h3 := (die_in hd hC hp ⟨hp, by rw [chain_eq hd hp]; exact List.mem_cons_self⟩ code q hq).2
    rw [chain_congr (fun j => (hE.fields j).1)]
    exact h3
/-- The place of a number among those that died. -/
def plF (l : List Nat) (i : Nat) : Int := match l.findIdx? (fun q => q + 1 == i) with
  | some m => (m : Int) + 1
  | none => 0
theorem plF_nil (i : Nat) : plF [] i = 0 := rfl
theorem plF_no {l : List Nat} {i : Nat} (h : ∀ q, q ∈ l → q + 1 ≠ i) : plF l i = 0 := by
  unfold plF
  rw [List.findIdx?_eq_none_iff.2 (fun q hq => by simpa using h q hq)]
theorem plF_push {l : List Nat} {q i : Nat} (h : q ∉ l) : plF (l ++ [q]) i = if i = q + 1 then (l.length : Int) + 1 else plF l i := by
  unfold plF
  rw [List.findIdx?_append]
  by_cases e : i = q + 1
  · subst e
    rw [if_pos rfl, List.findIdx?_eq_none_iff.2 (fun x hx => by simp; intro e; subst e; exact h hx)]
    simp
  · rw [if_neg e]
    have : [q].findIdx? (fun q => q + 1 == i) = none := by
      rw [List.findIdx?_eq_none_iff]
      intro x hx
      rw [List.mem_singleton] at hx
      subst hx
      simp
      omega
    rw [this]
    cases l.findIdx? (fun q => q + 1 == i) <;> simp
theorem plF_pos {l : List Nat} {i : Nat} : 0 < plF l i ↔ ∃ q, q ∈ l ∧ q + 1 = i := by
  unfold plF
  cases h : l.findIdx? (fun q => q + 1 == i) with
  | none =>
    have := List.findIdx?_eq_none_iff.1 h
    refine ⟨fun h => by simp at h, ?_⟩
    rintro ⟨q, hq, e⟩
    have := this q hq
    simp [e] at this
  | some m =>
    have h1 := List.findIdx?_eq_some_iff_getElem.1 h
    obtain ⟨hm, h2, -⟩ := h1
    refine ⟨fun _ => ⟨l[m], List.getElem_mem hm, by simpa using h2⟩, fun _ => ?_⟩
    show (0 : Int) < (m : Int) + 1
    omega
theorem plF_nonneg (l : List Nat) (i : Nat) : 0 ≤ plF l i := by
  unfold plF
  split <;> omega
/-- A child's place is ahead of its parent's. -/
theorem KD.order {T' : Nat → Tk} {id : Int} (h : KD n T id code T' o) {q r : Nat} (hq : q ∈ o) (hr : r ∈ o) (he : (T q).par = (r : Int) + 1) : plF o (q + 1) < plF o (r + 1) := by
  obtain ⟨a, b, hab⟩ := List.append_of_mem hr
  have hnd := h.ends.what.2.2
  have hord := h.ends.order a r b hab
  have hqa : q ∈ a := by
    rw [hab] at hq
    rcases List.mem_append.1 hq with h1 | h1
    · exact h1
    · rcases List.mem_cons.1 h1 with rfl | h1
      · have := h.ok.par q (h.ends.what.1 q hr).1
        rw [(h.ends.fields q).1, he] at this
        omega
      · exact absurd he (hord q h1)
  have hra : r ∉ a := by
    rw [hab] at hnd
    exact fun hm => (List.nodup_append.1 hnd).2.2 r hm r List.mem_cons_self rfl
  have key : ∀ (a b : List Nat) (i : Nat), (∃ q, q ∈ a ∧ q + 1 = i) → plF (a ++ b) i = plF a i ∧ plF a i ≤ a.length := by
    intro a b i ⟨q, hq, e⟩
    unfold plF
    rw [List.findIdx?_append]
    cases h : a.findIdx? (fun q => q + 1 == i) with
    | none =>
      have := List.findIdx?_eq_none_iff.1 h q hq
      simp [e] at this
    | some m =>
      obtain ⟨hm, -, -⟩ := List.findIdx?_eq_some_iff_getElem.1 h
      refine ⟨rfl, ?_⟩
      show (m : Int) + 1 ≤ a.length
      omega
  obtain ⟨k1, k2⟩ := key a (r :: b) (q + 1) ⟨q, hqa, rfl⟩
  have k3 : plF (a ++ r :: b) (r + 1) = (a.length : Int) + 1 := by
    have h1 := (key (a ++ [r]) b (r + 1) ⟨r, by simp, rfl⟩).1
    rw [List.append_assoc, List.singleton_append] at h1
    rw [h1, plF_push hra, if_pos rfl]
  rw [hab, k1, k3]
  omega
end
end Go.Proofs.Ytabakjimlndhcaa
