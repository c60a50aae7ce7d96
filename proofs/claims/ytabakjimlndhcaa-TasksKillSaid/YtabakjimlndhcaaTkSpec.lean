/-
  What can be made of a tree of tasks, and what each call answers and makes of it, as plain functions. No walk, no conditions.
-/
import Derived.Test.YtabakjimlndhcaaTkFind
namespace Go.Proofs.Ytabakjimlndhcaa
open Go.RowKit

/-- A task and all that it stands below, up to the root. -/
def upF (T : Nat → Tk) : Nat → Nat → List Nat
  | 0, _ => []
  | f + 1, p => p :: (if (T p).par = 0 then [] else upF T f ((T p).par.toNat - 1))
def chain (T : Nat → Tk) (p : Nat) : List Nat := upF T (p + 1) p
def dep (T : Nat → Tk) (p : Nat) : Nat := (chain T p).length
def underB (n : Nat) (T : Nat → Tk) (id top : Int) : Bool := inN n id && (chain T (plc id)).any (fun q => decide ((q : Int) + 1 = top))
def fitsB (kind pk : Int) : Bool := decide ((kind = 1 ∨ kind = 2) ∧ pk = 1 ∨ kind = 3 ∧ pk = 2)
def forb (kind : Int) : Int := if kind = 2 then 1 else if kind = 1 then 2 else 4
/-- The place of the job that says what is made below p. -/
def jobP (T : Nat → Tk) (p : Nat) : Nat := if (T p).kind = 2 then (T p).par.toNat - 1 else p
def mkS (most : Int) (n : Nat) (T : Nat → Tk) (kind par : Int) : Int :=
  if inN n par = false then -25 else if fitsB kind (T (plc par)).kind = false then -12 else if (T (plc par)).st = 2 then -20 else
  if bits .and .i64 (T (jobP T (plc par))).pol (forb kind) ≠ 0 then -30 else if kind = 1 ∧ dep T (plc par) = 16 then -14 else if (liveN T n : Int) = most then -4 else 0
def newT (T : Nat → Tk) (kind par : Int) : Tk := ⟨kind, par, if kind = 1 then 1 else 0, 0, if kind = 1 then (T (plc par)).pol else 0, 0⟩

/-- What calls can make. -/
structure TOK (most : Int) (n : Nat) (T : Nat → Tk) : Prop where
  dok : DOK n T
  n1 : 1 ≤ n
  root : (T 0).par = 0 ∧ (T 0).kind = 1
  up : ∀ j, j < n → 0 < j → ∃ i : Nat, i < j ∧ (T j).par = (i : Int) + 1 ∧ fitsB (T j).kind (T i).kind = true
  st : ∀ j, j < n → 0 ≤ (T j).st ∧ (T j).st ≤ 2
  pol : ∀ j, j < n → 0 ≤ (T j).pol ∧ (T j).pol ≤ 15
  inh : ∀ j i, j < n → i < n → (T j).par = (i : Int) + 1 → (T j).kind = 1 → (T j).st ≠ 2 → 8 ≤ (T i).pol → 8 ≤ (T j).pol
  live : (liveN T n : Int) ≤ most
  most : 1 ≤ most ∧ most ≤ 65536
  dep : ∀ j, j < n → (T j).kind = 1 → dep T j ≤ 16
section
variable {n p q j i : Nat} {c most : Int} {T T' : Nat → Tk}
theorem fitsB_iff {kind pk : Int} : fitsB kind pk = true ↔ (kind = 1 ∨ kind = 2) ∧ pk = 1 ∨ kind = 3 ∧ pk = 2 := by simp [fitsB]
theorem par_lt (h : DOK n T) (hp : p < n) (h0 : (T p).par ≠ 0) : (T p).par.toNat - 1 < p := by have := h.par p hp; omega
theorem upF_same (h : DOK n T) : ∀ (f f' p : Nat), p < n → p < f → p < f' → upF T f p = upF T f' p
  | 0, _, _, _, h1, _ => absurd h1 (Nat.not_lt_zero _)
  | _ + 1, 0, _, _, _, h1 => absurd h1 (Nat.not_lt_zero _)
  | f + 1, f' + 1, p, hp, h1, h2 => by
    rw [upF, upF]
    by_cases h0 : (T p).par = 0
    · rw [if_pos h0, if_pos h0]
    · have := par_lt h hp h0
      rw [if_neg h0, if_neg h0, upF_same h f f' _ (by omega) (by omega) (by omega)]
theorem chain_eq (h : DOK n T) (hp : p < n) : chain T p = p :: (if (T p).par = 0 then [] else chain T ((T p).par.toNat - 1)) := by
  unfold chain
  rw [upF]
  by_cases h0 : (T p).par = 0
  · rw [if_pos h0, if_pos h0]
  · have := par_lt h hp h0
    rw [if_neg h0, if_neg h0, upF_same h p _ _ (by omega) (by omega) (Nat.lt_succ_self _)]
theorem upF_congr (h : ∀ j, (T' j).par = (T j).par) : ∀ f p, upF T' f p = upF T f p
  | 0, _ => rfl
  | f + 1, p => by rw [upF, upF, h p, upF_congr h f]
theorem chain_congr (h : ∀ j, (T' j).par = (T j).par) (p : Nat) : chain T' p = chain T p := upF_congr h _ p
theorem dep_congr (h : ∀ j, (T' j).par = (T j).par) (p : Nat) : Go.Proofs.Ytabakjimlndhcaa.dep T' p = Go.Proofs.Ytabakjimlndhcaa.dep T p := by unfold Go.Proofs.Ytabakjimlndhcaa.dep; rw [chain_congr h]
theorem upF_new (h : DOK n T) (t : Tk) : ∀ f p, p < n → upF (setT T n t) f p = upF T f p
  | 0, _, _ => rfl
  | f + 1, p, hp => by
    rw [upF, upF, setT_other T t (show p ≠ n by omega)]
    by_cases h0 : (T p).par = 0
    · rw [if_pos h0, if_pos h0]
    · have := par_lt h hp h0
      rw [if_neg h0, if_neg h0, upF_new h t f _ (by omega)]
theorem chain_new (h : DOK n T) (t : Tk) (hp : p < n) : chain (setT T n t) p = chain T p := upF_new h t _ p hp
theorem kidL_new (_h : DOK n T) (t : Tk) (_hj : j ≤ n) : kidL (setT T n t) (n + 1) j = kidL T n j ++ (if t.par = (j : Int) + 1 then [n] else []) := by
  unfold kidL
  rw [List.range_succ, List.filter_append]
  congr 1
  · refine List.filter_congr (fun x hx => ?_)
    rw [setT_other T t (show x ≠ n by have := List.mem_range.1 hx; omega)]
  · rw [List.filter_cons, setT_same]
    by_cases h1 : t.par = (j : Int) + 1
    · simp [h1]
    · simp [h1]
theorem kidL_end (h : DOK n T) : kidL T n n = [] := by
  rw [List.eq_nil_iff_forall_not_mem]
  intro j hj
  obtain ⟨h1, h2⟩ := mem_kidL.1 hj
  have := h.par j h1
  omega
theorem countP_new (t : Tk) (l : List Nat) (hl : ∀ x, x ∈ l → x < n) : l.countP (fun j => aliveB (setT T n t j)) = l.countP (fun j => aliveB (T j)) :=
  List.countP_congr (fun x hx => by rw [setT_other T t (show x ≠ n by have := hl x hx; omega)])
theorem live_new (t : Tk) (ha : t.st ≠ 2) : liveN (setT T n t) (n + 1) = liveN T n + 1 := by
  unfold liveN
  rw [List.range_succ, List.countP_append, countP_new t _ (fun x hx => List.mem_range.1 hx), List.countP_singleton, setT_same]
  have : aliveB t = true := by simpa [aliveB] using ha
  rw [this]
  rfl
theorem liveK_new (h : DOK n T) (t : Tk) (ha : t.st ≠ 2) (hj : j ≤ n) : liveK (setT T n t) (n + 1) j = liveK T n j + (if t.par = (j : Int) + 1 then 1 else 0) := by
  unfold liveK
  rw [kidL_new h t hj, List.countP_append, countP_new t _ (fun x hx => (mem_kidL.1 hx).1)]
  by_cases h1 : t.par = (j : Int) + 1
  · rw [if_pos h1, if_pos h1, List.countP_singleton, setT_same]
    have : aliveB t = true := by simpa [aliveB] using ha
    rw [this]
    rfl
  · rw [if_neg h1, if_neg h1]
    rfl
theorem mkS_ok {kind par : Int} (h : mkS most n T kind par = 0) : inN n par = true ∧ fitsB kind (T (plc par)).kind = true ∧ (T (plc par)).st ≠ 2 ∧ ¬ (bits .and .i64 (T (jobP T (plc par))).pol (forb kind) ≠ 0) ∧ ¬ (kind = 1 ∧ dep T (plc par) = 16) ∧ (liveN T n : Int) ≠ most := by
  unfold mkS at h
  repeat' split at h
  all_goals first | (exfalso; omega) | skip
  rename_i h1 h2 h3 h4 h5 h6
  exact ⟨by simpa using h1, by simpa using h2, h3, h4, h5, h6⟩
theorem TOK.make (h : TOK most n T) {kind par : Int} (hs : mkS most n T kind par = 0) : TOK most (n + 1) (setT T n (newT T kind par)) := by
  obtain ⟨h1, h2, h3, h4, h5, h6⟩ := mkS_ok hs
  have hp := plc_lt h1
  have hpe := plc_id h1
  have hk := fitsB_iff.1 h2
  have hst : (newT T kind par).st ≠ 2 := by unfold newT; dsimp only; split <;> omega
  have hpar : (newT T kind par).par = (plc par : Int) + 1 := hpe
  have hlt : ∀ {j : Nat}, j < n + 1 → j ≠ n → j < n := fun h1 h2 => by omega
  have hpn := h.pol (plc par) hp
  refine ⟨⟨fun j hj => ?_, fun j hj => ?_, fun j i hj hi he hd => ?_⟩, by omega, ?_, fun j hj h0 => ?_, fun j hj => ?_, fun j hj => ?_, fun j i hj hi he hkj hst' hpi => ?_, ?_, h.most, fun j hj hkj => ?_⟩
  · by_cases e : j = n
    · subst e; rw [setT_same, hpar]; omega
    · rw [setT_other _ _ e]; exact h.dok.par j (hlt hj e)
  · by_cases e : j = n
    · subst e; rw [setT_same]; unfold newT; dsimp only; omega
    · rw [setT_other _ _ e]; have := h.dok.crit j (hlt hj e); omega
  · by_cases e : j = n
    · subst e
      rw [setT_same, hpar] at he
      have hi : i = plc par := by omega
      subst hi
      rw [setT_other _ _ (by omega)] at hd
      exact absurd hd h3
    · rw [setT_other _ _ e] at he ⊢
      have hj' := hlt hj e
      have := h.dok.par j hj'
      rw [setT_other _ _ (show i ≠ n by omega)] at hd
      exact h.dok.down j i hj' (by omega) he hd
  · have := h.n1
    rw [setT_other _ _ (show 0 ≠ n by omega)]
    exact h.root
  · by_cases e : j = n
    · subst e
      refine ⟨plc par, hp, by rw [setT_same]; exact hpar, ?_⟩
      rw [setT_same, setT_other _ _ (by omega)]
      exact h2
    · obtain ⟨i, a, b, d⟩ := h.up j (hlt hj e) h0
      exact ⟨i, a, by rw [setT_other _ _ e]; exact b, by rw [setT_other _ _ e, setT_other _ _ (by omega)]; exact d⟩
  · by_cases e : j = n
    · subst e; rw [setT_same]; unfold newT; dsimp only; split <;> omega
    · rw [setT_other _ _ e]; exact h.st j (hlt hj e)
  · by_cases e : j = n
    · subst e; rw [setT_same]; unfold newT; dsimp only; split <;> omega
    · rw [setT_other _ _ e]; exact h.pol j (hlt hj e)
  · by_cases e : j = n
    · subst e
      rw [setT_same] at he hkj ⊢
      rw [hpar] at he
      have hi : i = plc par := by omega
      subst hi
      rw [setT_other _ _ (by omega)] at hpi
      have hk1 : kind = 1 := hkj
      unfold newT
      dsimp only
      rw [if_pos hk1]
      exact hpi
    · rw [setT_other _ _ e] at he hkj hst' ⊢
      have hj' := hlt hj e
      have := h.dok.par j hj'
      rw [setT_other _ _ (show i ≠ n by omega)] at hpi
      exact h.inh j i hj' (by omega) he hkj hst' hpi
  · rw [live_new _ hst]
    have := h.live
    omega
  · by_cases e : j = n
    · subst e
      rw [setT_same] at hkj
      have hk1 : kind = 1 := hkj
      have hpk : (T (plc par)).kind = 1 := by omega
      have hd := h.dep _ hp hpk
      have hd16 : Go.Proofs.Ytabakjimlndhcaa.dep T (plc par) ≠ 16 := fun e => h5 ⟨hk1, e⟩
      unfold Go.Proofs.Ytabakjimlndhcaa.dep at hd hd16 ⊢
      unfold chain
      rw [upF, setT_same, hpar, if_neg (by omega)]
      rw [show ((plc par : Int) + 1).toNat - 1 = plc par by omega, upF_new h.dok _ _ _ hp, upF_same h.dok j (plc par + 1) _ hp hp (Nat.lt_succ_self _)]
      simp only [List.length_cons]
      unfold chain at hd hd16
      omega
    · rw [setT_other _ _ e] at hkj
      unfold Go.Proofs.Ytabakjimlndhcaa.dep
      rw [chain_new h.dok _ (hlt hj e)]
      exact h.dep j (hlt hj e) hkj
theorem TOK.ends {o : List Nat} (h : TOK most n T) (he : Ends n c T o T') : TOK most n T' := by
  have hf := he.fields
  refine ⟨he.ok h.dok, h.n1, ?_, fun j hj h0 => ?_, fun j hj => ?_, fun j hj => ?_, fun j i hj hi e hk hs hp => ?_, ?_, h.most, fun j hj hk => ?_⟩
  · rw [(hf 0).1, (hf 0).2.2.1]; exact h.root
  · obtain ⟨i, a, b, d⟩ := h.up j hj h0
    exact ⟨i, a, by rw [(hf j).1]; exact b, by rw [(hf j).2.2.1, (hf i).2.2.1]; exact d⟩
  · by_cases hjo : j ∈ o
    · rw [(he.what.1 j hjo).2.2]; exact ⟨by show (0 : Int) ≤ 2; omega, Int.le_refl _⟩
    · rw [he.what.2.1 j hjo]; exact h.st j hj
  · rw [(hf j).2.2.2]; exact h.pol j hj
  · rw [(hf j).1] at e
    rw [(hf j).2.2.1] at hk
    rw [(hf i).2.2.2] at hp
    rw [(hf j).2.2.2]
    exact h.inh j i hj hi e hk (fun hd => hs (he.dead hd)) hp
  · have := he.live; have := h.live; omega
  · rw [(hf j).2.2.1] at hk
    rw [dep_congr (fun j => (hf j).1)]
    exact h.dep j hj hk
/-- A task is another, with its parent, its kind, its being alive. -/
theorem liveN_set (hp : p < n) (t : Tk) (ha : aliveB t = aliveB (T p)) : liveN (setT T p t) n = liveN T n :=
  List.countP_congr (fun x _ => by
    by_cases e : x = p
    · subst e; rw [setT_same, ha]
    · rw [setT_other _ _ e])
theorem setT_par (t : Tk) (ht : t.par = (T p).par) (j : Nat) : (setT T p t j).par = (T j).par := by
  by_cases e : j = p
  · subst e; rw [setT_same, ht]
  · rw [setT_other _ _ e]
theorem liveK_set (t : Tk) (ht : t.par = (T p).par) (ha : aliveB t = aliveB (T p)) (j : Nat) : liveK (setT T p t) n j = liveK T n j := by
  unfold liveK
  rw [kidL_congr (setT_par t ht)]
  exact List.countP_congr (fun x _ => by
    by_cases e : x = p
    · subst e; rw [setT_same, ha]
    · rw [setT_other _ _ e])
theorem TOK.set (h : TOK most n T) (hp : p < n) (t : Tk) (ht : t.par = (T p).par) (hk : t.kind = (T p).kind) (hs : 0 ≤ t.st ∧ t.st ≤ 2) (ha : aliveB t = aliveB (T p)) (hc : 0 ≤ t.crit ∧ t.crit ≤ n)
    (hpo : 0 ≤ t.pol ∧ t.pol ≤ 15) (hpl : 8 ≤ (T p).pol → 8 ≤ t.pol) (hkd : t.pol = (T p).pol ∨ ∀ j, j < n → (T j).par = (p : Int) + 1 → (T j).st = 2) : TOK most n (setT T p t) := by
  have hal : ∀ j, (setT T p t j).st = 2 ↔ (T j).st = 2 := fun j => by
    by_cases e : j = p
    · subst e
      rw [setT_same]
      unfold aliveB at ha
      simpa using ha
    · rw [setT_other _ _ e]
  have hkk : ∀ j, (setT T p t j).kind = (T j).kind := fun j => by
    by_cases e : j = p
    · subst e; rw [setT_same, hk]
    · rw [setT_other _ _ e]
  refine ⟨⟨fun j hj => ?_, fun j hj => ?_, fun j i hj hi e hd => ?_⟩, h.n1, ?_, fun j hj h0 => ?_, fun j hj => ?_, fun j hj => ?_, fun j i hj hi e hkj hst hpi => ?_, ?_, h.most, fun j hj hkj => ?_⟩
  · rw [setT_par t ht]; exact h.dok.par j hj
  · by_cases e : j = p
    · subst e; rw [setT_same]; exact hc
    · rw [setT_other _ _ e]; exact h.dok.crit j hj
  · rw [setT_par t ht] at e
    rw [hal] at hd ⊢
    exact h.dok.down j i hj hi e hd
  · rw [setT_par t ht, hkk]; exact h.root
  · obtain ⟨i, a, b, d⟩ := h.up j hj h0
    exact ⟨i, a, by rw [setT_par t ht]; exact b, by rw [hkk, hkk]; exact d⟩
  · by_cases e : j = p
    · subst e; rw [setT_same]; exact hs
    · rw [setT_other _ _ e]; exact h.st j hj
  · by_cases e : j = p
    · subst e; rw [setT_same]; exact hpo
    · rw [setT_other _ _ e]; exact h.pol j hj
  · rw [setT_par t ht] at e
    rw [hkk] at hkj
    have hst' : (T j).st ≠ 2 := fun hd => hst ((hal j).2 hd)
    have hji : j ≠ i := fun e1 => by subst e1; have := h.dok.par j hj; omega
    have h8 : 8 ≤ (T i).pol → 8 ≤ (T j).pol := h.inh j i hj hi e hkj hst'
    by_cases e1 : i = p
    · subst e1
      rw [setT_same] at hpi
      rw [setT_other _ _ hji]
      rcases hkd with h1 | h1
      · exact h8 (by omega)
      · exact absurd (h1 j hj e) hst'
    · rw [setT_other _ _ e1] at hpi
      by_cases e2 : j = p
      · subst e2; rw [setT_same]; exact hpl (h8 hpi)
      · rw [setT_other _ _ e2]; exact h8 hpi
  · rw [liveN_set hp t ha]; exact h.live
  · rw [hkk] at hkj
    rw [dep_congr (setT_par t ht)]
    exact h.dep j hj hkj
end
end Go.Proofs.Ytabakjimlndhcaa
