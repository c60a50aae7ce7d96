/-
  Two objects, pages committed and decommitted from the first one on, as plain data. No walk, no conditions.
-/
import Derived.Test.YtdhbhigoboamfaaVView
import Derived.Test.YtdhbhigoboamfaaVOp
namespace Go.Proofs.Ytdhbhigoboamfaa
open Go.ChangeShapes Go.WideShapes Go.ChangeAt Go.RowKit

/-- Frames of which those from lo to hi are used. -/
def LL (n lo hi : Nat) : List Pg := (List.range n).map fun k => if lo ≤ k ∧ k < hi then ⟨1, blank⟩ else Pg.none
theorem ll_len (n lo hi : Nat) : (LL n lo hi).length = n := by simp [LL]
theorem ll_at (n lo hi k : Nat) (h : k < n) : (LL n lo hi)[k]? = some (if lo ≤ k ∧ k < hi then ⟨1, blank⟩ else Pg.none) := by
  unfold LL
  rw [List.getElem?_map, List.getElem?_range h]
  rfl
theorem ll_start (n : Nat) : List.replicate n Pg.none = LL n 0 0 := by
  apply List.ext_getElem?
  intro k
  by_cases h : k < n
  · rw [ll_at n 0 0 k h, if_neg (by omega), List.getElem?_replicate, if_pos h]
  · rw [List.getElem?_eq_none (by simp; omega), List.getElem?_eq_none (by rw [ll_len]; omega)]
theorem ll_few (n lo hi : Nat) : Few (LL n lo hi) := fun p hp => by
  unfold LL at hp
  obtain ⟨k, _, rfl⟩ := List.mem_map.1 hp
  split <;> simp [Pg.none]
theorem ll_low (n h : Nat) (hh : h < n) : lowOf (LL n 0 h) = h := by
  refine lowOf_is (p := Pg.none) ?_ rfl (fun j q hj hq => ?_)
  · rw [ll_at n 0 h h hh, if_neg (by omega)]
  · rw [ll_at n 0 h j (by omega), if_pos ⟨by omega, hj⟩] at hq
    cases hq
    simp
theorem ll_alloc (n h : Nat) (hh : h < n) : allocV (LL n 0 h) = h ∧ allocL (LL n 0 h) = LL n 0 (h + 1) := by
  unfold allocV allocL
  rw [ll_low n h hh, ll_len, if_pos hh, if_pos hh]
  refine ⟨rfl, ?_⟩
  apply List.ext_getElem?
  intro k
  by_cases hk : k < n
  · rw [ll_at n 0 (h + 1) k hk]
    by_cases e : h = k
    · subst e
      rw [List.getElem?_set_self (by rw [ll_len]; exact hk), if_pos (by omega)]
    · rw [List.getElem?_set_ne e, ll_at n 0 h k hk]
      by_cases h2 : k < h
      · rw [if_pos (by omega), if_pos (by omega)]
      · rw [if_neg (by omega), if_neg (by omega)]
  · rw [List.getElem?_eq_none (by rw [List.length_set, ll_len]; omega), List.getElem?_eq_none (by rw [ll_len]; omega)]
theorem ll_users (n lo hi k : Nat) (h : k < n) : usersL (LL n lo hi) k = if lo ≤ k ∧ k < hi then 1 else 0 := by
  unfold usersL
  rw [pgAt_nat, List.getD_eq_getElem?_getD, ll_at n lo hi k h]
  simp only [Option.getD_some]
  split <;> rfl
theorem ll_rel (n lo hi : Nat) (h : lo < hi) (hn : hi ≤ n) : relL (LL n lo hi) lo = LL n (lo + 1) hi := by
  have hu : usersL (LL n lo hi) lo = 1 := by rw [ll_users n lo hi lo (by omega), if_pos ⟨Nat.le_refl _, h⟩]
  unfold relL
  rw [if_neg (by rw [hu]; decide), if_pos hu, Int.toNat_natCast]
  apply List.ext_getElem?
  intro k
  by_cases hk : k < n
  · rw [ll_at n (lo + 1) hi k hk]
    by_cases e : lo = k
    · subst e
      rw [List.getElem?_set_self (by rw [ll_len]; exact hk), if_neg (by omega)]
    · rw [List.getElem?_set_ne e, ll_at n lo hi k hk]
      by_cases h2 : lo ≤ k ∧ k < hi
      · rw [if_pos h2, if_pos (by omega)]
      · rw [if_neg h2, if_neg (by omega)]
  · rw [List.getElem?_eq_none (by rw [List.length_set, ll_len]; omega), List.getElem?_eq_none (by rw [ll_len]; omega)]
theorem ll_used (n lo hi : Nat) : usedN (LL n lo hi) = min n hi - lo := by
  induction n with
  | zero => rw [Nat.zero_min, Nat.zero_sub]; rfl
  | succ n ih =>
    have e : LL (n + 1) lo hi = LL n lo hi ++ [if lo ≤ n ∧ n < hi then ⟨1, blank⟩ else Pg.none] := by
      unfold LL
      rw [List.range_succ, List.map_append]
      rfl
    rw [e]
    unfold usedN at ih ⊢
    rw [List.filter_append, List.length_append, ih]
    by_cases h : lo ≤ n ∧ n < hi
    · rw [if_pos h]
      simp
      omega
    · rw [if_neg h]
      simp [Pg.none]
      omega
theorem ll_room (n lo hi : Nat) (h1 : lo ≤ hi) (h2 : hi ≤ n) : roomN (LL n lo hi) = (n : Int) - ((hi - lo : Nat) : Int) := by
  unfold roomN
  rw [ll_len, ll_used]
  omega

/-- Whole pages from p on. -/
def pgsF (p m : Nat) : List Pt := (List.range m).map fun k => ⟨p + k, 0, 64⟩
theorem pgsF_succ (p m : Nat) : pgsF p (m + 1) = ⟨p, 0, 64⟩ :: pgsF (p + 1) m := by
  unfold pgsF
  rw [List.range_succ_eq_map, List.map_cons, List.map_map]
  congr 1
  apply List.map_congr_left
  intro k _
  show (⟨p + (k + 1), 0, 64⟩ : Pt) = ⟨p + 1 + k, 0, 64⟩
  rw [show p + (k + 1) = p + 1 + k by omega]
theorem goP_whole (m : Nat) : ∀ p, goP (64 * m) p 0 (64 * m) = pgsF p m := by
  induction m with
  | zero => intro p; rfl
  | succ m ih =>
    intro p
    rw [goP_step p 0 (64 * (m + 1)) (by decide) (by omega), show min (64 * (m + 1)) (64 - 0) = 64 by omega, show 64 * (m + 1) - 64 = 64 * m by omega, ih, pgsF_succ]
theorem parts_whole (m : Nat) : partsL 0 (64 * m) = pgsF 0 m := goP_whole m 0
theorem commit_whole (n m : Nat) : ∀ p h g c, h + m ≤ n → (∀ q : Nat, p ≤ q → q < p + m → g (q : Int) = none) → ∃ g', commitAll ⟨LL n 0 h, g, c⟩ (pgsF p m) = ⟨LL n 0 (h + m), g', c + m⟩ ∧
    (∀ q : Nat, p ≤ q → q < p + m → g' (q : Int) = some (((h + (q - p) : Nat)) : Int)) ∧ (∀ z, (∀ q : Nat, p ≤ q → q < p + m → z ≠ (q : Int)) → g' z = g z) := by
  induction m with
  | zero => intro p h g c hh hg; exact ⟨g, rfl, fun q a b => by omega, fun z _ => rfl⟩
  | succ m ih =>
    intro p h g c hh hg
    obtain ⟨a1, a2⟩ := ll_alloc n h (by omega)
    have h0 := hg p (Nat.le_refl _) (by omega)
    have e : commit1 ⟨LL n 0 h, g, c⟩ p = ⟨LL n 0 (h + 1), updI g (p : Int) (some (h : Int)), c + 1⟩ := by
      unfold commit1 pgL pgV
      simp only [h0, Option.isSome_none, Bool.false_eq_true, if_false, a1, a2]
    obtain ⟨g', i1, i2, i3⟩ := ih (p + 1) (h + 1) (updI g (p : Int) (some (h : Int))) (c + 1) (by omega) (fun q b1 b2 => by
      unfold updI
      rw [if_neg (by omega)]
      exact hg q (by omega) (by omega))
    refine ⟨g', ?_, fun q b1 b2 => ?_, fun z hz => ?_⟩
    · rw [pgsF_succ]
      unfold commitAll at i1 ⊢
      rw [List.foldl_cons, e, i1, show h + 1 + m = h + (m + 1) by omega, show c + 1 + m = c + (m + 1) by omega]
    · by_cases e2 : q = p
      · subst e2
        rw [i3 (q : Int) (fun x b3 b4 => by omega), updI_same, Nat.sub_self]
        rfl
      · rw [i2 q (by omega) (by omega), show h + 1 + (q - (p + 1)) = h + (q - p) by omega]
    · rw [i3 z (fun q b1 b2 => hz q (by omega) (by omega))]
      unfold updI
      rw [if_neg (hz p (Nat.le_refl _) (by omega))]
theorem lack_whole (L : List Pg) (m : Nat) (g : Int → Option Int) (c : Nat) : ∀ p, (∀ q : Nat, p ≤ q → q < p + m → g (q : Int) = none) → lackN ⟨L, g, c⟩ (pgsF p m) = m := by
  induction m with
  | zero => intro p _; rfl
  | succ m ih =>
    intro p hg
    rw [pgsF_succ]
    unfold lackN
    have h0 : lacks ⟨L, g, c⟩ p = true := lacks_none (hg p (Nat.le_refl _) (by omega))
    rw [List.filter_cons, h0, if_pos rfl, List.length_cons]
    have := ih (p + 1) (fun q b1 b2 => hg q (by omega) (by omega))
    unfold lackN at this
    rw [this]
theorem rel_whole (n hi m : Nat) : ∀ p lo g c, lo + m ≤ hi → hi ≤ n → m ≤ c → (∀ q : Nat, p ≤ q → q < p + m → g (q : Int) = some (((lo + (q - p) : Nat)) : Int)) → ∃ g', relAll ⟨LL n lo hi, g, c⟩ (pgsF p m) = ⟨LL n (lo + m) hi, g', c - m⟩ := by
  induction m with
  | zero => intro p lo g c h1 h2 h3 hg; exact ⟨g, rfl⟩
  | succ m ih =>
    intro p lo g c h1 h2 h3 hg
    have h0 := hg p (Nat.le_refl _) (by omega)
    rw [Nat.sub_self, Nat.add_zero] at h0
    have e : rel1 ⟨LL n lo hi, g, c⟩ (p : Int) = ⟨LL n (lo + 1) hi, updI g (p : Int) none, c - 1⟩ := by
      rw [rel1_some (S := ⟨LL n lo hi, g, c⟩) h0]
      simp only
      rw [ll_rel n lo hi (by omega) h2]
    obtain ⟨g', i1⟩ := ih (p + 1) (lo + 1) (updI g (p : Int) none) (c - 1) (by omega) h2 (by omega) (fun q b1 b2 => by
      unfold updI
      rw [if_neg (by omega), hg q (by omega) (by omega), show lo + 1 + (q - (p + 1)) = lo + (q - p) by omega])
    refine ⟨g', ?_⟩
    rw [pgsF_succ]
    unfold relAll at i1 ⊢
    rw [List.foldl_cons, e, i1, show lo + 1 + m = lo + (m + 1) by omega, show c - 1 - m = c - (m + 1) by omega]
theorem rel_nothing (S : PL) (m : Nat) : ∀ p, (∀ q : Nat, p ≤ q → q < p + m → S.g (q : Int) = none) → relAll S (pgsF p m) = S := by
  induction m with
  | zero => intro p _; rfl
  | succ m ih =>
    intro p hg
    rw [pgsF_succ]
    unfold relAll
    rw [List.foldl_cons, rel1_none (hg p (Nat.le_refl _) (by omega))]
    exact ih (p + 1) (fun q b1 b2 => hg q (by omega) (by omega))

/-- Two objects of 64 pages. -/
def pOb (g : Int → Option Int) (c : Nat) : Ob := ⟨4096, 0, 0, 0, 0, 0, false, g, c⟩
def RM (L : List Pg) (a b : Ob) : Mod := ⟨3, 2, 2, fun i => if i = 1 then some a else if i = 2 then some b else none, L⟩
theorem rm_1 (L : List Pg) (a b : Ob) : (RM L a b).O 1 = some a := rfl
theorem rm_2 (L : List Pg) (a b : Ob) : (RM L a b).O 2 = some b := rfl
theorem rm_set1 (L : List Pg) (g : Int → Option Int) (c : Nat) (b : Ob) (S : PL) : setM (RM L (pOb g c) b) 1 (pOb g c) S = RM S.L (pOb S.g S.c) b := by
  unfold setM RM
  congr 1
  funext i
  unfold updI
  simp only
  by_cases h : i = 1
  · subst h; rfl
  · rw [if_neg h, if_neg h, if_neg h]
theorem rm_set2 (L : List Pg) (g : Int → Option Int) (c : Nat) (a : Ob) (S : PL) : setM (RM L a (pOb g c)) 2 (pOb g c) S = RM S.L a (pOb S.g S.c) := by
  unfold setM RM
  congr 1
  funext i
  unfold updI
  simp only
  by_cases h : i = 2
  · subst h; rfl
  · rw [if_neg h]
    by_cases h1 : i = 1
    · rw [if_pos h1, if_pos h1]
    · rw [if_neg h1, if_neg h1, if_neg h, if_neg h]
theorem rm_chain (L : List Pg) (ga gb : Int → Option Int) (ca cb : Nat) : Chain (RM L (pOb ga ca) (pOb gb cb)).O := by
  have key : ∀ i o, (RM L (pOb ga ca) (pOb gb cb)).O i = some o → o.depth = 0 ∧ o.size = 4096 ∧ o.frm = 0 := fun i o h => by
    unfold RM at h
    simp only at h
    split at h
    · cases h; exact ⟨rfl, rfl, rfl⟩
    · split at h
      · cases h; exact ⟨rfl, rfl, rfl⟩
      · cases h
  exact ⟨fun i o h hd => by have := (key i o h).1; omega, fun i o h => by obtain ⟨h1, h2, h3⟩ := key i o h; omega, fun i o h hd => by have := (key i o h).1; omega⟩
end Go.Proofs.Ytdhbhigoboamfaa
