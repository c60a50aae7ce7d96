/-
  What a snapshot keeps, and what stands in it. No walk, no conditions.
-/
import Derived.Test.YtdhbhigoboamfaaVSnap
import Derived.Test.YtdhbhigoboamfaaVInv
namespace Go.Proofs.Ytdhbhigoboamfaa
open Go.ChangeShapes Go.WideShapes Go.ChangeAt Go.RowKit

theorem usedN_share {L : List Pg} {f : Int} (hu : usersL L f ≠ 0) : roomN (shareL L f) = roomN L := by
  obtain ⟨r1, r2, r3⟩ := users_range hu
  have hn : L[f.toNat]? = some L[f.toNat] := List.getElem?_eq_getElem r2
  have e : usersL L f = L[f.toNat].users := by
    unfold usersL pgAt
    rw [if_pos (by omega), List.getD_eq_getElem?_getD, hn]; rfl
  have hne : L[f.toNat].users ≠ 0 := by rw [← e]; exact hu
  have h := used_set L f.toNat ⟨usersL L f + 1, (pgAt L f).bytes⟩ _ hn
  rw [if_pos hne, if_pos (by simp)] at h
  unfold roomN shareL
  rw [if_neg hu]
  have hl : (L.set f.toNat ⟨usersL L f + 1, (pgAt L f).bytes⟩).length = L.length := List.length_set
  rw [hl]
  omega
def famS (M : Mod) (j : Int) (g : Int → Option Int) : Key → Option Int := fun k => if k.1 = j then g k.2 else famOf M.O k
structure ShI (M : Mod) (j : Int) (pg : Int → Option Int) (T : Nat) (n : Nat) (S : PL) : Prop where
  good : Good S.L (famS M j S.g)
  pgs : ∀ q, S.g q = if 0 ≤ q ∧ q < (n : Int) then pg ((T : Int) + q) else none
  bytes : ∀ g, (pgAt S.L g).bytes = (pgAt M.L g).bytes
  room : roomN S.L = roomN M.L
  cnt : S.c ≤ n
theorem sh_all {M : Mod} {i j : Int} {o : Ob} (h : Good M.L (famOf M.O)) (hO : M.O i = some o) (hij : i ≠ j) (hj : M.O j = none) (T : Nat) : ∀ n, ShI M j o.pgs T n (shAll o.pgs T ⟨M.L, fun _ => none, 0⟩ n) := by
  intro n
  induction n with
  | zero =>
    refine ⟨h.congr (fun k => ?_), fun q => ?_, fun _ => rfl, rfl, Nat.le_refl _⟩
    · unfold famS
      by_cases e : k.1 = j
      · rw [if_pos e]; unfold famOf; rw [e, hj]; rfl
      · rw [if_neg e]
    · rw [if_neg (by omega)]; rfl
  | succ n ih =>
    show ShI M j o.pgs T (n + 1) (shStep o.pgs T (shAll o.pgs T ⟨M.L, fun _ => none, 0⟩ n) n)
    generalize shAll o.pgs T ⟨M.L, fun _ => none, 0⟩ n = S at *
    cases hg : o.pgs ((T : Int) + (n : Int)) with
    | none =>
      rw [shStep_none hg]
      refine ⟨ih.good, fun q => ?_, ih.bytes, ih.room, Nat.le_succ_of_le ih.cnt⟩
      rw [ih.pgs]
      by_cases e : q = (n : Int)
      · subst e
        rw [if_neg (by omega), if_pos (by omega), hg]
      · by_cases e2 : 0 ≤ q ∧ q < (n : Int)
        · rw [if_pos e2, if_pos (by omega)]
        · rw [if_neg e2, if_neg (by omega)]
    | some f =>
      rw [shStep_some hg]
      have hk : famS M j S.g (i, (T : Int) + (n : Int)) = some f := by
        unfold famS
        rw [if_neg hij, fam_at hO, hg]
      have hn0 : S.g (n : Int) = none := by rw [ih.pgs, if_neg (by omega)]
      have hk' : famS M j S.g (j, (n : Int)) = none := by
        unfold famS
        rw [if_pos rfl]; exact hn0
      have hu := ih.good.pos hk
      refine ⟨(ih.good.share hk hk').congr (fun k => ?_), fun q => ?_, fun g => ?_, ?_, ?_⟩
      · show (if k.1 = j then updI S.g (n : Int) (some f) k.2 else famOf M.O k) = (if k = (j, (n : Int)) then some f else if k.1 = j then S.g k.2 else famOf M.O k)
        unfold updI
        by_cases e : k = (j, (n : Int))
        · subst e
          rw [if_pos rfl, if_pos rfl, if_pos rfl]
        · rw [if_neg e]
          by_cases e2 : k.1 = j
          · rw [if_pos e2, if_pos e2, if_neg (fun h => e (Prod.ext e2 h))]
          · rw [if_neg e2, if_neg e2]
      · show updI S.g (n : Int) (some f) q = _
        unfold updI
        by_cases e : q = (n : Int)
        · subst e
          rw [if_pos rfl, if_pos (by omega), hg]
        · rw [if_neg e, ih.pgs]
          by_cases e2 : 0 ≤ q ∧ q < (n : Int)
          · rw [if_pos e2, if_pos (by omega)]
          · rw [if_neg e2, if_neg (by omega)]
      · show (pgAt (shareL S.L f) g).bytes = _
        rw [share_bytes, ih.bytes]
      · show roomN (shareL S.L f) = _
        rw [usedN_share hu, ih.room]
      · show (if (S.g (n : Int)).isSome then S.c else S.c + 1) ≤ n + 1
        have := ih.cnt
        split <;> omega

theorem Chain.add {O : Int → Option Ob} (h : Chain O) {j : Int} {x : Ob} (hj : O j = none) (hs : x.size ≤ 4294967296 ∧ x.frm ≤ 4294967296 ∧ x.depth ≤ 16) (hu : 0 < x.depth → ∃ q, O (x.par : Int) = some q ∧ q.depth + 1 = x.depth) (hp : 0 < x.depth → x.pgs = fun _ => none) : Chain (updI O j (some x)) := by
  have keep : ∀ k q, O k = some q → updI O j (some x) k = some q := fun k q hk => by
    unfold updI
    rw [if_neg (fun e => by rw [e, hj] at hk; cases hk)]
    exact hk
  refine ⟨fun k y hy hd => ?_, fun k y hy => ?_, fun k y hy hd => ?_⟩
  all_goals
    unfold updI at hy
    by_cases e : k = j
    · rw [if_pos e] at hy
      cases hy
      first
        | (obtain ⟨q, h1, h2⟩ := hu hd; exact ⟨q, keep _ _ h1, h2⟩)
        | exact hs
        | exact hp hd
    · rw [if_neg e] at hy
      first
        | (obtain ⟨q, h1, h2⟩ := h.up k y hy hd; exact ⟨q, keep _ _ h1, h2⟩)
        | exact h.small k y hy
        | exact h.pgs k y hy hd
theorem Ub.few {L : List Pg} {n : Nat} (h : Ub L n) (hn : n < 4611686018427387904) : Few L := fun p hp => by
  obtain ⟨k, hk, rfl⟩ := List.getElem_of_mem hp
  have h2 := h k
  unfold usersL at h2
  rw [pgAt_nat, List.getD_eq_getElem?_getD, List.getElem?_eq_getElem hk] at h2
  have h3 : L[k].users ≤ n := h2
  omega
def snapO (M : Mod) (i : Int) (o : Ob) (T N : Nat) : Ob := { newOb (64 * N) i.toNat 0 0 with pgs := (snapP M o T N).g, cnt := (snapP M o T N).c }
structure SnI (M : Mod) (i : Int) (o : Ob) (T N : Nat) : Prop where
  inv : Inv8 (snapM M i o T N)
  ob : ∀ k, (snapM M i o T N).O k = if k = (M.made : Int) + 1 then some (snapO M i o T N) else if k = i then some (kid o) else M.O k
  flat : ∀ g x, fl (snapM M i o T N).L g x = fl M.L g x
  child : ∀ x, x < 64 * N → fl (snapM M i o T N).L (snapO M i o T N).pgs x = fl M.L o.pgs (64 * T + x)
  room : roomN (snapM M i o T N).L = roomN M.L
  cnt : (snapO M i o T N).cnt ≤ N
theorem snap_inv {M : Mod} {i : Int} {o : Ob} (h : Inv8 M) (hO : M.O i = some o) (hd : o.depth = 0) (hj : M.O ((M.made : Int) + 1) = none) (T N U : Nat) (hN : N ≤ 64) (hub : Ub (snapP M o T N).L U) (hU : U < 4611686018427387904) : SnI M i o T N := by
  have hij : i ≠ (M.made : Int) + 1 := fun e => by rw [e, hj] at hO; cases hO
  have sh : ShI M ((M.made : Int) + 1) o.pgs T N (snapP M o T N) := sh_all h.good hO hij hj T N
  have eO : ∀ k, (snapM M i o T N).O k = if k = (M.made : Int) + 1 then some (snapO M i o T N) else if k = i then some (kid o) else M.O k := fun k => by
    show updI (updI (updI M.O _ _) i _) _ _ k = _
    unfold updI
    by_cases e : k = (M.made : Int) + 1
    · rw [if_pos e, if_pos e]; rfl
    · rw [if_neg e, if_neg e, if_neg e]
  have eF : (snapM M i o T N).O = updI (updI M.O ((M.made : Int) + 1) (some (snapO M i o T N))) i (some (kid o)) := by
    funext k
    rw [eO]
    unfold updI
    by_cases e : k = (M.made : Int) + 1
    · rw [if_pos e, if_neg (fun e2 : k = i => hij (by rw [← e2, e])), if_pos e]
    · rw [if_neg e, if_neg e]
  have efl : ∀ g x, fl (snapM M i o T N).L g x = fl M.L g x := fun g x => by
    unfold fl cont
    show (match g ((x / 64 : Nat) : Int) with | none => blank | some f => (pgAt (snapP M o T N).L f).bytes).getD _ 0 = _
    cases g ((x / 64 : Nat) : Int) with
    | none => rfl
    | some f => simp only; rw [sh.bytes]
  refine ⟨⟨?_, ?_, hub.few hU⟩, eO, efl, fun x hx => ?_, sh.room, sh.cnt⟩
  · refine sh.good.congr (fun k => ?_)
    unfold famS famOf
    rw [eO]
    by_cases e : k.1 = (M.made : Int) + 1
    · rw [if_pos e, if_pos e]; rfl
    · rw [if_neg e, if_neg e]
      by_cases e2 : k.1 = i
      · rw [if_pos e2, e2, hO]; rfl
      · rw [if_neg e2]
  · rw [eF]
    exact (h.chain.add hj (by refine ⟨?_, ?_, ?_⟩ <;> (show _ ≤ _; unfold snapO newOb; simp; try omega)) (fun h => by exact absurd h (Nat.lt_irrefl 0)) (fun h => by exact absurd h (Nat.lt_irrefl 0))).upd (i := i) (o := o) (by unfold updI; rw [if_neg hij]; exact hO) rfl rfl rfl rfl (fun h => by have : 0 < o.depth := h; omega)
  · rw [efl]
    unfold fl
    show (cont M.L ((snapP M o T N).g _)).getD _ 0 = _
    rw [sh.pgs, if_pos (by omega), show (64 * T + x) / 64 = T + x / 64 by omega, show (64 * T + x) % 64 = x % 64 by omega]
    rfl
end Go.Proofs.Ytdhbhigoboamfaa
