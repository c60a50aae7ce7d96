/-
  What calls keep of a set: who has which frame; what a write does to what stands in each object. No walk, no conditions.
-/
import Derived.Test.YtdhbhigoboamfaaVFlat
import Derived.Test.YtdhbhigoboamfaaVView
namespace Go.Proofs.Ytdhbhigoboamfaa
open Go.ChangeShapes Go.WideShapes Go.ChangeAt Go.RowKit

def famOf (O : Int → Option Ob) (k : Key) : Option Int := match O k.1 with | none => none | some o => o.pgs k.2
structure Inv8 (M : Mod) : Prop where
  good : Good M.L (famOf M.O)
  chain : Chain M.O
  few : Few M.L
theorem Inv8.held {M : Mod} (h : Inv8 M) : Held M := fun i o q f hO hp => h.good.pos (k := (i, q)) (by unfold famOf; simp only [hO]; exact hp)
theorem fam_at {O : Int → Option Ob} {i : Int} {o : Ob} (h : O i = some o) (q : Int) : famOf O (i, q) = o.pgs q := by unfold famOf; simp only [h]
theorem fam_upd {O : Int → Option Ob} {i : Int} {o' : Ob} {A : Key → Option Int} (h1 : ∀ q, o'.pgs q = A (i, q)) (h2 : ∀ k : Key, k.1 ≠ i → A k = famOf O k) : ∀ k, famOf (updI O i (some o')) k = A k := by
  intro k
  unfold famOf updI
  by_cases e : k.1 = i
  · rw [if_pos e]
    show o'.pgs k.2 = _
    rw [h1, ← e]
  · rw [if_neg e, h2 k e]
    rfl
theorem room_write (L : List Pg) (f b : Int) (bs : List UInt8) : roomN (writeL L f b bs) = roomN L := by
  unfold writeL
  split
  · rename_i hs
    have hu : usersL L f ≠ 0 := fun e => by
      unfold writeS withinS at hs
      rw [if_pos e] at hs
      simp at hs
    obtain ⟨r1, r2, r3⟩ := users_range hu
    have e := used_set L f.toNat ⟨usersL L f, putB (pgAt L f).bytes b.toNat bs⟩ L[f.toNat] (List.getElem?_eq_getElem r2)
    have hq : L[f.toNat].users = usersL L f := by
      unfold usersL pgAt
      rw [if_pos ⟨r1, by omega⟩, List.getD_eq_getElem?_getD, List.getElem?_eq_getElem r2]
      rfl
    rw [hq, if_pos hu] at e
    unfold roomN
    rw [List.length_set]
    omega
  · rfl
theorem room_wAll (S : PL) (ps : List Pt) : ∀ (x : List Pg × List UInt8), roomN (ps.foldl (wstep S) x).1 = roomN x.1 := by
  induction ps with
  | nil => intro x; rfl
  | cons p ps ih =>
    intro x
    rw [List.foldl_cons, ih]
    exact room_write _ _ _ _
theorem few_users {L L' : List Pg} (h : Few L) (hu : ∀ f, usersL L' f = usersL L f) : Few L' := fun p hp => by
  obtain ⟨n, hn, rfl⟩ := List.getElem_of_mem hp
  have := hu n
  have h2 := h.users n
  rw [← this] at h2
  unfold usersL at h2
  rw [pgAt_nat, List.getD_eq_getElem?_getD, List.getElem?_eq_getElem hn] at h2
  exact h2
theorem few_commit (ps : List Pt) : ∀ S : PL, Few S.L → Few (commitAll S ps).L := by
  induction ps with
  | nil => intro S h; exact h
  | cons p ps ih => intro S h; exact ih _ (few_pg h p.pg)
theorem cnt_commit (ps : List Pt) : ∀ S : PL, (commitAll S ps).c ≤ S.c + ps.length := by
  induction ps with
  | nil => intro S; exact Nat.le_refl _
  | cons p ps ih =>
    intro S
    have := ih (commit1 S p.pg)
    have h2 : (commit1 S p.pg).c ≤ S.c + 1 := by unfold commit1; simp only; split <;> omega
    show (commitAll (commit1 S p.pg) ps).c ≤ _
    rw [List.length_cons]
    omega
theorem full_pool {w : World} {a : Nat} {F : Nat → Prop} {L : List Pg} (h : PoolAt w a F L) : Full L := fun f => pool_sized h f

theorem full_commit (ps : List Pt) : ∀ S : PL, Full S.L → Full (commitAll S ps).L := by
  induction ps with
  | nil => intro S hS; exact hS
  | cons p ps ih =>
    intro S hS
    refine ih (commit1 S p.pg) (fun g => ?_)
    show (pgAt (pgL S p.pg) g).bytes.length = 64
    unfold pgL
    split
    · unfold allocL
      split
      · rw [pg_set]
        split
        · rfl
        · exact hS g
      · exact hS g
    · unfold ownL
      split
      · exact hS g
      · split
        · rw [pg_set]
          split
          · exact hS _
          · rw [pg_set]
            split
            · exact hS _
            · exact hS g
        · exact hS g
/-- A set behind a write to object j from t on. -/
def wrM (M : Mod) (j : Int) (q : Ob) (t : Nat) (bs : List UInt8) : Mod :=
  setL (setM M j q (commitAll ⟨M.L, q.pgs, q.cnt⟩ (partsL t bs.length))) (wAll (commitAll ⟨M.L, q.pgs, q.cnt⟩ (partsL t bs.length)) bs (partsL t bs.length)).1
def wrO (M : Mod) (q : Ob) (t : Nat) (bs : List UInt8) : Ob := { q with pgs := (commitAll ⟨M.L, q.pgs, q.cnt⟩ (partsL t bs.length)).g, cnt := (commitAll ⟨M.L, q.pgs, q.cnt⟩ (partsL t bs.length)).c }
structure WrI (M : Mod) (j : Int) (q : Ob) (t : Nat) (bs : List UInt8) : Prop where
  inv : Inv8 (wrM M j q t bs)
  obj : (wrM M j q t bs).O = updI M.O j (some (wrO M q t bs))
  flat : ∀ x, fl (wrM M j q t bs).L (wrO M q t bs).pgs x = if t ≤ x ∧ x < t + bs.length then bs.getD (x - t) 0 else fl M.L q.pgs x
  other : ∀ i o, i ≠ j → M.O i = some o → ∀ x, fl (wrM M j q t bs).L o.pgs x = fl M.L o.pgs x
  room : roomN M.L - ((partsL t bs.length).length : Int) ≤ roomN (wrM M j q t bs).L
  cnt : (wrO M q t bs).cnt ≤ q.cnt + (partsL t bs.length).length
  full : Full (wrM M j q t bs).L
theorem write_inv {M : Mod} {j : Int} {q : Ob} (h : Inv8 M) (hq : M.O j = some q) (hd : q.depth = 0) (hF : Full M.L) (t : Nat) (bs : List UInt8) (hl : (lackN ⟨M.L, q.pgs, q.cnt⟩ (partsL t bs.length) : Int) ≤ roomN M.L) : WrI M j q t bs := by
  obtain ⟨A', k, k2, k3, k4⟩ := commitAll_good (i := j) (S := ⟨M.L, q.pgs, q.cnt⟩) (ps := partsL t bs.length) h.good (fun p => (fam_at hq p).symm) (parts_nodup _ _) hl
  generalize hCS : commitAll ⟨M.L, q.pgs, q.cnt⟩ (partsL t bs.length) = CS at *
  have hFC : Full CS.L := by rw [← hCS]; exact full_commit _ _ hF
  have hW := wrote_all (i0 := j) (S := CS) (A := A') k.fam t bs k.good hFC (fun x hx => by
    obtain ⟨f, a1, a2⟩ := k2 x hx
    exact ⟨f, by rw [k.fam]; exact a1, a2⟩)
  generalize hWL : (wAll CS bs (partsL t bs.length)).1 = WL at *
  have eM : wrM M j q t bs = setL (setM M j q CS) WL := by unfold wrM; rw [hCS, hWL]
  have eO : wrO M q t bs = { q with pgs := CS.g, cnt := CS.c } := by unfold wrO; rw [hCS]
  have hfl : ∀ x, fl CS.L CS.g x = fl M.L q.pgs x := fun x => by
    unfold fl
    rw [k.fam, k.cont, fam_at hq]
  refine ⟨⟨?_, ?_, ?_⟩, ?_, ?_, ?_, ?_, ?_, ?_⟩
  · rw [eM]
    exact (k.good.same hW.users).congr (fam_upd (fun p => k.fam p) (fun kk hk => k.other kk hk))
  · rw [eM]
    exact h.chain.upd hq rfl rfl rfl rfl (fun hp => by have : 0 < q.depth := hp; omega)
  · rw [eM]
    exact few_users (by rw [← hCS]; exact few_commit _ _ h.few) hW.users
  · rw [eM, eO]
    rfl
  · intro x
    rw [eM, eO]
    show fl WL CS.g x = _
    rw [hW.flat, hfl]
  · intro i o hi hO x
    rw [eM]
    show fl WL o.pgs x = _
    unfold fl
    cases hx : o.pgs ((x / 64 : Nat) : Int) with
    | none => rfl
    | some f =>
      have hk : famOf M.O (i, ((x / 64 : Nat) : Int)) = some f := by rw [fam_at hO, hx]
      have hk' : A' (i, ((x / 64 : Nat) : Int)) = some f := by rw [k.other _ hi, hk]
      have hc := k.cont (i, ((x / 64 : Nat) : Int))
      rw [hk', hk] at hc
      rw [cont_some, cont_some] at hc ⊢
      rw [hW.other _ f hk' hi, hc]
  · rw [eM]
    show _ ≤ roomN WL
    rw [← hWL]
    unfold wAll
    rw [room_wAll]
    exact k4
  · rw [eO]
    show CS.c ≤ _
    rw [← hCS]
    exact cnt_commit _ _
  · rw [eM]
    exact hW.full
end Go.Proofs.Ytdhbhigoboamfaa
