/-
  What VmoApart holds: a parent, its snapshot and a slice; what is read of each, what writes do, and each of its calls. No conditions.
-/
import Derived.Test.YtdhbhigoboamfaaVCopy
namespace Go.Proofs.Ytdhbhigoboamfaa
open Go.ChangeShapes Go.WideShapes Go.ChangeAt Go.RowKit

theorem slice_inv {M : Mod} {i : Int} {o : Ob} (h : Inv8 M) (hO : M.O i = some o) (hi : 0 ≤ i) (hj : M.O ((M.made : Int) + 1) = none) (t n : Int) (ht : t.toNat ≤ 4294967296) (hn : n.toNat ≤ 4294967296) (hd : o.depth < 16) :
    Inv8 (sliceM M i o t n) ∧ ∀ k, (sliceM M i o t n).O k = if k = (M.made : Int) + 1 then some (newOb n.toNat i.toNat (o.depth + 1) t.toNat) else if k = i then some (kidS o) else M.O k := by
  have hij : i ≠ (M.made : Int) + 1 := fun e => by rw [e, hj] at hO; cases hO
  have eO : ∀ k, (sliceM M i o t n).O k = if k = (M.made : Int) + 1 then some (newOb n.toNat i.toNat (o.depth + 1) t.toNat) else if k = i then some (kidS o) else M.O k := fun k => by
    show updI (updI M.O _ _) i _ k = _
    unfold updI
    by_cases e : k = (M.made : Int) + 1
    · rw [if_neg (fun e2 : k = i => hij (by rw [← e2, e])), if_pos e, if_pos e]
    · rw [if_neg e, if_neg e]
  refine ⟨⟨h.good.congr (fun k => ?_), ?_, h.few⟩, eO⟩
  · unfold famOf
    rw [eO]
    by_cases e : k.1 = (M.made : Int) + 1
    · rw [if_pos e, e, hj]; rfl
    · rw [if_neg e]
      by_cases e2 : k.1 = i
      · rw [if_pos e2, e2, hO]; rfl
      · rw [if_neg e2]
  · show Chain (updI (updI M.O _ _) i _)
    exact (h.chain.add hj (x := newOb n.toNat i.toNat (o.depth + 1) t.toNat) ⟨hn, ht, by show o.depth + 1 ≤ 16; omega⟩ (fun _ => ⟨o, by show M.O ((i.toNat : Nat) : Int) = _; rw [Int.toNat_of_nonneg hi]; exact hO, rfl⟩) (fun _ => rfl)).upd (i := i) (o := o) (by unfold updI; rw [if_neg hij]; exact hO) rfl rfl rfl rfl (fun h0 => h.chain.pgs i o hO h0)

/-- Bytes read from a place on; bytes laid over others. -/
def cut (C : Nat → UInt8) (t n : Nat) : List UInt8 := (List.range n).map fun j => C (t + j)
def lay (C : Nat → UInt8) (t : Nat) (bs : List UInt8) : Nat → UInt8 := fun x => if t ≤ x ∧ x < t + bs.length then bs.getD (x - t) 0 else C x
theorem cut_len (C : Nat → UInt8) (t n : Nat) : (cut C t n).length = n := by simp [cut]
theorem cut_at (C : Nat → UInt8) (t n j : Nat) (h : j < n) : (cut C t n).getD j 0 = C (t + j) := by simp [cut, List.getD, h]
theorem list_ext {a b : List UInt8} (hl : a.length = b.length) (h : ∀ j, j < a.length → a.getD j 0 = b.getD j 0) : a = b := by
  apply List.ext_getElem hl
  intro j h1 h2
  have := h j h1
  simpa [List.getD, List.getElem?_eq_getElem h1, List.getElem?_eq_getElem h2] using this
theorem cut_lay (C : Nat → UInt8) (t N : Nat) (bs : List UInt8) (h : t + bs.length ≤ N) : cut (lay C t bs) 0 N = putB (cut C 0 N) t bs := by
  refine list_ext (by rw [cut_len, putB_len (by rw [cut_len]; exact h), cut_len]) (fun j hj => ?_)
  rw [cut_len] at hj
  rw [cut_at _ _ _ _ hj, putB_at _ _ _ _ (by rw [cut_len]; exact h), cut_at _ _ _ _ hj, Nat.zero_add]
  rfl
theorem cut_drop (C : Nat → UInt8) (t N : Nat) (h : t ≤ N) : (cut C 0 N).drop t = cut C t (N - t) := by
  refine list_ext (by rw [List.length_drop, cut_len, cut_len]) (fun j hj => ?_)
  rw [List.length_drop, cut_len] at hj
  rw [cut_at _ _ _ _ hj]
  have e : ((cut C 0 N).drop t).getD j 0 = (cut C 0 N).getD (t + j) 0 := by simp [List.getD, List.getElem?_drop]
  rw [e, cut_at _ _ _ _ (by omega), Nat.zero_add]
theorem cut_same (C : Nat → UInt8) (t : Nat) (bs : List UInt8) : cut (lay C t bs) t bs.length = bs := by
  refine list_ext (cut_len _ _ _) (fun j hj => ?_)
  rw [cut_len] at hj
  rw [cut_at _ _ _ _ hj]
  unfold lay
  rw [if_pos (by omega), show t + j - t = j by omega]

/-- Bytes of the law's own beside its set. -/
structure Mine (w : World) (s : Nat) (r : Rep) (g n c : Nat) (bs : List UInt8) : Prop where
  byts : Byts (.slice (some ⟨g, 0, none⟩) n c) bs w
  apart : ¬ SFoot s r g
  len : bs.length = n
theorem byts_lt {w : World} {g n c : Nat} {bs : List UInt8} (h : Byts (.slice (some ⟨g, 0, none⟩) n c) bs w) : g < w.heap.size := by
  obtain ⟨cur, hb⟩ := own_block (w := w) h (k := g) rfl
  exact lt_of_block hb
section
variable {w w' : World} {s : Nat} {r r' : Rep} {g n c : Nat} {bs : List UInt8}
theorem Mine.next (h : Mine w s r g n c bs) (k : VNext w s r w' r') : Mine w' s r' g n c bs :=
  ⟨h.byts.beside8 k.turn h.apart, fun hk => by
    rcases k.foot g hk with e | e
    · exact h.apart e
    · have := byts_lt h.byts; omega, h.len⟩
theorem Mine.past (h : Mine w s r g n c bs) (t : Turn NoBlock w w') : Mine w' s r g n c bs := ⟨h.byts.beside8 t (fun h => h), h.apart, h.len⟩
theorem Mine.beside {g' : Nat} (h : Mine w s r g n c bs) (t : Turn (fun j => j = g') w w') (hne : g ≠ g') : Mine w' s r g n c bs := ⟨h.byts.beside8 t hne, h.apart, h.len⟩
theorem Mine.src (h : Mine w s r g n c bs) : Src w (.slice (some ⟨g, 0, none⟩) n c) bs := h.byts.src
theorem VSt.beside {w0 : World} {M : Mod} (h : VSt w0 w s r M) (t : Turn (fun j => j = g) w w') (h0 : w0.heap.size ≤ g) (hg : ¬ SFoot s r g) : VSt w0 w' s r M :=
  ⟨h.mem.kept t (fun k hk e => hg (by subst e; exact hk)), h.turn.trans t (fun j hj => .inr (by subst hj; exact h0)), h.fresh⟩
end

theorem goP_cnt8 (k : Nat) : ∀ p i n, i < 64 → (goP k p i n).length * 64 ≤ i + n + 63 := by
  induction k with
  | zero => intro p i n _; simp [goP]
  | succ k ih =>
    intro p i n hi
    rw [goP_succ]
    by_cases h : n = 0
    · rw [if_pos h]; simp
    · rw [if_neg h, List.length_cons]
      have := ih (p + 1) 0 (n - min n (64 - i)) (by decide)
      by_cases h2 : n ≤ 64 - i
      · rw [show n - min n (64 - i) = 0 by omega, goP_nil]
        simp only [List.length_nil]
        omega
      · omega
theorem parts_cnt8 (t n : Nat) : (partsL t n).length * 64 ≤ t % 64 + n + 63 := goP_cnt8 n _ _ n (Nat.mod_lt _ (by decide))


/-- One object of 256 bytes. -/
structure Ap1 (M : Mod) (C : Nat → UInt8) (o : Ob) : Prop where
  ob : ∀ k, M.O k = if k = 1 then some o else none
  size : o.size = 256
  drp : o.drp = false
  dep : o.depth = 0
  kids : o.kids = 0
  slc : o.slc = 0
  inv : Inv8 M
  made : M.made = 1
  most : M.most = 8
  live : M.live = 1
  cnt : o.cnt ≤ 5
  flat : ∀ x, fl M.L o.pgs x = C x
  room : 59 ≤ roomN M.L
  ub : Ub M.L 1
/-- And its snapshot. -/
structure Ap2 (M : Mod) (C : Nat → UInt8) (o1 o2 : Ob) : Prop where
  ob : ∀ k, M.O k = if k = 2 then some o2 else if k = 1 then some o1 else none
  size : o1.size = 256 ∧ o2.size = 256
  drp : o1.drp = false ∧ o2.drp = false
  dep : o1.depth = 0 ∧ o2.depth = 0
  kids : o1.kids = 1
  slc : o1.slc = 0
  inv : Inv8 M
  made : M.made = 2
  most : M.most = 8
  live : M.live = 2
  cnt : o1.cnt ≤ 5 ∧ o2.cnt ≤ 5
  flat : ∀ x, fl M.L o1.pgs x = C x
  flat2 : ∀ x, x < 256 → fl M.L o2.pgs x = C x
  room : 59 ≤ roomN M.L
/-- And the slice; m writes later. -/
structure Ap3 (M : Mod) (C1 C2 : Nat → UInt8) (o1 o2 : Ob) (m : Nat) : Prop where
  ob : ∀ k, M.O k = if k = 3 then some (newOb 192 1 1 64) else if k = 2 then some o2 else if k = 1 then some o1 else none
  size : o1.size = 256 ∧ o2.size = 256
  drp : o1.drp = false ∧ o2.drp = false
  dep : o1.depth = 0 ∧ o2.depth = 0
  inv : Inv8 M
  made : M.made = 3
  cnt : o1.cnt ≤ 5 * (m + 1) ∧ o2.cnt ≤ 5 * (m + 1)
  flat : ∀ x, fl M.L o1.pgs x = C1 x
  flat2 : ∀ x, x < 256 → fl M.L o2.pgs x = C2 x
  room : 59 ≤ roomN M.L + 5 * m
def ZA : Mod := ⟨8, 1, 1, updI (fun _ => none) 1 (some (newOb 256 0 0 0)), List.replicate 64 Pg.none⟩
theorem ub_start (n : Nat) : Ub (List.replicate n Pg.none) 0 := fun f => by
  unfold usersL pgAt
  split
  · rw [List.getD_eq_getElem?_getD, List.getElem?_replicate]
    split <;> exact Nat.le_refl _
  · exact Nat.le_refl _
theorem za_room : roomN ZA.L = 64 := by show roomN (List.replicate 64 Pg.none) = 64; decide +kernel
theorem za_inv : Inv8 ZA := by
  refine ⟨(Good.start 64).congr (fun k => ?_), chain_one (n := 0) (m := 0) (o := newOb 256 0 0 0) rfl (by decide) (Nat.zero_le _), few_start 64⟩
  unfold famOf ZA updI
  simp only
  by_cases e : k.1 = 1
  · rw [if_pos e]; rfl
  · rw [if_neg e]
theorem za_flat (x : Nat) : fl ZA.L (newOb 256 0 0 0).pgs x = 0 := by
  unfold fl
  show (cont _ none).getD _ 0 = 0
  rw [cont_none]
  unfold blank
  rw [List.getD_eq_getElem?_getD, List.getElem?_replicate, if_pos (Nat.mod_lt _ (by decide))]
  rfl
def UbM (L : List Pg) (n : Nat) : Prop := ∀ p ∈ L, p.users ≤ n
theorem ubm_users {L : List Pg} {n : Nat} (h : UbM L n) : Ub L n := fun f => by
  unfold usersL pgAt
  split
  · rw [List.getD_eq_getElem?_getD]
    cases hf : L[f.toNat]? with
    | none => simp [Pg.none]
    | some p => exact h p (List.mem_of_getElem? hf)
  · simp [Pg.none]
theorem ubm_set {L : List Pg} {n : Nat} (h : UbM L n) (k : Nat) (q : Pg) (hq : q.users ≤ n) : UbM (L.set k q) n := fun p hp => by
  rcases List.mem_or_eq_of_mem_set hp with hp | rfl
  · exact h p hp
  · exact hq
theorem ubm_pg {S : PL} {n : Nat} (h : UbM S.L n) (hn : 1 ≤ n) (p : Nat) : UbM (pgL S p) n := by
  have ha : UbM (allocL S.L) n := by
    unfold allocL
    split
    · exact ubm_set h _ _ hn
    · exact h
  unfold pgL
  split
  · exact ha
  · rename_i f hf
    have := ubm_users h f
    unfold ownL
    split
    · exact h
    · split
      · exact ubm_set (ubm_set h _ _ hn) _ _ (by simp; omega)
      · exact h
theorem ubm_commit {n : Nat} (hn : 1 ≤ n) (ps : List Pt) : ∀ S : PL, UbM S.L n → UbM (commitAll S ps).L n := by
  induction ps with
  | nil => intro S h; exact h
  | cons p ps ih => intro S h; exact ih _ (ubm_pg h hn p.pg)

theorem users_wAll (S : PL) (f : Int) (ps : List Pt) : ∀ (x : List Pg × List UInt8), usersL (ps.foldl (wstep S) x).1 f = usersL x.1 f := by
  induction ps with
  | nil => intro x; rfl
  | cons p ps ih =>
    intro x
    rw [List.foldl_cons, ih]
    unfold wstep
    exact write_users _ _ _ _

section
variable {w : World} {s : Nat} {r : Rep} {M : Mod} {C C1 C2 : Nat → UInt8} {o o1 o2 : Ob} {m : Nat}
theorem za_create (h : SMem w s r (M0 64 8)) : Calls Try.prog 16 #[.pointer (some ⟨s, 0, none⟩), .int .i64 256] w fun e w' => e = .returned (.tuple #[.int .i64 1, .int .i64 0]) ∧ ∃ r', SMem w' s r' ZA ∧ VNext w s r w' r' :=
  create_yes h 256 (by decide) (by decide) (by decide)
theorem lack5 (S : PL) (t n : Nat) (hn : n ≤ 256) : lackN S (partsL t n) ≤ 5 ∧ (partsL t n).length ≤ 5 := by
  have h1 := lackN_le S (partsL t n)
  have h2 := parts_cnt8 t n
  have h3 := Nat.mod_lt t (show 0 < 64 by decide)
  omega
theorem za_write (h : SMem w s r ZA) (v : Value) (bs : List UInt8) (hv : SrcF w s r v bs) (hl : bs.length ≤ 256) :
    Calls Try.prog 17 #[.pointer (some ⟨s, 0, none⟩), .int .i64 1, .int .i64 0, v] w fun e w' => e = .returned (.int .i64 0) ∧ ∃ r' M' o', (SMem w' s r' M' ∧ Ap1 M' (lay (fun _ => 0) 0 bs) o') ∧ VNext w s r w' r' := by
  have hO : ZA.O 1 = some (newOb 256 0 0 0) := rfl
  have L5 := lack5 ⟨ZA.L, (newOb 256 0 0 0).pgs, (newOb 256 0 0 0).cnt⟩ 0 bs.length hl
  have hlk : (lackN ⟨ZA.L, (newOb 256 0 0 0).pgs, (newOb 256 0 0 0).cnt⟩ (partsL 0 bs.length) : Int) ≤ roomN ZA.L := by rw [za_room]; omega
  have W := write_inv za_inv hO rfl (full_pool h.pool) 0 bs hlk
  have c := write8_ok h za_inv.chain (by decide) (i := 1) (by unfold fit; omega) hO rfl 0 v bs hv (by omega) (by show 0 + bs.length ≤ 256; omega) (j := 1) (q := newOb 256 0 0 0) (t' := 0) rfl hO (by decide) za_inv.few (Nat.zero_le _) hlk
  refine Calls.mono c ?_
  rintro e w' ⟨rfl, r', mm, k⟩
  refine ⟨rfl, r', wrM ZA 1 (newOb 256 0 0 0) 0 bs, wrO ZA (newOb 256 0 0 0) 0 bs, ⟨mm, fun k => ?_, rfl, rfl, rfl, rfl, rfl, W.inv, rfl, rfl, rfl, ?_, fun x => ?_, ?_, ?_⟩, k⟩
  · rw [W.obj]
    unfold updI
    by_cases e : k = 1
    · rw [if_pos e, if_pos e]
    · rw [if_neg e, if_neg e]
      unfold ZA updI
      simp only
      rw [if_neg e]
  · refine Nat.le_trans W.cnt ?_
    show 0 + _ ≤ _
    omega
  · rw [W.flat, za_flat]
    rfl
  · have := W.room
    rw [za_room] at this
    omega
  · have hu : UbM (commitAll ⟨ZA.L, (newOb 256 0 0 0).pgs, (newOb 256 0 0 0).cnt⟩ (partsL 0 bs.length)).L 1 := ubm_commit (Nat.le_refl _) _ _ (fun p hp => by
      have hp' : p ∈ List.replicate 64 Pg.none := hp
      rw [List.eq_of_mem_replicate hp']
      exact Nat.zero_le _)
    intro f
    have h1 := ubm_users hu f
    have h2 : usersL (wrM ZA 1 (newOb 256 0 0 0) 0 bs).L f = usersL (commitAll ⟨ZA.L, (newOb 256 0 0 0).pgs, (newOb 256 0 0 0).cnt⟩ (partsL 0 bs.length)).L f := by
      show usersL (wAll _ _ _).1 f = _
      unfold wAll
      rw [users_wAll]
    rw [h2]
    exact h1
theorem a1_snap (h : SMem w s r M) (z : Ap1 M C o) : Calls Try.prog 19 #[.pointer (some ⟨s, 0, none⟩), .int .i64 1, .int .i64 0, .int .i64 256] w fun e w' => e = .returned (.tuple #[.int .i64 2, .int .i64 0]) ∧
    ∃ r' M' o1 o2, (SMem w' s r' M' ∧ Ap2 M' C o1 o2) ∧ VNext w s r w' r' := by
  have hO : M.O 1 = some o := by rw [z.ob, if_pos rfl]
  have hj : M.O ((M.made : Int) + 1) = none := by rw [z.ob, z.made, if_neg (by omega)]
  have hw : winS M 1 ((64 * 0 : Nat) : Int) ((64 * 4 : Nat) : Int) = 0 := by
    unfold winS
    rw [if_neg (fun e => e (find_of hO z.drp)), if_neg (by omega), hO]
    show (if _ then (0 : Int) else -14) = 0
    rw [if_pos (by rw [z.size]; omega)]
  have c := snap_yes h z.inv.chain z.inv.held 1 0 4 (by unfold fit; omega) hO hw (by omega) (by omega) z.dep (by rw [z.live, z.most]; omega) (by rw [z.most]; omega) (by rw [z.made]; omega) (by rw [z.kids]; omega) 1 z.ub (by omega)
  refine Calls.mono c ?_
  rintro e w' ⟨rfl, ⟨r', mm, k⟩, hub⟩
  have S := snap_inv z.inv hO z.dep hj 0 4 5 (by omega) hub (by omega)
  refine ⟨by rw [z.made]; rfl, r', snapM M 1 o 0 4, kid o, snapO M 1 o 0 4, ⟨mm, fun k => ?_, ⟨z.size, rfl⟩, ⟨z.drp, rfl⟩, ⟨z.dep, rfl⟩, ?_, z.slc, S.inv, ?_, z.most, ?_, ⟨z.cnt, Nat.le_trans S.cnt (by omega)⟩, fun x => ?_, fun x hx => ?_, ?_⟩, k⟩
  · rw [S.ob, z.made, z.ob]
    by_cases e : k = 2
    · rw [if_pos (by omega), if_pos e]
    · rw [if_neg (by omega), if_neg e]
      by_cases e1 : k = 1
      · rw [if_pos e1, if_pos e1]
      · rw [if_neg e1, if_neg e1, if_neg e1]
  · show o.kids + 1 = 1
    rw [z.kids]
  · show M.made + 1 = 2
    rw [z.made]
  · show M.live + 1 = 2
    rw [z.live]
  · show fl _ o.pgs x = _
    rw [S.flat, z.flat]
  · rw [S.child x (by omega), Nat.mul_zero, Nat.zero_add, z.flat]
  · rw [S.room]; exact z.room
theorem a2_slice (h : SMem w s r M) (z : Ap2 M C o1 o2) : Calls Try.prog 20 #[.pointer (some ⟨s, 0, none⟩), .int .i64 1, .int .i64 64, .int .i64 192] w fun e w' => e = .returned (.tuple #[.int .i64 3, .int .i64 0]) ∧
    ∃ r' M' o1 o2, (SMem w' s r' M' ∧ Ap3 M' C C o1 o2 0) ∧ VNext w s r w' r' := by
  have hO : M.O 1 = some o1 := by rw [z.ob, if_neg (by omega), if_pos rfl]
  have hj : M.O ((M.made : Int) + 1) = none := by rw [z.ob, z.made, if_neg (by omega), if_neg (by omega)]
  have hw : winS M 1 64 192 = 0 := by
    unfold winS
    rw [if_neg (fun e => e (find_of hO z.drp.1)), if_neg (by omega), hO]
    show (if _ then (0 : Int) else -14) = 0
    rw [if_pos (by rw [z.size.1]; omega)]
  have hs : sliceS M 1 64 192 = 0 := by
    unfold sliceS
    rw [if_neg (fun e => e hw), hO]
    show (if o1.depth = 16 then (-2 : Int) else if M.most ≤ M.live then -4 else 0) = 0
    rw [if_neg (by rw [z.dep.1]; omega), if_neg (by rw [z.live, z.most]; omega)]
  have c := slice_yes h z.inv.chain 1 64 192 (by unfold fit; omega) hO hs (by rw [z.most]; omega) (by rw [z.made]; omega) (by rw [z.kids]; omega) (by rw [z.slc]; omega)
  refine Calls.mono c ?_
  rintro e w' ⟨rfl, r', mm, k⟩
  obtain ⟨i1, i2⟩ := slice_inv z.inv hO (by omega) hj 64 192 (by decide) (by decide) (by rw [z.dep.1]; omega)
  refine ⟨by rw [z.made]; rfl, r', sliceM M 1 o1 64 192, kidS o1, o2, ⟨mm, fun k => ?_, z.size, z.drp, z.dep, i1, ?_, z.cnt, z.flat, z.flat2, by have := z.room; show 59 ≤ roomN M.L + 5 * ((0 : Nat) : Int); omega⟩, k⟩
  · rw [i2, z.made, z.ob, z.dep.1]
    by_cases e : k = 3
    · rw [if_pos (by omega), if_pos e]; rfl
    · rw [if_neg (by omega), if_neg e]
      by_cases e2 : k = 2
      · rw [if_pos e2, if_pos e2, if_neg (by omega)]
      · rw [if_neg e2, if_neg e2]
        by_cases e1 : k = 1
        · rw [if_pos e1, if_pos e1]
        · rw [if_neg e1, if_neg e1, if_neg e1]
  · show M.made + 1 = 3
    rw [z.made]
theorem a1_read (h : SMem w s r M) (z : Ap1 M C o) : Calls Try.prog 18 #[.pointer (some ⟨s, 0, none⟩), .int .i64 1, .int .i64 0, .int .i64 256] w fun e w' => ∃ g c, e = .returned (.tuple #[.slice (some ⟨g, 0, none⟩) 256 c, .int .i64 0]) ∧ Mine w' s r g 256 c (cut C 0 256) ∧ w.heap.size ≤ g ∧ Turn NoBlock w w' := by
  have hO : M.O 1 = some o := by rw [z.ob, if_pos rfl]
  have c := read8_ok h z.inv.chain z.inv.held (by rw [z.made]; decide) (i := 1) (by unfold fit; omega) hO z.drp 0 256 (by omega) (by rw [z.size]; omega) (j := 1) (q := o) (t' := 0) (by rw [z.dep]; rfl) hO (by omega)
  refine Calls.mono c ?_
  rintro e w' ⟨u, rfl, hB, hf, tt⟩
  rw [read_flat (S := ⟨M.L, o.pgs, o.cnt⟩) (full_pool h.pool)] at hB
  rw [show ((List.range 256).map fun j => fl M.L o.pgs (0 + j)) = cut C 0 256 from List.map_congr_left (fun j _ => z.flat _)] at hB
  obtain ⟨g, cc, rfl, hg, -⟩ := byts_news hB (cut_len _ _ _) (by omega)
  have hge : w.heap.size ≤ g := hf g rfl
  exact ⟨g, cc, rfl, ⟨hB, fun hk => by have := h.lt hk; omega, cut_len _ _ _⟩, hge, tt⟩
theorem a3_at1 (z : Ap3 M C1 C2 o1 o2 m) : M.O 1 = some o1 := by rw [z.ob, if_neg (by omega), if_neg (by omega), if_pos rfl]
theorem a3_at2 (z : Ap3 M C1 C2 o1 o2 m) : M.O 2 = some o2 := by rw [z.ob, if_neg (by omega), if_pos rfl]
theorem a3_at3 (z : Ap3 M C1 C2 o1 o2 m) : M.O 3 = some (newOb 192 1 1 64) := by rw [z.ob, if_pos rfl]
theorem a3_root (z : Ap3 M C1 C2 o1 o2 m) (t : Int) : rootI M.O 1 3 t = (1, t + 64) := by
  rw [rootI_succ (a3_at3 z)]
  rfl
theorem a3_read1 (h : SMem w s r M) (z : Ap3 M C1 C2 o1 o2 m) (t n : Nat) (htn : t + n ≤ 256) : Calls Try.prog 18 #[.pointer (some ⟨s, 0, none⟩), .int .i64 1, .int .i64 t, .int .i64 n] w fun e w' => ∃ u, e = .returned (.tuple #[u, .int .i64 0]) ∧ Src w' u (cut C1 t n) ∧ Turn NoBlock w w' := by
  have c := read8_ok h z.inv.chain z.inv.held (by rw [z.made]; decide) (i := 1) (by unfold fit; omega) (a3_at1 z) z.drp.1 t n (by omega) (by rw [z.size.1]; omega) (j := 1) (q := o1) (t' := t) (by rw [z.dep.1]; rfl) (a3_at1 z) (by omega)
  refine Calls.mono c ?_
  rintro e w' ⟨u, rfl, hB, hf, tt⟩
  rw [read_flat (S := ⟨M.L, o1.pgs, o1.cnt⟩) (full_pool h.pool)] at hB
  rw [show ((List.range n).map fun j => fl M.L o1.pgs (t + j)) = cut C1 t n from List.map_congr_left (fun j _ => z.flat _)] at hB
  exact ⟨u, rfl, hB.src, tt⟩
theorem a3_read2 (h : SMem w s r M) (z : Ap3 M C1 C2 o1 o2 m) : Calls Try.prog 18 #[.pointer (some ⟨s, 0, none⟩), .int .i64 2, .int .i64 0, .int .i64 256] w fun e w' => ∃ u, e = .returned (.tuple #[u, .int .i64 0]) ∧ Src w' u (cut C2 0 256) ∧ Turn NoBlock w w' := by
  have c := read8_ok h z.inv.chain z.inv.held (by rw [z.made]; decide) (i := 2) (by unfold fit; omega) (a3_at2 z) z.drp.2 0 256 (by omega) (by rw [z.size.2]; omega) (j := 2) (q := o2) (t' := 0) (by rw [z.dep.2]; rfl) (a3_at2 z) (by omega)
  refine Calls.mono c ?_
  rintro e w' ⟨u, rfl, hB, hf, tt⟩
  rw [read_flat (S := ⟨M.L, o2.pgs, o2.cnt⟩) (full_pool h.pool)] at hB
  rw [show ((List.range 256).map fun j => fl M.L o2.pgs (0 + j)) = cut C2 0 256 from List.map_congr_left (fun j hj => z.flat2 _ (by have := List.mem_range.1 hj; omega))] at hB
  exact ⟨u, rfl, hB.src, tt⟩
theorem a3_read3 (h : SMem w s r M) (z : Ap3 M C1 C2 o1 o2 m) : Calls Try.prog 18 #[.pointer (some ⟨s, 0, none⟩), .int .i64 3, .int .i64 0, .int .i64 192] w fun e w' => ∃ u, e = .returned (.tuple #[u, .int .i64 0]) ∧ Src w' u (cut C1 64 192) ∧ Turn NoBlock w w' := by
  have c := read8_ok h z.inv.chain z.inv.held (by rw [z.made]; decide) (i := 3) (by unfold fit; omega) (a3_at3 z) rfl 0 192 (by omega) (by show 0 + 192 ≤ 192; omega) (j := 1) (q := o1) (t' := 64) (a3_root z 0) (a3_at1 z) (by omega)
  refine Calls.mono c ?_
  rintro e w' ⟨u, rfl, hB, hf, tt⟩
  rw [read_flat (S := ⟨M.L, o1.pgs, o1.cnt⟩) (full_pool h.pool)] at hB
  rw [show ((List.range 192).map fun j => fl M.L o1.pgs (64 + j)) = cut C1 64 192 from List.map_congr_left (fun j _ => z.flat _)] at hB
  exact ⟨u, rfl, hB.src, tt⟩
theorem a3_wrote1 (h : SMem w s r M) (z : Ap3 M C1 C2 o1 o2 m) (hm : m ≤ 5) (t : Nat) (bs : List UInt8) (hl : bs.length ≤ 100) :
    (lackN ⟨M.L, o1.pgs, o1.cnt⟩ (partsL t bs.length) : Int) ≤ roomN M.L ∧ Ap3 (wrM M 1 o1 t bs) (lay C1 t bs) C2 (wrO M o1 t bs) o2 (m + 1) := by
  have L5 := lack5 ⟨M.L, o1.pgs, o1.cnt⟩ t bs.length (by omega)
  have hr := z.room
  have hlk : (lackN ⟨M.L, o1.pgs, o1.cnt⟩ (partsL t bs.length) : Int) ≤ roomN M.L := by omega
  have W := write_inv z.inv (a3_at1 z) z.dep.1 (full_pool h.pool) t bs hlk
  refine ⟨hlk, fun k => ?_, z.size, z.drp, z.dep, W.inv, z.made, ⟨?_, ?_⟩, fun x => ?_, fun x hx => ?_, ?_⟩
  · rw [W.obj]
    unfold updI
    by_cases e : k = 1
    · rw [if_pos e, if_neg (by omega), if_neg (by omega), if_pos e]
    · rw [if_neg e, z.ob, if_neg e, if_neg e]
  · have := W.cnt; have := z.cnt.1; omega
  · have := z.cnt.2; omega
  · rw [W.flat, z.flat]; rfl
  · rw [W.other 2 o2 (by omega) (a3_at2 z), z.flat2 x hx]
  · have := W.room; omega
theorem a3_wrote2 (h : SMem w s r M) (z : Ap3 M C1 C2 o1 o2 m) (hm : m ≤ 5) (t : Nat) (bs : List UInt8) (hl : bs.length ≤ 100) :
    (lackN ⟨M.L, o2.pgs, o2.cnt⟩ (partsL t bs.length) : Int) ≤ roomN M.L ∧ Ap3 (wrM M 2 o2 t bs) C1 (lay C2 t bs) o1 (wrO M o2 t bs) (m + 1) := by
  have L5 := lack5 ⟨M.L, o2.pgs, o2.cnt⟩ t bs.length (by omega)
  have hr := z.room
  have hlk : (lackN ⟨M.L, o2.pgs, o2.cnt⟩ (partsL t bs.length) : Int) ≤ roomN M.L := by omega
  have W := write_inv z.inv (a3_at2 z) z.dep.2 (full_pool h.pool) t bs hlk
  refine ⟨hlk, fun k => ?_, z.size, z.drp, z.dep, W.inv, z.made, ⟨?_, ?_⟩, fun x => ?_, fun x hx => ?_, ?_⟩
  · rw [W.obj]
    unfold updI
    by_cases e : k = 2
    · rw [if_pos e, if_neg (by omega), if_pos e]
    · rw [if_neg e, z.ob, if_neg e, if_neg e]
  · have := z.cnt.1; omega
  · have := W.cnt; have := z.cnt.2; omega
  · rw [W.other 1 o1 (by omega) (a3_at1 z), z.flat x]
  · rw [W.flat, z.flat2 x hx]; rfl
  · have := W.room; omega
theorem a3_write1 (h : SMem w s r M) (z : Ap3 M C1 C2 o1 o2 m) (hm : m ≤ 5) (t : Nat) (v : Value) (bs : List UInt8) (hv : SrcF w s r v bs) (hl : bs.length ≤ 100) (ht : t ≤ 150) :
    Calls Try.prog 17 #[.pointer (some ⟨s, 0, none⟩), .int .i64 1, .int .i64 t, v] w fun e w' => e = .returned (.int .i64 0) ∧ ∃ r' M' o', (SMem w' s r' M' ∧ Ap3 M' (lay C1 t bs) C2 o' o2 (m + 1)) ∧ VNext w s r w' r' := by
  obtain ⟨hlk, a⟩ := a3_wrote1 h z hm t bs hl
  have c := write8_ok h z.inv.chain (by rw [z.made]; decide) (i := 1) (by unfold fit; omega) (a3_at1 z) z.drp.1 t v bs hv (by omega) (by rw [z.size.1]; omega) (j := 1) (q := o1) (t' := t) (by rw [z.dep.1]; rfl) (a3_at1 z) (by omega) z.inv.few (by have := z.cnt.1; omega) hlk
  refine Calls.mono c ?_
  rintro e w' ⟨rfl, r', mm, k⟩
  exact ⟨rfl, r', _, _, ⟨mm, a⟩, k⟩
theorem a3_write2 (h : SMem w s r M) (z : Ap3 M C1 C2 o1 o2 m) (hm : m ≤ 5) (t : Nat) (v : Value) (bs : List UInt8) (hv : SrcF w s r v bs) (hl : bs.length ≤ 100) (ht : t ≤ 150) :
    Calls Try.prog 17 #[.pointer (some ⟨s, 0, none⟩), .int .i64 2, .int .i64 t, v] w fun e w' => e = .returned (.int .i64 0) ∧ ∃ r' M' o', (SMem w' s r' M' ∧ Ap3 M' C1 (lay C2 t bs) o1 o' (m + 1)) ∧ VNext w s r w' r' := by
  obtain ⟨hlk, a⟩ := a3_wrote2 h z hm t bs hl
  have c := write8_ok h z.inv.chain (by rw [z.made]; decide) (i := 2) (by unfold fit; omega) (a3_at2 z) z.drp.2 t v bs hv (by omega) (by rw [z.size.2]; omega) (j := 2) (q := o2) (t' := t) (by rw [z.dep.2]; rfl) (a3_at2 z) (by omega) z.inv.few (by have := z.cnt.2; omega) hlk
  refine Calls.mono c ?_
  rintro e w' ⟨rfl, r', mm, k⟩
  exact ⟨rfl, r', _, _, ⟨mm, a⟩, k⟩
theorem a3_write3 (h : SMem w s r M) (z : Ap3 M C1 C2 o1 o2 m) (hm : m ≤ 5) (v : Value) (bs : List UInt8) (hv : SrcF w s r v bs) (hl : bs.length ≤ 100) :
    Calls Try.prog 17 #[.pointer (some ⟨s, 0, none⟩), .int .i64 3, .int .i64 3, v] w fun e w' => e = .returned (.int .i64 0) ∧ ∃ r' M' o', (SMem w' s r' M' ∧ Ap3 M' (lay C1 67 bs) C2 o' o2 (m + 1)) ∧ VNext w s r w' r' := by
  obtain ⟨hlk, a⟩ := a3_wrote1 h z hm 67 bs hl
  have c := write8_ok h z.inv.chain (by rw [z.made]; decide) (i := 3) (by unfold fit; omega) (a3_at3 z) rfl 3 v bs hv (by omega) (by show 3 + bs.length ≤ 192; omega) (j := 1) (q := o1) (t' := 67) (a3_root z 3) (a3_at1 z) (by omega) z.inv.few (by have := z.cnt.1; omega) hlk
  refine Calls.mono c ?_
  rintro e w' ⟨rfl, r', mm, k⟩
  exact ⟨rfl, r', _, _, ⟨mm, a⟩, k⟩
end
end Go.Proofs.Ytdhbhigoboamfaa
