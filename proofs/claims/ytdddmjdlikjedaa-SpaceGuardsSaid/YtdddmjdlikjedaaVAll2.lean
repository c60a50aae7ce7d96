/-
  Texts that stand one behind the other, in one.
-/
import Derived.Test.YtdddmjdlikjedaaVAll1
import Derived.Test.YtdddmjdlikjedaaPAll
import Derived.Deep.RegionHeld3
/-
  Read of a range that is within. No conditions but that the set is one that calls can make.
-/
namespace Go.Proofs.Ytdddmjdlikjedaa
open Go.ChangeShapes Go.WideShapes Go.ChangeAt Go.RowKit

theorem pool_sized {w : World} {a : Nat} {F : Nat → Prop} {L : List Pg} (h : PoolAt w a F L) (f : Int) : (pgAt L f).bytes.length = 64 := by
  obtain ⟨vs, vf, cap, ps, fr, hM, ok, rfl, rfl⟩ := h
  unfold pgAt
  split
  · rw [List.getD_eq_getElem?_getD]
    cases hf : (padP cap ps)[f.toNat]? with
    | none => rfl
    | some p =>
      show p.bytes.length = 64
      unfold padP at hf
      by_cases hl : f.toNat < ps.length
      · rw [List.getElem?_append_left hl] at hf
        exact hM.sized _ p hf
      · rw [List.getElem?_append_right (by omega), List.getElem?_replicate] at hf
        split at hf
        · cases hf; rfl
        · cases hf
  · rfl
theorem goP_mem (k : Nat) : ∀ p i n, i < 64 → ∀ x ∈ goP k p i n, x.pg ≤ p + k ∧ x.at' + x.n ≤ 64 ∧ 0 < x.n := by
  induction k with
  | zero => intro p i n hi x hx; simp [goP] at hx
  | succ k ih =>
    intro p i n hi x hx
    rw [goP_succ] at hx
    split at hx
    · simp at hx
    · rcases List.mem_cons.1 hx with rfl | hx
      · exact ⟨by simp, by simp; omega, by simp; omega⟩
      · have := ih (p + 1) 0 _ (by omega) x hx
        exact ⟨by omega, this.2⟩
theorem goP_len (k : Nat) : ∀ p i n, (goP k p i n).length ≤ k := by
  induction k with
  | zero => intro p i n; simp [goP]
  | succ k ih =>
    intro p i n
    rw [goP_succ]
    split
    · simp
    · have := ih (p + 1) 0 (n - min n (64 - i))
      simp
      omega
theorem parts_mem {t n : Nat} {x : Pt} (hx : x ∈ partsL t n) : x.pg ≤ t / 64 + n ∧ x.at' + x.n ≤ 64 ∧ 0 < x.n := goP_mem n _ _ _ (Nat.mod_lt _ (by decide)) x hx
theorem parts_len (t n : Nat) : (partsL t n).length ≤ n := goP_len n _ _ _

def Held (M : Mod) : Prop := ∀ i o q f, M.O i = some o → o.pgs q = some f → usersL M.L f ≠ 0
def readAll (S : PL) (t n : Nat) : List UInt8 := (partsL t n).flatMap (byteL S)
theorem byteL_len {w : World} {a : Nat} {F : Nat → Prop} {S : PL} (h : PoolAt w a F S.L) (p : Pt) (hp : p.at' + p.n ≤ 64) : (byteL S p).length = p.n := by
  unfold byteL
  split
  · simp
  · rename_i f hf
    unfold readB
    rw [List.length_take, List.length_drop, pool_sized h f]
    omega

/-- What the loop of Read holds. -/
structure RIn (w wr : World) (S : PL) (v : Value) (ps : List Pt) (u : Value) (acc : List UInt8) (k : Nat) : Prop where
  parts : Parts v ps wr
  own : Byts u acc wr
  eq : acc = (ps.take k).flatMap (byteL S)
  turn : Turn NoBlock w wr
  fresh : ∀ j, Blk u j → w.heap.size ≤ j
  len : acc.length ≤ 64 * k
theorem RIn.push {w wr wx w1 : World} {S : PL} {v u : Value} {ps : List Pt} {acc : List UInt8} {k : Nat} {p : Pt} (h : RIn w wr S v ps u acc k) (t : Turn NoBlock wr wx) (hp : ps[k]? = some p) (hv : ∀ j, Blk v j → ¬ Blk u j) {bs : List UInt8} (hb : bs = byteL S p) (hl : bs.length ≤ 64) {g c N : Nat} (hN : acc.length = N)
    (hown : w1.ownsRow 0 5 1 (.slice (some ⟨g, 0, none⟩) (N + bs.length) c) (N + bs.length) (bcells acc ++ bcells bs)) (hgrow : wx.grownBy w1 u.ownBlock) (hat : u.ownBlock = some g ∨ g = wx.heap.size) :
    RIn w w1 S v ps (.slice (some ⟨g, 0, none⟩) (N + bs.length) c) (acc ++ bs) (k + 1) := by
  have hx : Turn (Blk u) wr w1 := ((t.mono (G := Blk u) (fun _ h => h.elim))).grown hgrow (fun j hj => .inl hj)
  refine ⟨h.parts.past hx hv, ?_, ?_, h.turn.trans hx (fun j hj => .inr (h.fresh j hj)), fun j hj => ?_, ?_⟩
  · unfold Byts
    rw [List.length_append, hN]
    have e : bcells (acc ++ bs) = bcells acc ++ bcells bs := by simp [bcells]
    rw [e]
    exact hown
  · obtain ⟨hlt, he⟩ := List.getElem?_eq_some_iff.1 hp
    rw [List.take_succ_eq_append_getElem hlt, List.flatMap_append, he, h.eq, hb]
    simp
  · simp [Blk, Value.ownBlock] at hj
    subst hj
    rcases hat with e | e
    · exact h.fresh _ e
    · have := h.turn.size
      have := t.size
      omega
  · have := h.len
    rw [List.length_append]
    omega
end Go.Proofs.Ytdddmjdlikjedaa

/-
  Write's loop as plain data: what is written where; the bytes that are handed in. No walk, no conditions.
-/
namespace Go.Proofs.Ytdddmjdlikjedaa
open Go.ChangeShapes Go.WideShapes Go.ChangeAt Go.RowKit

/-- Bytes that were handed in, apart from the set. -/
def SrcF (W : World) (s : Nat) (r : Rep) (v : Value) (bs : List UInt8) : Prop :=
  (∃ p c, v = .slice p 0 c ∧ bs = []) ∨ ∃ b off c, v = .slice (some ⟨b, off, none⟩) bs.length c ∧ bs.length ≤ c ∧ ¬ SFoot s r b ∧ b < W.heap.size ∧ ∀ j, j < bs.length → W.cell? ⟨b, off + j, none⟩ = some (.int .u8 ((bs.getD j 0).toNat : Int))
theorem SrcF.src {W : World} {s : Nat} {r : Rep} {v : Value} {bs : List UInt8} (h : SrcF W s r v bs) : Src W v bs := by
  rcases h with ⟨p, c, rfl, rfl⟩ | ⟨b, off, c, rfl, _, _, _, hc⟩
  · exact .inl ⟨⟨p, c, rfl⟩, rfl⟩
  · exact .inr ⟨b, off, c, rfl, hc⟩
theorem SrcF.next {W W' : World} {s : Nat} {r r' : Rep} {v : Value} {bs : List UInt8} (h : SrcF W s r v bs) (k : VNext W s r W' r') : SrcF W' s r' v bs := by
  rcases h with h | ⟨b, off, c, h1, h2, h3, h4, h5⟩
  · exact .inl h
  · refine .inr ⟨b, off, c, h1, h2, fun hb => ?_, Nat.lt_of_lt_of_le h4 k.turn.size, fun j hj => k.turn.cell (h5 j hj) h3⟩
    rcases k.foot b hb with e | e
    · exact h3 e
    · omega
theorem SrcF.len {W : World} {s : Nat} {r : Rep} {v : Value} {bs : List UInt8} (h : SrcF W s r v bs) : ∃ p c, v = .slice p bs.length c := by
  rcases h with ⟨p, c, rfl, rfl⟩ | ⟨b, off, c, rfl, _⟩
  · exact ⟨p, c, rfl⟩
  · exact ⟨_, c, rfl⟩
theorem SrcF.cut {W : World} {s : Nat} {r : Rep} {v : Value} {bs : List UInt8} (h : SrcF W s r v bs) (m : Nat) (h0 : 0 < m) (hm : m ≤ bs.length) :
    ∃ u x, (∀ w, Sem.run Try.prog (Instr.slice 22 v none (some (.int .i64 (m : Int))) none) w = .ok u w) ∧ (∀ w, Sem.run Try.prog (Instr.slice 22 v (some (.int .i64 (m : Int))) none none) w = .ok x w) ∧ SrcF W s r u (bs.take m) ∧ SrcF W s r x (bs.drop m) := by
  rcases h with ⟨p, c, rfl, rfl⟩ | ⟨b, off, c, rfl, hc, hf, hb, hcell⟩
  · simp at hm; omega
  have ht : Try.prog.underlying 22 = some (.slice (Try.prog.elem 22)) := by kernel_rfl
  have hsz : ∀ w, (sizeOf (Try.prog.elem 22)).run Try.prog w = .ok 1 w := fun w => by kernel_rfl
  refine ⟨.slice (some ⟨b, off, none⟩) m c, if c = m then .slice (some ⟨b, off, none⟩) (bs.length - m) (c - m) else .slice (some ⟨b, off + m, none⟩) (bs.length - m) (c - m), fun w => ?_, fun w => ?_, ?_, ?_⟩
  · have := run_slice_h (P := Try.prog) w 22 (some ⟨b, off, none⟩) bs.length c ht .i64 (m : Int) (by omega) (by omega)
    rw [hsz] at this
    simp only [Result.andThen, Int.toNat_natCast] at this
    rw [this]
    simp [sliced, Addr.add]
  · have := run_slice_l (P := Try.prog) w 22 (some ⟨b, off, none⟩) bs.length c ht .i64 (m : Int) (by omega) (by omega)
    rw [hsz] at this
    simp only [Result.andThen, Int.toNat_natCast] at this
    rw [this]
    by_cases e : c = m
    · subst e; simp [sliced]
    · simp [sliced, e, Addr.add]; omega
  · refine .inr ⟨b, off, c, ?_, ?_, hf, hb, fun j hj => ?_⟩
    · rw [List.length_take, Nat.min_eq_left hm]
    · rw [List.length_take]; omega
    · rw [List.length_take] at hj
      rw [hcell j (by omega)]
      simp [List.getD, show j < m by omega]
  · by_cases e : c = m
    · rw [if_pos e]
      refine .inl ⟨some ⟨b, off, none⟩, c - m, ?_, ?_⟩
      · rw [show bs.length - m = 0 by omega]
      · rw [List.drop_eq_nil_iff]; omega
    · rw [if_neg e]
      refine .inr ⟨b, off + m, c - m, ?_, ?_, hf, hb, fun j hj => ?_⟩
      · rw [List.length_drop]
      · rw [List.length_drop]; omega
      · rw [List.length_drop] at hj
        rw [Nat.add_assoc, hcell (m + j) (by omega)]
        simp [List.getD, List.getElem?_drop]

def frameOf (S : PL) (p : Pt) : Int := (S.g (p.pg : Int)).getD 0
def wstep (S : PL) (x : List Pg × List UInt8) (p : Pt) : List Pg × List UInt8 := (writeL x.1 (frameOf S p) p.at' (x.2.take p.n), x.2.drop p.n)
def wAll (S : PL) (bs : List UInt8) (ps : List Pt) : List Pg × List UInt8 := ps.foldl (wstep S) (S.L, bs)
theorem wAll_succ (S : PL) (bs : List UInt8) (ps : List Pt) (k : Nat) (p : Pt) (hk : ps[k]? = some p) : wAll S bs (ps.take (k + 1)) = wstep S (wAll S bs (ps.take k)) p := by
  obtain ⟨hlt, he⟩ := List.getElem?_eq_some_iff.1 hk
  unfold wAll
  rw [List.take_succ_eq_append_getElem hlt, List.foldl_append, he]
  rfl
def setL (M : Mod) (L : List Pg) : Mod := { M with L := L }
theorem goP_sum (k : Nat) : ∀ p i n, i < 64 → n ≤ k → ((goP k p i n).map Pt.n).sum = n := by
  induction k with
  | zero => intro p i n hi hn; simp [goP]; omega
  | succ k ih =>
    intro p i n hi hn
    rw [goP_succ]
    split
    · simp; omega
    · rw [List.map_cons, List.sum_cons, ih (p + 1) 0 _ (by omega) (by omega)]
      show min n (64 - i) + _ = n
      omega
theorem parts_sum (t n : Nat) : ((partsL t n).map Pt.n).sum = n := goP_sum n _ _ _ (Nat.mod_lt _ (by decide)) (Nat.le_refl _)

/-- What the loop of Write holds. -/
structure WIn (w wr : World) (s : Nat) (r : Rep) (M : Mod) (S : PL) (bs : List UInt8) (vp : Value) (ps : List Pt) (v : Value) (x : List Pg × List UInt8) (k : Nat) : Prop where
  eq : x = wAll S bs (ps.take k)
  mem : SMem wr s r (setL M x.1)
  parts : Parts vp ps wr
  apart : ∀ j, Blk vp j → ¬ SFoot s r j
  src : SrcF wr s r v x.2
  sum : x.2.length = ((ps.drop k).map Pt.n).sum
  turn : Turn (SFoot s r) w wr
theorem drop_sum {ps : List Pt} {k : Nat} {p : Pt} (h : ps[k]? = some p) : ((ps.drop k).map Pt.n).sum = p.n + ((ps.drop (k + 1)).map Pt.n).sum := by
  obtain ⟨hlt, he⟩ := List.getElem?_eq_some_iff.1 h
  rw [List.drop_eq_getElem_cons hlt, he]
  simp
theorem WIn.step {w wr w5 : World} {s : Nat} {r : Rep} {M : Mod} {S : PL} {bs : List UInt8} {vp v v2 : Value} {ps : List Pt} {x : List Pg × List UInt8} {k : Nat} {p : Pt} (h : WIn w wr s r M S bs vp ps v x k) (hp : ps[k]? = some p)
    {wx : World} (t : Turn NoBlock wr wx) (hP : PoolAt w5 r.p r.FP (writeL x.1 (frameOf S p) p.at' (x.2.take p.n))) (t5 : Turn r.FP wx w5) (hv2 : SrcF wr s r v2 (x.2.drop p.n)) : WIn w w5 s r M S bs vp ps v2 (wstep S x p) (k + 1) := by
  have m5 := (h.mem.past t).setPool hP t5 (fun j hj => .inl hj)
  have t5' : Turn (SFoot s r) wr w5 := (t.mono (G := SFoot s r) (fun _ h => h.elim)).trans t5 (fun j hj => .inl (.inr (.inr (.inl hj))))
  refine ⟨?_, m5, h.parts.past t5' h.apart, h.apart, hv2.next ⟨t5', fun j hj => .inl hj⟩, ?_, h.turn.trans t5' (fun j hj => .inl hj)⟩
  · rw [h.eq, wAll_succ _ _ _ _ _ hp]
  · have := h.sum
    rw [drop_sum hp] at this
    show (x.2.drop p.n).length = _
    rw [List.length_drop]
    omega
end Go.Proofs.Ytdddmjdlikjedaa

/-
  Committing pages keeps what stands in all pages, and gives each of them a frame of its own; reading and writing byte by byte. No walk, no conditions.
-/
namespace Go.Proofs.Ytdddmjdlikjedaa
open Go.ChangeShapes Go.WideShapes Go.ChangeAt Go.RowKit

theorem used_set (L : List Pg) (n : Nat) (q p : Pg) (hn : L[n]? = some p) : usedN (L.set n q) + (if p.users ≠ 0 then 1 else 0) = usedN L + (if q.users ≠ 0 then 1 else 0) := by
  induction L generalizing n with
  | nil => simp at hn
  | cons x L ih =>
    cases n with
    | zero =>
      simp at hn
      subst hn
      unfold usedN
      simp only [List.set_cons_zero, List.filter_cons]
      by_cases h1 : q.users = 0
      · by_cases h2 : x.users = 0
        · simp [h1, h2]
        · simp [h1, h2]
      · by_cases h2 : x.users = 0
        · simp [h1, h2]
        · simp [h1, h2]
    | succ n =>
      simp at hn
      have := ih n hn
      unfold usedN at this ⊢
      simp only [List.set_cons_succ, List.filter_cons]
      by_cases h2 : x.users = 0
      · simp [h2]; simpa using this
      · simp [h2]; simp at this; omega
theorem room_low {L : List Pg} (h : 0 < roomN L) : lowOf L < L.length := by
  rcases Nat.lt_or_ge (lowOf L) L.length with h1 | h1
  · exact h1
  · exfalso
    have hall : ∀ p ∈ L, (p.users != 0) = true := fun p hp => by
      have : ¬ ∃ x ∈ L, isFree x = true := by
        rw [← List.findIdx_lt_length]
        exact Nat.not_lt.2 h1
      have h2 : ¬ isFree p = true := fun e => this ⟨p, hp, e⟩
      unfold isFree at h2
      simpa using h2
    have : usedN L = L.length := by
      unfold usedN
      rw [List.filter_eq_self.2 hall]
    unfold roomN at h
    omega
theorem at_low {L : List Pg} (h : lowOf L < L.length) : ∃ p, L[lowOf L]? = some p ∧ p.users = 0 := by
  refine ⟨L[lowOf L], List.getElem?_eq_getElem h, ?_⟩
  have := low_free h
  unfold usersL at this
  rw [pgAt_nat, List.getD_eq_getElem?_getD, List.getElem?_eq_getElem h] at this
  exact this
theorem room_alloc {L : List Pg} (h : lowOf L < L.length) : roomN (allocL L) = roomN L - 1 ∧ (allocL L).length = L.length := by
  obtain ⟨p, hp, h0⟩ := at_low h
  have := used_set L (lowOf L) ⟨1, blank⟩ p hp
  rw [if_neg (by omega), if_pos (by simp)] at this
  unfold allocL roomN
  rw [if_pos h, List.length_set]
  omega
theorem room_own {L : List Pg} {f : Int} (hu : 1 < usersL L f) (h : lowOf L < L.length) : roomN (ownL L f) = roomN L - 1 ∧ (ownL L f).length = L.length := by
  obtain ⟨p, hp, h0⟩ := at_low h
  obtain ⟨r1, r2, r3⟩ := users_range (show usersL L f ≠ 0 by omega)
  have hne : f.toNat ≠ lowOf L := fun e => by have h3 := low_free h; rw [← e, ← r3] at h3; omega
  have e1 := used_set L (lowOf L) ⟨1, (pgAt L f).bytes⟩ p hp
  rw [if_neg (by omega), if_pos (by simp)] at e1
  have hg : (L.set (lowOf L) ⟨1, (pgAt L f).bytes⟩)[f.toNat]? = some L[f.toNat] := by
    rw [List.getElem?_set_ne (fun e => hne e.symm), List.getElem?_eq_getElem r2]
  have e2 := used_set _ f.toNat ⟨usersL L f - 1, (pgAt L f).bytes⟩ _ hg
  have hq : L[f.toNat].users = usersL L f := by
    unfold usersL pgAt
    rw [if_pos ⟨r1, by omega⟩, List.getD_eq_getElem?_getD, List.getElem?_eq_getElem r2]
    rfl
  rw [hq, if_pos (by omega), if_pos (by show usersL L f - 1 ≠ 0; omega)] at e2
  unfold ownL roomN
  rw [if_neg (by omega), if_pos h, List.length_set, List.length_set]
  omega

/-- What committing keeps. -/
structure Kept (i : Int) (L : List Pg) (A : Key → Option Int) (S' : PL) (A' : Key → Option Int) : Prop where
  good : Good S'.L A'
  fam : ∀ p, S'.g p = A' (i, p)
  other : ∀ k : Key, k.1 ≠ i → A' k = A k
  cont : ∀ k, cont S'.L (A' k) = cont L (A k)
  own : ∀ k f, A k = some f → usersL L f = 1 → A' k = some f ∧ usersL S'.L f = 1
  len : S'.L.length = L.length
theorem commit1_good {i : Int} {S : PL} {A : Key → Option Int} (h : Good S.L A) (hg : ∀ p, S.g p = A (i, p)) (p : Nat) (hl : lacks S p = true → 0 < roomN S.L) :
    ∃ A', Kept i S.L A (commit1 S p) A' ∧ (∃ f, A' (i, (p : Int)) = some f ∧ usersL (commit1 S p).L f = 1) ∧ (∀ q : Int, q ≠ (p : Int) → A' (i, q) = A (i, q)) ∧ roomN (commit1 S p).L = roomN S.L - (if lacks S p then 1 else 0) ∧
      (∀ q : Nat, q ≠ p → lacks (commit1 S p) q = true → lacks S q = true) := by
  have hgi := hg (p : Int)
  cases hp : S.g (p : Int) with
  | none =>
    have hla := lacks_none hp
    have hlow := room_low (hl hla)
    obtain ⟨e1, e2⟩ := pg_none hp
    have hc : commit1 S p = ⟨allocL S.L, updI S.g (p : Int) (some (allocV S.L)), S.c + 1⟩ := by unfold commit1; rw [e1, e2, hp]; rfl
    rw [hc]
    have hk : A (i, (p : Int)) = none := by rw [← hgi, hp]
    obtain ⟨r1, r2⟩ := room_alloc hlow
    have hv := alloc_val hlow
    refine ⟨updK A (i, (p : Int)) (some (allocV S.L)), ⟨h.alloc hk hlow, fun q => ?_, fun k hk2 => updK_ne (fun e => hk2 (by rw [e])), fun k => ?_, fun k f hf hu => ?_, r2⟩, ⟨allocV S.L, updK_same _ _ _, by show usersL (allocL S.L) _ = 1; rw [hv, alloc_users hlow, if_pos rfl]⟩, fun q hq => updK_ne (fun e => hq (by injection e)), by rw [hla, if_pos rfl]; exact r1, fun q hq hlq => ?_⟩
    · show updI S.g (p : Int) (some (allocV S.L)) q = _
      unfold updI updK
      by_cases e : q = (p : Int)
      · rw [if_pos e, if_pos (by rw [e])]
      · rw [if_neg e, if_neg (fun h => e (by injection h)), hg q]
    · by_cases e : k = (i, (p : Int))
      · rw [e, updK_same, hk, cont_some, cont_none, hv]
        show (pgAt (allocL S.L) _).bytes = _
        rw [alloc_bytes hlow, if_pos rfl]
      · rw [updK_ne e]
        cases ha : A k with
        | none => rfl
        | some f =>
          rw [cont_some, cont_some]
          show (pgAt (allocL S.L) f).bytes = _
          rw [alloc_bytes hlow, if_neg (fun e => h.free (low_free hlow) k (by rw [ha, e]))]
    · have hne : k ≠ (i, (p : Int)) := fun e => by rw [e, hk] at hf; cases hf
      refine ⟨by rw [updK_ne hne]; exact hf, ?_⟩
      show usersL (allocL S.L) f = 1
      rw [alloc_users hlow]
      split
      · rfl
      · exact hu
    · have hqi : ((q : Nat) : Int) ≠ (p : Int) := by omega
      cases hs : S.g (q : Int) with
      | none => exact lacks_none hs
      | some f =>
        rw [lacks_some hs]
        have : lacks (⟨allocL S.L, updI S.g (p : Int) (some (allocV S.L)), S.c + 1⟩ : PL) q = decide (1 < usersL (allocL S.L) f) := lacks_some (by show updI S.g _ _ _ = _; unfold updI; rw [if_neg hqi]; exact hs)
        rw [this, alloc_users hlow] at hlq
        split at hlq
        · simp at hlq
        · exact hlq
  | some f =>
    obtain ⟨e1, e2⟩ := pg_some hp
    have hk : A (i, (p : Int)) = some f := by rw [← hgi, hp]
    have hpos := h.pos hk
    by_cases hu : 1 < usersL S.L f
    · have hla : lacks S p = true := by rw [lacks_some hp]; exact decide_eq_true hu
      have hlow := room_low (hl hla)
      have hc : commit1 S p = ⟨ownL S.L f, updI S.g (p : Int) (some (ownV S.L f)), S.c⟩ := by unfold commit1; rw [e1, e2, hp]; rfl
      rw [hc]
      obtain ⟨r1, r2⟩ := room_own hu hlow
      have hv := own_val hu hlow
      have hne0 : f ≠ (lowOf S.L : Int) := fun e => by have := low_free hlow; rw [← e] at this; omega
      refine ⟨updK A (i, (p : Int)) (some (ownV S.L f)), ⟨h.own hk hu hlow, fun q => ?_, fun k hk2 => updK_ne (fun e => hk2 (by rw [e])), fun k => ?_, fun k f2 hf hu2 => ?_, r2⟩, ⟨ownV S.L f, updK_same _ _ _, by show usersL (ownL S.L f) _ = 1; rw [hv, own_users hu hlow, if_neg (fun e => hne0 e.symm), if_pos rfl]⟩, fun q hq => updK_ne (fun e => hq (by injection e)), by rw [hla, if_pos rfl]; exact r1, fun q hq hlq => ?_⟩
      · show updI S.g (p : Int) (some (ownV S.L f)) q = _
        unfold updI updK
        by_cases e : q = (p : Int)
        · rw [if_pos e, if_pos (by rw [e])]
        · rw [if_neg e, if_neg (fun h => e (by injection h)), hg q]
      · by_cases e : k = (i, (p : Int))
        · rw [e, updK_same, hk, cont_some, cont_some, hv]
          show (pgAt (ownL S.L f) _).bytes = _
          rw [own_bytes hu hlow, if_pos rfl]
        · rw [updK_ne e]
          cases ha : A k with
          | none => rfl
          | some f2 =>
            rw [cont_some, cont_some]
            show (pgAt (ownL S.L f) f2).bytes = _
            rw [own_bytes hu hlow, if_neg (fun e => h.free (low_free hlow) k (by rw [ha, e]))]
      · have hne : k ≠ (i, (p : Int)) := fun e => by rw [e, hk] at hf; cases hf; omega
        refine ⟨by rw [updK_ne hne]; exact hf, ?_⟩
        show usersL (ownL S.L f) f2 = 1
        rw [own_users hu hlow, if_neg (fun e => by rw [e] at hu2; omega)]
        split
        · rfl
        · exact hu2
      · have hqi : ((q : Nat) : Int) ≠ (p : Int) := by omega
        cases hs : S.g (q : Int) with
        | none => exact lacks_none hs
        | some f2 =>
          rw [lacks_some hs]
          have : lacks (⟨ownL S.L f, updI S.g (p : Int) (some (ownV S.L f)), S.c⟩ : PL) q = decide (1 < usersL (ownL S.L f) f2) := lacks_some (by show updI S.g _ _ _ = _; unfold updI; rw [if_neg hqi]; exact hs)
          rw [this, own_users hu hlow] at hlq
          split at hlq
          · rename_i e
            rw [e]
            exact decide_eq_true hu
          · split at hlq
            · simp at hlq
            · exact hlq
    · have hu1 : usersL S.L f = 1 := by omega
      obtain ⟨o1, o2⟩ := own_one hu1
      have hla : lacks S p = false := by rw [lacks_some hp]; exact decide_eq_false hu
      have hc : commit1 S p = ⟨S.L, updI S.g (p : Int) (some f), S.c⟩ := by unfold commit1; rw [e1, e2, hp, o1, o2]; rfl
      rw [hc]
      have hself : ∀ q, updI S.g (p : Int) (some f) q = S.g q := fun q => by
        unfold updI
        by_cases e : q = (p : Int)
        · rw [if_pos e, e, hp]
        · rw [if_neg e]
      refine ⟨A, ⟨h, fun q => by show updI _ _ _ q = _; rw [hself, hg], fun k _ => rfl, fun k => rfl, fun k f2 hf hu2 => ⟨hf, hu2⟩, rfl⟩, ⟨f, hk, hu1⟩, fun q _ => rfl, by rw [hla]; simp, fun q hq hlq => ?_⟩
      cases hs : S.g (q : Int) with
      | none => exact lacks_none hs
      | some f2 =>
        rw [lacks_some hs]
        have : lacks (⟨S.L, updI S.g (p : Int) (some f), S.c⟩ : PL) q = decide (1 < usersL S.L f2) := lacks_some (by show updI S.g _ _ _ = _; rw [hself]; exact hs)
        rw [this] at hlq
        exact hlq
theorem lackN_mono {S S' : PL} {ps : List Pt} (h : ∀ p ∈ ps, lacks S' p.pg = true → lacks S p.pg = true) : lackN S' ps ≤ lackN S ps := by
  unfold lackN
  induction ps with
  | nil => simp
  | cons p ps ih =>
    have := ih (fun q hq => h q (List.mem_cons_of_mem _ hq))
    have h1 := h p List.mem_cons_self
    rw [List.filter_cons, List.filter_cons]
    by_cases e : lacks S' p.pg = true
    · rw [if_pos e, if_pos (h1 e)]
      simp
      exact this
    · rw [if_neg e]
      split
      · simp; omega
      · exact this
theorem commitAll_good {i : Int} {ps : List Pt} : ∀ {S : PL} {A : Key → Option Int}, Good S.L A → (∀ p, S.g p = A (i, p)) → (ps.map Pt.pg).Nodup → (lackN S ps : Int) ≤ roomN S.L →
    ∃ A', Kept i S.L A (commitAll S ps) A' ∧ (∀ p ∈ ps, ∃ f, A' (i, (p.pg : Int)) = some f ∧ usersL (commitAll S ps).L f = 1) ∧ (∀ q : Int, (∀ p ∈ ps, q ≠ (p.pg : Int)) → A' (i, q) = A (i, q)) ∧ roomN S.L - (ps.length : Int) ≤ roomN (commitAll S ps).L := by
  induction ps with
  | nil => intro S A h hg _ _; exact ⟨A, ⟨h, hg, fun _ _ => rfl, fun _ => rfl, fun _ _ a b => ⟨a, b⟩, rfl⟩, fun p hp => by simp at hp, fun _ _ => rfl, by show roomN S.L - _ ≤ roomN S.L; omega⟩
  | cons p ps ih =>
    intro S A h hg hn hl
    rw [List.map_cons, List.nodup_cons] at hn
    have hlk : (lackN S (p :: ps) : Int) = (if lacks S p.pg then 1 else 0) + (lackN S ps : Int) := by
      unfold lackN
      rw [List.filter_cons]
      split
      · rw [List.length_cons]; omega
      · omega
    obtain ⟨A1, k1, k2, k3, k4, k5⟩ := commit1_good h hg p.pg (fun hla => by rw [hlk, hla, if_pos rfl] at hl; omega)
    have hmono : lackN (commit1 S p.pg) ps ≤ lackN S ps := lackN_mono (fun q hq hla => k5 q.pg (fun e => hn.1 (by rw [← e]; exact List.mem_map.2 ⟨q, hq, rfl⟩)) hla)
    obtain ⟨A2, m1, m2, m3, m4⟩ := ih k1.good k1.fam hn.2 (by rw [k4]; omega)
    have e : commitAll S (p :: ps) = commitAll (commit1 S p.pg) ps := rfl
    rw [e]
    refine ⟨A2, ⟨m1.good, m1.fam, fun k hk => (m1.other k hk).trans (k1.other k hk), fun k => (m1.cont k).trans (k1.cont k), fun k f ha hu => ?_, m1.len.trans k1.len⟩, fun q hq => ?_, fun q hq => ?_, by rw [List.length_cons]; split at k4 <;> omega⟩
    · obtain ⟨a1, a2⟩ := k1.own k f ha hu
      exact m1.own k f a1 a2
    · rcases List.mem_cons.1 hq with rfl | hq
      · obtain ⟨f, a1, a2⟩ := k2
        exact ⟨f, m1.own _ _ a1 a2⟩
      · exact m2 q hq
    · rw [m3 q (fun x hx => hq x (List.mem_cons_of_mem _ hx)), k3 q (hq p List.mem_cons_self)]
end Go.Proofs.Ytdddmjdlikjedaa

/-
  What is read and written, byte by byte. No walk, no conditions.
-/
namespace Go.Proofs.Ytdddmjdlikjedaa
open Go.ChangeShapes Go.WideShapes Go.ChangeAt Go.RowKit

/-- The byte at a place. -/
def fl (L : List Pg) (g : Int → Option Int) (x : Nat) : UInt8 := (cont L (g ((x / 64 : Nat) : Int))).getD (x % 64) 0
def Full (L : List Pg) : Prop := ∀ f, (pgAt L f).bytes.length = 64
theorem Full.cont {L : List Pg} (h : Full L) (x : Option Int) : (cont L x).length = 64 := by
  cases x with
  | none => rfl
  | some f => exact h f
theorem cut_map (l : List UInt8) (i m : Nat) (h : i + m ≤ l.length) : (l.drop i).take m = (List.range m).map fun j => l.getD (i + j) 0 := by
  apply List.ext_getElem?
  intro j
  by_cases hj : j < m
  · rw [List.getElem?_take, if_pos hj, List.getElem?_drop, List.getElem?_map, List.getElem?_range hj, List.getElem?_eq_getElem (by omega)]
    simp [List.getD, List.getElem?_eq_getElem (show i + j < l.length by omega)]
  · rw [List.getElem?_eq_none (by rw [List.length_take]; omega), List.getElem?_eq_none (by simp; omega)]
theorem byteL_map {S : PL} (h : Full S.L) (p : Pt) (hp : p.at' + p.n ≤ 64) : byteL S p = (List.range p.n).map fun j => (cont S.L (S.g (p.pg : Int))).getD (p.at' + j) 0 := by
  cases hg : S.g (p.pg : Int) with
  | none =>
    rw [byte_none hg, cont_none]
    apply List.ext_getElem?
    intro j
    by_cases hj : j < p.n
    · rw [List.getElem?_replicate, if_pos hj, List.getElem?_map, List.getElem?_range hj]
      simp only [Option.map_some]
      unfold blank
      rw [List.getD_eq_getElem?_getD, List.getElem?_replicate, if_pos (by omega)]
      rfl
    · rw [List.getElem?_eq_none (by simp; omega), List.getElem?_eq_none (by simp; omega)]
  | some f =>
    rw [byte_some hg, cont_some]
    unfold readB
    rw [Int.toNat_natCast, Int.toNat_natCast]
    exact cut_map _ _ _ (by rw [h f]; exact hp)
theorem goP_flat {S : PL} (h : Full S.L) (k : Nat) : ∀ p i n, i < 64 → n ≤ k → (goP k p i n).flatMap (byteL S) = (List.range n).map fun j => fl S.L S.g (64 * p + i + j) := by
  induction k with
  | zero => intro p i n _ hn; (obtain rfl : n = 0 := by omega); rfl
  | succ k ih =>
    intro p i n hi hn
    rw [goP_succ]
    by_cases h0 : n = 0
    · subst h0; rfl
    · rw [if_neg h0, List.flatMap_cons, byteL_map h _ (by show i + min n (64 - i) ≤ 64; omega), ih (p + 1) 0 _ (by omega) (by omega)]
      generalize hm : min n (64 - i) = m
      have e : n = m + (n - m) := by omega
      conv => rhs; rw [e, List.range_add, List.map_append, List.map_map]
      congr 1
      · apply List.map_congr_left
        intro j hj
        have hj2 : j < m := List.mem_range.1 hj
        unfold fl
        rw [show (64 * p + i + j) / 64 = p by omega, show (64 * p + i + j) % 64 = i + j by omega]
      · apply List.map_congr_left
        intro j hj
        have := List.mem_range.1 hj
        show fl S.L S.g (64 * (p + 1) + 0 + j) = fl S.L S.g (64 * p + i + (m + j))
        rw [show 64 * (p + 1) + 0 + j = 64 * p + i + (m + j) by omega]
theorem read_flat {S : PL} (h : Full S.L) (t n : Nat) : readAll S t n = (List.range n).map fun j => fl S.L S.g (t + j) := by
  unfold readAll partsL
  rw [goP_flat h n _ _ _ (Nat.mod_lt _ (by decide)) (Nat.le_refl _)]
  apply List.map_congr_left
  intro j _
  rw [show 64 * (t / 64) + t % 64 = t by omega]

theorem putB_at (l bs : List UInt8) (o r : Nat) (h : o + bs.length ≤ l.length) : (putB l o bs).getD r 0 = if o ≤ r ∧ r < o + bs.length then bs.getD (r - o) 0 else l.getD r 0 := by
  unfold putB
  simp only [List.getD_eq_getElem?_getD]
  by_cases h1 : r < o
  · rw [if_neg (by omega), List.getElem?_append_left (by rw [List.length_take]; omega), List.getElem?_take, if_pos h1]
  · rw [List.getElem?_append_right (by rw [List.length_take]; omega), List.length_take, Nat.min_eq_left (by omega)]
    by_cases h2 : r < o + bs.length
    · rw [if_pos (by omega), List.getElem?_append_left (by omega)]
    · rw [if_neg (by omega), List.getElem?_append_right (by omega), List.getElem?_drop, show o + bs.length + (r - o - bs.length) = r by omega]
/-- What writing does. -/
structure Wrote (i0 : Int) (g : Int → Option Int) (A : Key → Option Int) (L L' : List Pg) (a : Nat) (bs : List UInt8) : Prop where
  users : ∀ f, usersL L' f = usersL L f
  full : Full L'
  flat : ∀ x, fl L' g x = if a ≤ x ∧ x < a + bs.length then bs.getD (x - a) 0 else fl L g x
  other : ∀ k f, A k = some f → k.1 ≠ i0 → (pgAt L' f).bytes = (pgAt L f).bytes
  len : L'.length = L.length
theorem write_len (L : List Pg) (f b : Int) (bs : List UInt8) : (writeL L f b bs).length = L.length := by unfold writeL; split <;> simp
theorem wrote_one {i0 : Int} {g : Int → Option Int} {A : Key → Option Int} {L : List Pg} (hG : Good L A) (hg : ∀ q, g q = A (i0, q)) (hF : Full L) {p i m : Nat} {f : Int} (hf : g (p : Int) = some f) (hu : usersL L f = 1) (bs : List UInt8) (hm : bs.length = m) (him : i + m ≤ 64) :
    Wrote i0 g A L (writeL L f i bs) (64 * p + i) bs := by
  have hb := write_bytes (b := i) (bs := bs) hu (by omega)
  have hk : A (i0, (p : Int)) = some f := by rw [← hg, hf]
  refine ⟨write_users f i bs, fun q => ?_, fun x => ?_, fun k f2 hk2 hne => ?_, write_len _ _ _ _⟩
  · rw [hb]
    split
    · rw [putB_len (by rw [hF f]; omega), hF f]
    · exact hF q
  · unfold fl
    cases hx : g ((x / 64 : Nat) : Int) with
    | none =>
      have hxp : x / 64 ≠ p := fun e => by rw [e, hf] at hx; cases hx
      rw [if_neg (by omega)]
      rfl
    | some f2 =>
      rw [cont_some, cont_some, hb]
      by_cases e : f2 = f
      · rw [if_pos e]
        subst e
        have : (i0, ((x / 64 : Nat) : Int)) = (i0, (p : Int)) := hG.alone hk hu (by rw [← hg, hx])
        have hxp : x / 64 = p := by injection this; omega
        rw [putB_at _ _ _ _ (by rw [hF f2]; omega)]
        by_cases h2 : i ≤ x % 64 ∧ x % 64 < i + bs.length
        · rw [if_pos h2, if_pos (by omega), show x - (64 * p + i) = x % 64 - i by omega]
        · rw [if_neg h2, if_neg (by omega)]
      · rw [if_neg e]
        have hxp : x / 64 ≠ p := fun e2 => by rw [e2, hf] at hx; cases hx; exact e rfl
        rw [if_neg (by omega)]
  · rw [hb, if_neg]
    intro e
    have := hG.alone hk hu (by rw [hk2, e])
    rw [this] at hne
    exact hne rfl
theorem wrote_goP {i0 : Int} {S : PL} {A : Key → Option Int} (hg : ∀ q, S.g q = A (i0, q)) (k : Nat) : ∀ p i n L bs, i < 64 → n ≤ k → bs.length = n → Good L A → Full L → (∀ x ∈ goP k p i n, ∃ f, S.g (x.pg : Int) = some f ∧ usersL L f = 1) →
    Wrote i0 S.g A L ((goP k p i n).foldl (wstep S) (L, bs)).1 (64 * p + i) bs := by
  induction k with
  | zero =>
    intro p i n L bs hi hn hb hG hF hx
    obtain rfl : n = 0 := by omega
    have : bs = [] := List.eq_nil_of_length_eq_zero hb
    subst this
    refine ⟨fun _ => rfl, hF, fun x => ?_, fun _ _ _ _ => rfl, rfl⟩
    show fl L S.g x = _
    rw [if_neg (by simp only [List.length_nil]; omega)]
  | succ k ih =>
    intro p i n L bs hi hn hb hG hF hx
    rw [goP_succ] at hx ⊢
    by_cases h0 : n = 0
    · subst h0
      have : bs = [] := List.eq_nil_of_length_eq_zero hb
      subst this
      refine ⟨fun _ => rfl, hF, fun x => ?_, fun _ _ _ _ => rfl, rfl⟩
      show fl L S.g x = _
      rw [if_neg (by simp only [List.length_nil]; omega)]
    · rw [if_neg h0] at hx ⊢
      generalize hm : min n (64 - i) = m at hx ⊢
      obtain ⟨f, hf, hu⟩ := hx _ List.mem_cons_self
      simp only at hf
      have hfr : frameOf S ⟨p, i, m⟩ = f := by unfold frameOf; rw [hf]; rfl
      have w1 := wrote_one hG hg hF hf hu (bs.take m) (by rw [List.length_take]; omega) (show i + m ≤ 64 by omega)
      rw [List.foldl_cons]
      have e1 : wstep S (L, bs) ⟨p, i, m⟩ = (writeL L f i (bs.take m), bs.drop m) := by unfold wstep; rw [hfr]
      rw [e1]
      have w2 := ih (p + 1) 0 (n - m) (writeL L f i (bs.take m)) (bs.drop m) (by decide) (by omega) (by rw [List.length_drop]; omega) (hG.same w1.users) w1.full (fun x hxm => by
        obtain ⟨f2, a1, a2⟩ := hx x (List.mem_cons_of_mem _ hxm)
        exact ⟨f2, a1, by rw [w1.users]; exact a2⟩)
      refine ⟨fun q => (w2.users q).trans (w1.users q), w2.full, fun x => ?_, fun k f2 hk hne => (w2.other k f2 hk hne).trans (w1.other k f2 hk hne), w2.len.trans w1.len⟩
      rw [w2.flat, w1.flat]
      rw [List.length_drop, List.length_take]
      by_cases c1 : 64 * (p + 1) + 0 ≤ x ∧ x < 64 * (p + 1) + 0 + (bs.length - m)
      · rw [if_pos c1, if_pos (by omega)]
        simp only [List.getD_eq_getElem?_getD, List.getElem?_drop]
        rw [show m + (x - (64 * (p + 1) + 0)) = x - (64 * p + i) by omega]
      · rw [if_neg c1]
        by_cases c2 : 64 * p + i ≤ x ∧ x < 64 * p + i + min m bs.length
        · rw [if_pos c2, if_pos (by omega)]
          simp only [List.getD_eq_getElem?_getD, List.getElem?_take]
          rw [if_pos (by omega)]
        · rw [if_neg c2, if_neg (by omega)]
theorem wrote_all {i0 : Int} {S : PL} {A : Key → Option Int} (hg : ∀ q, S.g q = A (i0, q)) (t : Nat) (bs : List UInt8) (hG : Good S.L A) (hF : Full S.L) (hx : ∀ x ∈ partsL t bs.length, ∃ f, S.g (x.pg : Int) = some f ∧ usersL S.L f = 1) :
    Wrote i0 S.g A S.L (wAll S bs (partsL t bs.length)).1 t bs := by
  have := wrote_goP hg bs.length (t / 64) (t % 64) bs.length S.L bs (Nat.mod_lt _ (by decide)) (Nat.le_refl _) rfl hG hF hx
  rw [show 64 * (t / 64) + t % 64 = t by omega] at this
  exact this
theorem goP_pages (k : Nat) : ∀ p i n, (∀ x ∈ goP k p i n, p ≤ x.pg) ∧ ((goP k p i n).map Pt.pg).Nodup := by
  induction k with
  | zero => intro p i n; simp [goP]
  | succ k ih =>
    intro p i n
    rw [goP_succ]
    split
    · simp
    · obtain ⟨h1, h2⟩ := ih (p + 1) 0 (n - min n (64 - i))
      refine ⟨fun x hx => ?_, ?_⟩
      · rcases List.mem_cons.1 hx with rfl | hx
        · exact Nat.le_refl _
        · have := h1 x hx; omega
      · rw [List.map_cons, List.nodup_cons]
        refine ⟨fun hm => ?_, h2⟩
        obtain ⟨x, hx, e⟩ := List.mem_map.1 hm
        have := h1 x hx
        simp only at e
        omega
theorem parts_nodup (t n : Nat) : ((partsL t n).map Pt.pg).Nodup := (goP_pages n _ _ n).2
end Go.Proofs.Ytdddmjdlikjedaa

/-
  Write. No conditions but that the set is one that calls can make.
-/
namespace Go.Proofs.Ytdddmjdlikjedaa
open Go.ChangeShapes Go.WideShapes Go.ChangeAt Go.RowKit

theorem write_pool {w : World} {a : Nat} {F : Nat → Prop} {L : List Pg} (h : PoolAt w a F L) (f b : Int) (v : Value) (bs : List UInt8) (hv : Src w v bs) :
    Calls Try.prog 56 #[.pointer (some ⟨a, 0, none⟩), .int .i64 f, .int .i64 b, v] w fun e w' => (∃ x, e = .returned (.int .i64 x)) ∧ PoolAt w' a F (writeL L f b bs) ∧ Turn F w w' :=
  (write_any h f b v bs hv).mono fun _ _ hh => ⟨⟨_, hh.1⟩, hh.2⟩

section
variable {w : World} {s : Nat} {r : Rep} {M : Mod}
set_option maxRecDepth 20000 in
/-- One round: a part is written. -/
theorem write_round {wr : World} {S : PL} {bs : List UInt8} {vp v : Value} {ps : List Pt} {x : List Pg × List UInt8} {k a pb : Nat} {pg pat pn : Nat} {j : Int} {q : Ob}
    (h : WIn w wr s r M S bs vp ps v x k) (hp : ps[k]? = some ⟨pg, pat, pn⟩) (hpg : pg ≤ 4611686018427387904) (h0 : 0 < pn) (hA : r.A j = some a) (hB : r.B j = some pb) (hq : M.O j = some q) (hS : S.g = q.pgs) :
    ∃ u v2, (∀ w, Sem.run Try.prog (Instr.slice 22 v none (some (.int .i64 (pn : Int))) none) w = .ok u w) ∧ (∀ w, Sem.run Try.prog (Instr.slice 22 v (some (.int .i64 (pn : Int))) none none) w = .ok v2 w) ∧
      ∀ wx, Turn NoBlock wr wx → wx.cell? ⟨wr.heap.size, 0, none⟩ = some (.int .i64 (pg : Int)) → wx.cell? ⟨wr.heap.size, 1, none⟩ = some (.int .i64 (pat : Int)) → wx.cell? ⟨wr.heap.size, 2, none⟩ = some (.int .i64 (pn : Int)) →
        (wx.cell? ⟨s, 0, none⟩ = some (.pointer (some ⟨r.p, 0, none⟩)) ∧ wx.cell? ⟨a, 7, none⟩ = some (.map (some pb)) ∧ Sem.run Try.prog (Instr.lookup 94 (.map (some pb)) (.int .i64 (pg : Int)) false) wx = .ok (.int .i64 (frameOf S ⟨pg, pat, pn⟩)) wx) ∧
        Calls Try.prog 56 #[.pointer (some ⟨r.p, 0, none⟩), .int .i64 (frameOf S ⟨pg, pat, pn⟩), .int .i64 (pat : Int), u] wx fun e w5 => (∃ z, e = .returned (.int .i64 z)) ∧
          Hid (WIn w w5 s r M S bs vp ps v2 (wstep S x ⟨pg, pat, pn⟩) (k + 1)) ∧ w5.cell? ⟨s, 0, none⟩ = some (.pointer (some ⟨r.p, 0, none⟩)) ∧ w5.cell? ⟨a, 7, none⟩ = some (.map (some pb)) ∧
          Sem.run Try.prog (Instr.lookup 94 (.map (some pb)) (.int .i64 (pg : Int)) false) w5 = .ok (.int .i64 (frameOf S ⟨pg, pat, pn⟩)) w5 ∧
          w5.cell? ⟨wr.heap.size, 0, none⟩ = some (.int .i64 (pg : Int)) ∧ w5.cell? ⟨wr.heap.size, 1, none⟩ = some (.int .i64 (pat : Int)) ∧ w5.cell? ⟨wr.heap.size, 2, none⟩ = some (.int .i64 (pn : Int)) := by
  have hsum := h.sum
  rw [drop_sum hp] at hsum
  simp only at hsum
  obtain ⟨u, v2, e1, e2, f1, f2⟩ := h.src.cut pn h0 (by omega)
  refine ⟨u, v2, e1, e2, fun wx t c0 c1 c2 => ?_⟩
  have hfit : fit (pg : Int) := by unfold fit; omega
  have look : ∀ w1 L', SMem w1 s r (setL M L') → w1.cell? ⟨s, 0, none⟩ = some (.pointer (some ⟨r.p, 0, none⟩)) ∧ w1.cell? ⟨a, 7, none⟩ = some (.map (some pb)) ∧ Sem.run Try.prog (Instr.lookup 94 (.map (some pb)) (.int .i64 (pg : Int)) false) w1 = .ok (.int .i64 (frameOf S ⟨pg, pat, pn⟩)) w1 := fun w1 L' m1 => by
    obtain ⟨y, yt, hx1, hx2, hx3, hx4⟩ := m1.live (i := j) (o := q) hq
    rw [hA] at hx1
    rw [hB] at hx2
    cases hx1
    cases hx2
    refine ⟨m1.c0, (ocells hx3).c7, ?_⟩
    have := PMap.look1 hx4 (pg : Int) hfit
    unfold frameOf
    rw [hS]
    exact this
  have hx := h.mem.past t
  refine ⟨look wx x.1 hx, (write_pool hx.pool (frameOf S ⟨pg, pat, pn⟩) pat u (x.2.take pn) ((f1.next ⟨(t.mono (G := SFoot s r) (fun _ h => h.elim)), fun j hj => .inl hj⟩).src)).mono ?_⟩
  rintro e w5 ⟨⟨z, rfl⟩, hP, t5⟩
  have hW := h.step hp t hP t5 f2
  obtain ⟨y0, y7, yl⟩ := look w5 _ hW.mem
  have hn : ¬ r.FP wr.heap.size := fun hF => absurd (h.mem.pool.lt hF) (Nat.lt_irrefl _)
  exact ⟨⟨z, rfl⟩, hW, y0, y7, yl, t5.cell c0 hn, t5.cell c1 hn, t5.cell c2 hn⟩

set_option maxRecDepth 20000 in
set_option maxHeartbeats 4000000 in
theorem write8_ok (h : SMem w s r M) (hc : Chain M.O) (hmd : M.made < 4611686018427387904) {i : Int} {o : Ob} (hi : fit i) (hO : M.O i = some o) (hd : o.drp = false) (t : Nat) (v : Value) (bs : List UInt8) (hv : SrcF w s r v bs) (hn : bs.length ≤ 4096) (htn : t + bs.length ≤ o.size)
    {j : Int} {q : Ob} {t' : Nat} (hR : rootI M.O o.depth i (t : Int) = (j, (t' : Int))) (hq : M.O j = some q) (ht' : t' ≤ 1152921504606846976) (hf : Few M.L) (hcn : q.cnt ≤ 1152921504606846976) (hl : (lackN ⟨M.L, q.pgs, q.cnt⟩ (partsL t' bs.length) : Nat) ≤ roomN M.L) :
    Calls Try.prog 17 #[.pointer (some ⟨s, 0, none⟩), .int .i64 i, .int .i64 t, v] w fun e w' => e = .returned (.int .i64 0) ∧
      ∃ r', SMem w' s r' (setL (setM M j q (commitAll ⟨M.L, q.pgs, q.cnt⟩ (partsL t' bs.length))) (wAll (commitAll ⟨M.L, q.pgs, q.cnt⟩ (partsL t' bs.length)) bs (partsL t' bs.length)).1) ∧ VNext w s r w' r' := by
  obtain ⟨a, pb, hA, hB, hcell, hpm⟩ := h.live hO
  have c49 := find_yes h i hi hO hd hA
  have hsm := hc.small i o hO
  have c50 := fun w => within_yes (t : Int) (bs.length : Int) (o.size : Int) w (by omega) (by omega)
  have d0 := (ocells hcell).c0
  obtain ⟨a', pb', hA', hB', -, -⟩ := h.live hq
  have HBh := Lib.hid (fun w' (tt : Turn NoBlock w w') => show Calls Try.prog 53 #[.pointer (some ⟨s, 0, none⟩), .pointer (some ⟨a, 0, none⟩), .int .i64 (t : Int)] w' fun e w2 => e = .returned (.tuple #[.pointer (some ⟨a', 0, none⟩), .int .i64 (t' : Int)]) ∧ Turn NoBlock w w2 from (behind_any (h.past tt) hc hmd hO hA (t : Int) (by omega) (by have := hsm.2.2; omega)).mono fun e w2 hw => by
    obtain ⟨j', q', a2, k1, k2, k3, k4, k5, k6⟩ := hw
    rw [hR] at k4 k5
    simp only at k4
    subst k4
    rw [hA'] at k2
    cases k2
    obtain ⟨m, rfl⟩ := k6
    exact ⟨k5, tt.drewN m⟩)
  have HP := Lib.hid (fun w' (tt : Turn NoBlock w w') => (parts_any t' bs.length w' (by omega) hn).mono fun e w2 hw => by
    obtain ⟨v, k1, k2, k3, k4⟩ := hw
    obtain ⟨gp, cp, rfl⟩ := k2.shape
    exact (⟨gp, cp, k1, k2, tt.trans k3 (fun _ h => .inl h), fun j hj hF => by have h1 := k4 j hj; have h2 := h.lt hF; have h3 := tt.size; omega⟩ : ∃ gp cp, e = .returned (.slice gp (partsL t' bs.length).length cp) ∧ Parts (.slice gp (partsL t' bs.length).length cp) (partsL t' bs.length) w2 ∧ Turn NoBlock w w2 ∧ ∀ j, Blk (.slice gp (partsL t' bs.length).length cp) j → ¬ SFoot s r j))
  have hpl := Nat.le_trans (parts_len t' bs.length) hn
  have hpm2 := fun p (hp : p ∈ partsL t' bs.length) => parts_mem hp
  have hsum := parts_sum t' bs.length
  generalize hps : partsL t' bs.length = ps at *
  have HC := Lib.hid (fun w' (tt : Turn NoBlock w w') u (hu : Parts u ps w') (hf2 : ∀ j, Blk u j → ¬ SFoot s r j) =>
    (commit_yes (h.past tt) hq hA' hB' hu hpl (fun p hp => by have := (hpm2 p hp).1; omega) hl hf2 hf hcn).mono fun e w2 hw => by
      obtain ⟨k1, F, k2⟩ := hw
      have nx : VNext w s r w2 { r with FP := F } := ⟨(tt.mono (G := SFoot s r) (fun _ h => h.elim)).trans k2.next.turn (fun j hj => .inl hj), fun j hj => (k2.next.foot j hj).imp id (fun h => Nat.le_trans tt.size h)⟩
      exact (⟨k1, F, nx, ⟨rfl, k2.mem, k2.parts, k2.apart, hv.next nx, by simp [hsum], Turn.refl _ _⟩⟩ : e = .returned (.int .i64 0) ∧ ∃ F, VNext w s r w2 { r with FP := F } ∧ WIn w2 w2 s { r with FP := F } (setM M j q (commitAll ⟨M.L, q.pgs, q.cnt⟩ ps)) (commitAll ⟨M.L, q.pgs, q.cnt⟩ ps) bs u ps v ((commitAll ⟨M.L, q.pgs, q.cnt⟩ ps).L, bs) 0))
  obtain ⟨pv, cv, rfl⟩ := hv.len
  have hn1 : ¬ (4096 : Int) < (bs.length : Int) := by omega
  have HG := Lib.hid (And.intro hA' (And.intro hB' (And.intro hpl hpm2)))
  have hps2 : (ps.length : Int) ≤ 4096 := by omega
  have HT0 := Lib.hid (Turn.refl NoBlock w)
  have Ht' := Lib.hid (And.intro ht' hn)
  generalize hCS : commitAll ⟨M.L, q.pgs, q.cnt⟩ ps = CS at *
  clear h hc hmd hi hO hd hn htn hR hq ht' hA hB hcell hpm hsm hv hf hcn hl hA' hB' hpl hpm2 hsum hps
  go_enter Try.func17, Try.ntmps17
  go_wp2_with (first
    | (go_at_call 51; (with_reducible refine c49.mono ?_); rintro e w1 ⟨rfl, rfl⟩)
    | (go_at_call 52; (with_reducible refine (c50 _).mono ?_); rintro e w1 ⟨rfl, rfl⟩)
    | (go_at_call 55; (with_reducible refine (HC.out _ K3.out.2.1 _ K3.out.1 K3.out.2.2).mono ?_); rintro e w4 ⟨rfl, F, k1, k2⟩; have K4 := Lib.hid (And.intro k1 k2); clear k1 k2)
    | (go_at_call 54; (with_reducible refine (HP.out _ T2).mono ?_); rintro e w3 ⟨gp, cp, rfl, k1, k2, k3⟩; have K3 := Lib.hid (And.intro k1 (And.intro k2 k3)); clear k1 k2 k3)
    | (go_at_call 53; (with_reducible refine (HBh.out _ HT0.out).mono ?_); rintro e w2 ⟨rfl, T2⟩))
  have HQ := Lib.hid (show (setM M j q CS).O j = some { q with pgs := CS.g, cnt := CS.c } from updI_same _ _ _)
  go_loopg [3, 56] ps.length (fun g s3 s56 wr => ∃ (k : Nat) (x : List Pg × List UInt8), g = ps.length - k ∧ k ≤ ps.length ∧ s56 = .int .i64 k ∧ Hid (WIn w4 wr s { r with FP := F } (setM M j q CS) CS bs (.slice gp ps.length cp) ps s3 x k))
  case atStart => exact ⟨0, _, rfl, by omega, rfl, K4.out.2⟩
  case round =>
    obtain ⟨k, x, hg, hk, rfl, HA⟩ := hrel
    by_cases hlt : k < ps.length
    · obtain ⟨p, hp⟩ : ∃ p, ps[k]? = some p := ⟨_, List.getElem?_eq_getElem hlt⟩
      obtain ⟨gb, cb, he, hkl, e0, e1, e2⟩ := HA.out.parts.at hp
      simp only [Value.slice.injEq] at he
      obtain ⟨rfl, -, rfl⟩ := he
      have hpm := HG.out.2.2.2 p (List.mem_of_getElem? hp)
      have hklI : (k : Int) < (ps.length : Int) := by omega
      have hslt := HA.out.mem.lt (.inl rfl)
      have halt := HA.out.mem.lt (.inr (.inr (.inr (.inl ⟨j, HG.out.1⟩))) : SFoot s { r with FP := F } a')
      obtain ⟨pg, pat, pn⟩ := p
      simp only at e0 e1 e2 hpm
      obtain ⟨u, v2, z1, z2, hR⟩ := write_round HA.out hp (by have := Ht'.out; have := hpm.1; omega) hpm.2.2 (a := a') (pb := pb') HG.out.1 HG.out.2.1 HQ.out rfl
      have HR := Lib.hid hR
      generalize frameOf CS ⟨pg, pat, pn⟩ = fr at *
      generalize hCo : (Obj.cells #[.int .i64 (pg : Int), .int .i64 (pat : Int), .int .i64 (pn : Int)] 105 : Obj) = ob at *
      have TW : ∀ m, Turn NoBlock wr ((wr.alloc ob).drewN m) := fun m => ((Turn.refl _ _).alloc _).drewN m
      have X0 : ∀ m, ((wr.alloc ob).drewN m).cell? ⟨wr.heap.size, 0, none⟩ = some (.int .i64 (pg : Int)) := fun m => by rw [← hCo]; exact cell_at (heap_alloc_new wr _) 0
      have X1 : ∀ m, ((wr.alloc ob).drewN m).cell? ⟨wr.heap.size, 1, none⟩ = some (.int .i64 (pat : Int)) := fun m => by rw [← hCo]; exact cell_at (heap_alloc_new wr _) 1
      have X2 : ∀ m, ((wr.alloc ob).drewN m).cell? ⟨wr.heap.size, 2, none⟩ = some (.int .i64 (pn : Int)) := fun m => by rw [← hCo]; exact cell_at (heap_alloc_new wr _) 2
      have Y := fun m => (hR _ (TW m) (X0 m) (X1 m) (X2 m)).1
      have Y0 := fun m => (Y m).1
      have Y7 := fun m => (Y m).2.1
      have YL := fun m => (Y m).2.2
      have HY := Lib.hid (And.intro TW (And.intro X0 (And.intro X1 X2)))
      clear Y hR hpm hp hkl
      subst hCo
      go_wp2_with fail
      go_region_held3 (fun w' => w'.cell? ⟨s, 0, none⟩ = some (.pointer (some ⟨r.p, 0, none⟩)) ∧ w'.cell? ⟨a', 7, none⟩ = some (.map (some pb')) ∧ w'.cell? ⟨wr.heap.size, 0, none⟩ = some (.int .i64 (pg : Int)) ∧ w'.cell? ⟨wr.heap.size, 1, none⟩ = some (.int .i64 (pat : Int)) ∧ w'.cell? ⟨wr.heap.size, 2, none⟩ = some (.int .i64 (pn : Int)) ∧ Sem.run Try.prog (Instr.lookup 94 (.map (some pb')) (.int .i64 (pg : Int)) false) w' = .ok (.int .i64 fr) w') ((refine ⟨?_, ?_, ?_, ?_, ?_, ?_⟩ <;> (first | assumption | exact Y0 1 | exact Y7 1 | exact X0 1 | exact X1 1 | exact X2 1 | exact YL 1)))
        (first
          | (go_at_call 56; (refine (HR.out _ (TW 1) (X0 1) (X1 1) (X2 1)).2.mono ?_); rintro e w5 ⟨⟨z5, rfl⟩, K5, y0, y7, yl, x0, x1, x2⟩))
      all_goals
        go_wp2
        go_roundg (ps.length - (k + 1))
        case measure => omega
        case rel => exact ⟨k + 1, _, rfl, by omega, by go_num, K5.out⟩
    · obtain rfl : k = ps.length := by omega
      go_wp2
      go_ret
      have hx := HA.out.eq
      rw [List.take_of_length_le (Nat.le_refl _)] at hx
      rw [← hx]
      exact ⟨rfl, _, HA.out.mem, ⟨K4.out.1.turn.trans HA.out.turn (fun j hj => K4.out.1.foot j hj), K4.out.1.foot⟩⟩
end
end Go.Proofs.Ytdddmjdlikjedaa

/-
  Read of a range that is within: the walk. No conditions but that the set is one that calls can make.
-/
namespace Go.Proofs.Ytdddmjdlikjedaa
open Go.ChangeShapes Go.WideShapes Go.ChangeAt Go.RowKit

theorem byts_news {w : World} {v : Value} {bs : List UInt8} {m : Nat} (h : Byts v bs w) (hl : bs.length = m) (hm : 0 < m) : ∃ g c, v = .slice (some ⟨g, 0, none⟩) m c ∧ g < w.heap.size ∧ ∀ j u, (bcells bs)[j]? = some u → w.cell? ((⟨g, 0, none⟩ : Addr).add j) = some u := by
  subst hl
  obtain ⟨g, c, rfl, -, -⟩ := own_shape h hm
  unfold Byts at h
  refine ⟨g, c, rfl, ?_, fun j u hu => ?_⟩
  · obtain ⟨cur, hb⟩ := own_block h (k := g) rfl
    exact lt_of_block hb
  · have hj : j < bs.length := by
      have := (List.getElem?_eq_some_iff.1 hu).1
      rwa [bcells_len] at this
    rw [add_plain, Nat.zero_add, h.cellAt j (by omega), hu]
section
variable {w : World} {s : Nat} {r : Rep} {M : Mod}
set_option maxRecDepth 20000 in
set_option maxHeartbeats 4000000 in
theorem read8_ok (h : SMem w s r M) (hc : Chain M.O) (hh : Held M) (hmd : M.made < 4611686018427387904) {i : Int} {o : Ob} (hi : fit i) (hO : M.O i = some o) (hd : o.drp = false) (t n : Nat) (hn : n ≤ 4096) (htn : t + n ≤ o.size)
    {j : Int} {q : Ob} {t' : Nat} (hR : rootI M.O o.depth i (t : Int) = (j, (t' : Int))) (hq : M.O j = some q) (ht' : t' ≤ 1152921504606846976) :
    Calls Try.prog 18 #[.pointer (some ⟨s, 0, none⟩), .int .i64 i, .int .i64 t, .int .i64 n] w fun e w' => ∃ u, e = .returned (.tuple #[u, .int .i64 0]) ∧ Byts u (readAll ⟨M.L, q.pgs, q.cnt⟩ t' n) w' ∧ (∀ j, Blk u j → w.heap.size ≤ j) ∧ Turn NoBlock w w' := by
  obtain ⟨iv, hi5, hz0, hz1, hz2⟩ := info_parts info5
  obtain ⟨a, pb, hA, hB, hcell, hpm⟩ := h.live hO
  have c49 := find_yes h i hi hO hd hA
  have hsm := hc.small i o hO
  have c50 := fun w => within_yes (t : Int) (n : Int) (o.size : Int) w (by omega) (by omega)
  have d0 := (ocells hcell).c0
  have HBh := Lib.hid (fun w' (tt : Turn NoBlock w w') => show Calls Try.prog 53 #[.pointer (some ⟨s, 0, none⟩), .pointer (some ⟨a, 0, none⟩), .int .i64 (t : Int)] w' fun e w2 => ∃ a', r.A j = some a' ∧ e = .returned (.tuple #[.pointer (some ⟨a', 0, none⟩), .int .i64 (t' : Int)]) ∧ Turn NoBlock w w2 from (behind_any (h.past tt) hc hmd hO hA (t : Int) (by omega) (by have := hsm.2.2; omega)).mono fun e w2 hw => by
    obtain ⟨j', q', a', k1, k2, k3, k4, k5, k6⟩ := hw
    rw [hR] at k4 k5
    simp only at k4
    subst k4
    rw [hq] at k1
    cases k1
    obtain ⟨m, rfl⟩ := k6
    exact ⟨a', k2, k5, tt.drewN m⟩)
  have HP := Lib.hid (fun w' (tt : Turn NoBlock w w') => (parts_any t' n w' (by omega) hn).mono fun e w2 hw => by
    obtain ⟨v, k1, k2, k3, k4⟩ := hw
    obtain ⟨gp, cp, rfl⟩ := k2.shape
    exact (⟨gp, cp, k1, k2, k3⟩ : ∃ gp cp, e = .returned (.slice gp (partsL t' n).length cp) ∧ Parts (.slice gp (partsL t' n).length cp) (partsL t' n) w2 ∧ Turn NoBlock w' w2))
  have HBy := Lib.hid (fun w' (tt : Turn NoBlock w w') a' (hA' : r.A j = some a') p (hp : p ∈ partsL t' n) => by
    obtain ⟨x, pb', hx1, hx2, -, -⟩ := h.live hq
    rw [hA'] at hx1
    cases hx1
    have hm := parts_mem hp
    exact bytes8_any (h.past tt) hq hA' hx2 p (by omega) hm.2.1 (fun z f hz => hh j q z f hq hz))
  have HBl := Lib.hid (fun p (hp : p ∈ partsL t' n) => byteL_len (S := ⟨M.L, q.pgs, q.cnt⟩) h.pool p (parts_mem hp).2.1)
  have q1 : iv.bytes * n ≤ 281474976710656 := by rw [hz2]; omega
  have q2 : n ≤ maxLen := by unfold maxLen; omega
  have hn0 : ¬ (n : Int) < 0 := by omega
  have hn1 : ¬ (4096 : Int) < (n : Int) := by omega
  have hPl := Lib.hid (Nat.le_trans (parts_len t' n) hn)
  have hPm := Lib.hid (fun p (hp : p ∈ partsL t' n) => (parts_mem hp).2)
  unfold readAll
  generalize partsL t' n = ps at *
  have hps2 : (ps.length : Int) ≤ 4096 := by have := hPl.out; omega
  have HT0 := Lib.hid (Turn.refl NoBlock w)
  generalize hS : (⟨M.L, q.pgs, q.cnt⟩ : PL) = S at *
  clear h hc hh hmd hi hO hd hn htn hR hq ht' hA hB hcell hpm hsm hS
  go_enter Try.func18, Try.ntmps18
  go_wp2_with (first
    | (go_at_call 51; (with_reducible refine c49.mono ?_); rintro e w1 ⟨rfl, rfl⟩)
    | (go_at_call 52; (with_reducible refine (c50 _).mono ?_); rintro e w1 ⟨rfl, rfl⟩)
    | (go_at_call 54; (with_reducible refine (HP.out _ (by assumption)).mono ?_); rintro e w3 ⟨gp, cp, rfl, k2, k3⟩; have K3 := Lib.hid (And.intro k2 k3); clear k2 k3)
    | (go_at_call 53; (with_reducible refine (HBh.out _ HT0.out).mono ?_); rintro e w2 ⟨a', hA', rfl, T2⟩; have HA' := Lib.hid hA'; clear hA')
    | (at_make; refine wpList_make_own _ rfl _ _ 22 rfl 0 5 iv _ 1 bytes31 hi5 hz0 hz1 .i64 .i64 _ n rfl rfl rfl q1 q2 (Nat.zero_le _) ?_; intro w4 hown hgrow; have T4 : Turn NoBlock w w4 := T2.grown hgrow (fun k e => by cases e); have K4 := Lib.hid (And.intro hown (And.intro hgrow T2)); clear hown hgrow T2))
  go_loopg [12, 51] ps.length (fun g s12 s51 wr => ∃ (k : Nat) (acc : List UInt8) (gu : Option Addr) (N cu : Nat), g = ps.length - k ∧ k ≤ ps.length ∧ s12 = .slice gu N cu ∧ s51 = .int .i64 k ∧ Hid (RIn w wr S (.slice gp ps.length cp) ps (.slice gu N cu) acc k ∧ acc.length = N))
  case atStart =>
    obtain ⟨k1, k2, k3⟩ := K4.out
    obtain ⟨k4, k5⟩ := K3.out
    refine ⟨0, [], _, 0, n, rfl, by omega, rfl, rfl, ⟨⟨k4, (show Byts _ [] _ from k5.own k1 (fun _ _ h => h)), rfl, T4.trans k5 (fun _ h => .inl h), fun j hj => ?_, by simp⟩, rfl⟩⟩
    simp [Blk, Value.ownBlock] at hj
    have := k3.size
    omega
  case round =>
    obtain ⟨k, acc, gu, N, cu, hg, hk, rfl, rfl, HA⟩ := hrel
    by_cases hlt : k < ps.length
    · obtain ⟨p, hp⟩ : ∃ p, ps[k]? = some p := ⟨_, List.getElem?_eq_getElem hlt⟩
      obtain ⟨gb, cb, he, hkl, e0, e1, e2⟩ := HA.out.1.parts.at hp
      simp only [Value.slice.injEq] at he
      obtain ⟨rfl, -, rfl⟩ := he
      have hpm := hPm.out p (List.mem_of_getElem? hp)
      have hbl := HBl.out p (List.mem_of_getElem? hp)
      have hklI : (k : Int) < (ps.length : Int) := by omega
      have hacc := HA.out.1.len
      rw [HA.out.2] at hacc
      have hpl := hPl.out
      have ta : ∀ ob, Turn NoBlock wr (wr.alloc ob) := fun ob => (Turn.refl NoBlock wr).alloc ob
      have cB := fun ob => HBy.out _ (HA.out.1.turn.trans (ta ob) (fun _ h => .inl h)) a' HA'.out p (List.mem_of_getElem? hp)
      have HO := Lib.hid (fun ob w5 (t5 : Turn NoBlock (wr.alloc ob) w5) => show w5.ownsRow 0 5 1 (.slice gu N cu) N (bcells acc) from by
        have := (ta ob).trans t5 (fun _ h => .inl h) |>.own HA.out.1.own (fun _ _ h => h)
        rwa [HA.out.2] at this)
      have hvu : ∀ j, Blk (.slice (some ⟨gb, 0, none⟩) ps.length cp) j → ¬ Blk (.slice gu N cu) j := fun j h1 h2 => ne_own2 HA.out.1.parts HA.out.1.own (by decide) h1 h2
      have HPs := Lib.hid (fun (wx w1 : World) (t : Turn NoBlock wr wx) g c (hown : w1.ownsRow 0 5 1 (.slice (some ⟨g, 0, none⟩) (N + (byteL S p).length) c) (N + (byteL S p).length) (bcells acc ++ bcells (byteL S p))) hgrow hat =>
        RIn.push (w1 := w1) (g := g) (c := c) HA.out.1 t hp hvu rfl (by rw [hbl]; omega) HA.out.2 hown hgrow hat)
      obtain ⟨pg, pat, pn⟩ := p
      simp only [ptV] at e0 e1 e2 hpm hbl cB
      generalize hbs : byteL S ⟨pg, pat, pn⟩ = bs at *
      rw [hbl] at HPs
      have q3 : N + pn ≤ maxLen := by unfold maxLen; omega
      have q4 : (N + pn) * 1 ≤ 140737488355328 := by omega
      have HB2 := Lib.hid (And.intro hbl hpm.2)
      have HQ := Lib.hid (And.intro q3 q4)
      clear hvu hpm hbl hacc hpl hp hkl ta q3 q4 hbs
      go_wp2_with (first
        | (go_at_call 57; (with_reducible refine (cB _).mono ?_); rintro e w5 ⟨v5, rfl, hb5, hf5, t5⟩; obtain ⟨g5, c5, rfl, hg5, hn5⟩ := byts_news hb5 HB2.out.1 HB2.out.2; have KT := Lib.hid t5; have KB := Lib.hid (And.intro hb5 hn5); clear t5 hb5 hf5 hn5)
        | (at_builtin; refine wpList_append_lies _ rfl (.tmp 55) (.tmp 59) 22 rfl 0 5 iv _ 1 1 bytes31 hi5 hz0 hz1 hz2 rfl (by decide) (.slice gu N cu) N (bcells acc) rfl (HO.out _ _ KT.out) ⟨g5, 0, none⟩ pn c5 (bcells bs) rfl (by rw [bcells_len, HB2.out.1, Nat.mul_one]) KB.out.2 (bcells_one _) HB2.out.2 HQ.out.1 HQ.out.2 (Nat.zero_le _) _ rfl ?_; intro g6 c6 w6 hown hgrow hat hlt6; have K6 := Lib.hid (HPs.out _ w6 (((Turn.refl NoBlock wr).alloc _).trans KT.out (fun _ h => .inl h)) g6 c6 hown hgrow hat); clear hown hgrow hat))
      go_roundg (ps.length - (k + 1))
      case measure => omega
      case rel => exact ⟨k + 1, acc ++ bs, _, N + pn, c6, rfl, by omega, rfl, by go_num, ⟨K6.out, by rw [List.length_append, HA.out.2, HB2.out.1]⟩⟩
    · obtain rfl : k = ps.length := by omega
      go_wp2
      go_ret2
      obtain ⟨h1, h2⟩ := HA.out
      have e := h1.eq
      rw [List.take_of_length_le (Nat.le_refl _)] at e
      exact ⟨_, rfl, e ▸ h1.own, h1.fresh, h1.turn⟩
end
end Go.Proofs.Ytdddmjdlikjedaa

/-
  Info. No conditions but that the set is one that calls can make.
-/
namespace Go.Proofs.Ytdddmjdlikjedaa
open Go.ChangeShapes Go.WideShapes Go.ChangeAt Go.RowKit

section
variable {w : World} {s : Nat} {r : Rep} {M : Mod}
theorem info_no (h : SMem w s r M) (i : Int) (hi : fit i) (hO : M.O i = none) :
    Calls Try.prog 25 #[.pointer (some ⟨s, 0, none⟩), .int .i64 i] w fun e w' => e = .returned (.tuple #[.agg #[.int .i64 0, .int .i64 0, .int .i64 0, .int .i64 0, .bool false, .bool false], .bool false]) ∧ Turn NoBlock w w' := by
  have t1 : ∀ o, Turn NoBlock w (w.alloc o) := fun o => (Turn.refl NoBlock w).alloc o
  have l1 := fun o => (h.past (t1 o)).omap.look i hi
  rw [h.dead hO] at l1
  unfold ptrOf at l1
  have d3 := h.c3
  have hs := h.lt (.inl rfl)
  clear h hO t1
  go_enter Try.func25, Try.ntmps25
  go_wp2
  (try simp only [Exit.inBlock, Exit.then])
  refine bodyPost_ret (v := .tuple #[.agg #[.int .i64 0, .int .i64 0, .int .i64 0, .int .i64 0, .bool false, .bool false], .bool false]) (by rw [results_cell_tmp rfl]; go_simp) rfl ⟨rfl, ?_⟩
  repeat' (first | exact Turn.refl _ _ | refine Turn.drew ?_ | refine Turn.alloc ?_ _ | refine Turn.setCell ?_ (.inr (by simp)) _)
def InfoOf (o : Ob) : Value := .agg #[.int .i64 (o.size : Int), .int .i64 (o.par : Int), .int .i64 (o.kids : Int), .int .i64 (o.cnt : Int), .bool (decide (0 < o.depth)), .bool o.drp]
set_option maxRecDepth 20000 in
theorem info_yes (h : SMem w s r M) (i : Int) (hi : fit i) {o : Ob} (hO : M.O i = some o) :
    Calls Try.prog 25 #[.pointer (some ⟨s, 0, none⟩), .int .i64 i] w fun e w' => e = .returned (.tuple #[InfoOf o, .bool true]) ∧ Turn NoBlock w w' := by
  obtain ⟨a, pb, ha, hb, hc, hp⟩ := h.live hO
  have t1 : ∀ o, Turn NoBlock w (w.alloc o) := fun o => (Turn.refl NoBlock w).alloc o
  have l1 := fun o => (h.past (t1 o)).omap.look i hi
  rw [ha] at l1
  unfold ptrOf at l1
  have d3 := h.c3
  have g := ocells hc
  have d0 := g.c0
  have d1 := g.c1
  have d2 := g.c2
  have d4 := g.c4
  have d6 := g.c6
  have d7 := g.c7
  have ll := fun o ty => PMap.len (IMap.past hp (t1 o) (fun h => h)) ty
  have ld := fun o ty => PMap.len (IMap.past hp ((t1 o).drew) (fun h => h)) ty
  have hs := h.lt (.inl rfl)
  have halt : a < w.heap.size := lt_of_block hc
  clear h hO ha hb hc hp g t1
  go_enter Try.func25, Try.ntmps25
  go_wp2
  go_region
  all_goals
    go_wp2
    (try simp only [Exit.inBlock, Exit.then])
    refine bodyPost_ret (v := .tuple #[InfoOf o, .bool true]) (by rw [results_cell_tmp rfl]; unfold InfoOf; go_simp) rfl ⟨rfl, ?_⟩
    repeat' (first | exact Turn.refl _ _ | refine Turn.drew ?_ | refine Turn.alloc ?_ _ | refine Turn.setCell ?_ (.inr (by simp)) _)
end
end Go.Proofs.Ytdddmjdlikjedaa

/-
  window, Slice, and Snapshot of a slice. No conditions but that the set is one that calls can make.
-/
namespace Go.Proofs.Ytdddmjdlikjedaa
open Go.ChangeShapes Go.WideShapes Go.ChangeAt Go.RowKit

def winS (M : Mod) (i t n : Int) : Int := if findS M i ≠ 0 then -25 else if t < 0 ∨ n < 0 ∨ ¬ t % 64 = 0 ∨ ¬ n % 64 = 0 then -10 else match M.O i with | none => 0 | some o => if t + n ≤ (o.size : Int) then 0 else -14
section
variable {w : World} {s : Nat} {r : Rep} {M : Mod}
theorem find_ok {i : Int} (h : findS M i = 0) : ∃ o, M.O i = some o ∧ o.drp = false := by
  unfold findS at h
  cases hO : M.O i with
  | none => rw [hO] at h; simp at h
  | some o =>
    rw [hO] at h
    refine ⟨o, rfl, ?_⟩
    cases hd : o.drp with
    | false => rfl
    | true => simp [hd] at h
theorem find_of {i : Int} {o : Ob} (hO : M.O i = some o) (hd : o.drp = false) : findS M i = 0 := by unfold findS; rw [hO]; simp [hd]

set_option maxRecDepth 20000 in
theorem window_no (h : SMem w s r M) (hc : Chain M.O) (i t n : Int) (hi : fit i) (ht : fit t) (hn : fit n) (hs : winS M i t n ≠ 0) :
    Calls Try.prog 58 #[.pointer (some ⟨s, 0, none⟩), .int .i64 i, .int .i64 t, .int .i64 n] w fun e w' => e = .returned (.tuple #[.pointer none, .int .i64 (winS M i t n)]) ∧ w = w' := by
  unfold winS at *
  by_cases h1 : findS M i ≠ 0
  · rw [if_pos h1]
    have c := find_no h i hi h1
    clear h hs h1 hc
    go_enter Try.func58, Try.ntmps58
    go_wp2_with (go_at_call 51; (with_reducible refine c.mono ?_); rintro x w1 ⟨rfl, rfl⟩)
    go_ret2
    exact ⟨rfl, rfl⟩
  · rw [if_neg h1] at hs ⊢
    obtain ⟨o, hO, hd⟩ := find_ok (Classical.not_not.1 h1)
    obtain ⟨a, pb, hA, hB, hcell, hpm⟩ := h.live hO
    have c := find_yes h i hi hO hd hA
    have cw := fun w => whole_any t n w
    by_cases h2 : t < 0 ∨ n < 0 ∨ ¬ t % 64 = 0 ∨ ¬ n % 64 = 0
    · rw [if_pos h2]
      clear h hs h1 hc hO hA hB hcell hpm hd
      have hcs : (t < 0 ∧ t ≤ n) ∨ (n < 0 ∧ ¬ t ≤ n) ∨ (n < 0 ∧ t ≤ n ∧ t < 0) ∨ (0 ≤ t ∧ 0 ≤ n ∧ (decide (t % 64 = 0) && decide (n % 64 = 0)) = false) := by
        by_cases ha : t < 0
        · by_cases hb : t ≤ n
          · exact .inl ⟨ha, hb⟩
          · exact .inr (.inl ⟨by omega, hb⟩)
        · by_cases hb : n < 0
          · exact .inr (.inl ⟨hb, by omega⟩)
          · refine .inr (.inr (.inr ⟨by omega, by omega, ?_⟩))
            rcases h2 with h2 | h2 | h2 | h2
            · omega
            · omega
            · rw [decide_eq_false h2, Bool.false_and]
            · rw [decide_eq_false h2, Bool.and_false]
      clear h2
      rcases hcs with ⟨k1, k2⟩ | ⟨k1, k2⟩ | ⟨k1, k2, k3⟩ | ⟨k1, k2, k3⟩
      · go_enter Try.func58, Try.ntmps58
        go_wp2_with (first | (go_at_call 51; (with_reducible refine c.mono ?_); rintro x w1 ⟨rfl, rfl⟩))
        all_goals
          go_ret2
          exact ⟨rfl, rfl⟩
      · go_enter Try.func58, Try.ntmps58
        go_wp2_with (first | (go_at_call 51; (with_reducible refine c.mono ?_); rintro x w1 ⟨rfl, rfl⟩))
        all_goals
          go_ret2
          exact ⟨rfl, rfl⟩
      · go_enter Try.func58, Try.ntmps58
        go_wp2_with (first | (go_at_call 51; (with_reducible refine c.mono ?_); rintro x w1 ⟨rfl, rfl⟩))
        all_goals
          go_ret2
          exact ⟨rfl, rfl⟩
      · generalize (decide (t % 64 = 0) && decide (n % 64 = 0)) = b at *
        subst k3
        have k4 : ¬ t < 0 := by omega
        have k5 : ¬ n < 0 := by omega
        by_cases k6 : t ≤ n
        all_goals
          go_enter Try.func58, Try.ntmps58
          go_wp2_with (first | (go_at_call 51; (with_reducible refine c.mono ?_); rintro x w1 ⟨rfl, rfl⟩) | (go_at_call 63; (with_reducible refine (cw _).mono ?_); rintro x w1 ⟨rfl, rfl⟩))
          all_goals
            go_ret2
            exact ⟨rfl, rfl⟩
    · rw [if_neg h2] at hs ⊢
      rw [hO] at hs ⊢
      simp only at hs ⊢
      by_cases h3 : t + n ≤ (o.size : Int)
      · rw [if_pos h3] at hs; exact absurd rfl hs
      rw [if_neg h3]
      have hsm := hc.small i o hO
      have c50 := fun w => within_no t n (o.size : Int) w (by omega) ht hn (by unfold fit; omega)
      have d0 := (ocells hcell).c0
      have hw : (decide (t % 64 = 0) && decide (n % 64 = 0)) = true := by
        rw [decide_eq_true (by omega), decide_eq_true (by omega)]; rfl
      have k4 : ¬ t < 0 := by omega
      have k5 : ¬ n < 0 := by omega
      clear h hs h1 h2 h3 hc hO hA hB hcell hpm hd hsm
      generalize (decide (t % 64 = 0) && decide (n % 64 = 0)) = b at *
      subst hw
      by_cases k6 : t ≤ n
      all_goals
        go_enter Try.func58, Try.ntmps58
        go_wp2_with (first | (go_at_call 51; (with_reducible refine c.mono ?_); rintro x w1 ⟨rfl, rfl⟩) | (go_at_call 63; (with_reducible refine (cw _).mono ?_); rintro x w1 ⟨rfl, rfl⟩) | (go_at_call 52; (with_reducible refine (c50 _).mono ?_); rintro x w1 ⟨rfl, rfl⟩))
        all_goals
          go_ret2
          exact ⟨rfl, rfl⟩
set_option maxRecDepth 20000 in
theorem window_yes (h : SMem w s r M) (hc : Chain M.O) (i t n : Int) (hi : fit i) {o : Ob} {a : Nat} (hO : M.O i = some o) (hA : r.A i = some a) (hs : winS M i t n = 0) :
    Calls Try.prog 58 #[.pointer (some ⟨s, 0, none⟩), .int .i64 i, .int .i64 t, .int .i64 n] w fun e w' => e = .returned (.tuple #[.pointer (some ⟨a, 0, none⟩), .int .i64 0]) ∧ w = w' := by
  unfold winS at hs
  by_cases h1 : findS M i ≠ 0
  · rw [if_pos h1] at hs; simp at hs
  rw [if_neg h1] at hs
  obtain ⟨o', hO', hd⟩ := find_ok (Classical.not_not.1 h1)
  rw [hO] at hO'
  cases hO'
  by_cases h2 : t < 0 ∨ n < 0 ∨ ¬ t % 64 = 0 ∨ ¬ n % 64 = 0
  · rw [if_pos h2] at hs; simp at hs
  rw [if_neg h2, hO] at hs
  simp only at hs
  have h3 : t + n ≤ (o.size : Int) := by
    by_cases h3 : t + n ≤ (o.size : Int)
    · exact h3
    · rw [if_neg h3] at hs; simp at hs
  obtain ⟨a', pb, hA', hB, hcell, hpm⟩ := h.live hO
  rw [hA] at hA'
  cases hA'
  have c := find_yes h i hi hO hd hA
  have cw := fun w => whole_any t n w
  have hsm := hc.small i o hO
  have c50 := fun w => within_yes t n (o.size : Int) w (by omega) (by omega)
  have d0 := (ocells hcell).c0
  have hw : (decide (t % 64 = 0) && decide (n % 64 = 0)) = true := by
    rw [decide_eq_true (by omega), decide_eq_true (by omega)]; rfl
  have k4 : ¬ t < 0 := by omega
  have k5 : ¬ n < 0 := by omega
  clear h hs h1 h2 h3 hc hO hA hB hcell hpm hd hsm
  generalize (decide (t % 64 = 0) && decide (n % 64 = 0)) = b at *
  subst hw
  by_cases k6 : t ≤ n
  all_goals
    go_enter Try.func58, Try.ntmps58
    go_wp2_with (first | (go_at_call 51; (with_reducible refine c.mono ?_); rintro x w1 ⟨rfl, rfl⟩) | (go_at_call 63; (with_reducible refine (cw _).mono ?_); rintro x w1 ⟨rfl, rfl⟩) | (go_at_call 52; (with_reducible refine (c50 _).mono ?_); rintro x w1 ⟨rfl, rfl⟩))
    all_goals
      go_ret2
      exact ⟨rfl, rfl⟩
end
end Go.Proofs.Ytdddmjdlikjedaa

/-
  Slice, and Snapshot where it is refused. No conditions but that the set is one that calls can make.
-/
namespace Go.Proofs.Ytdddmjdlikjedaa
open Go.ChangeShapes Go.WideShapes Go.ChangeAt Go.RowKit

def sliceS (M : Mod) (i t n : Int) : Int := if winS M i t n ≠ 0 then winS M i t n else match M.O i with | none => 0 | some o => if o.depth = 16 then -2 else if M.most ≤ M.live then -4 else 0
def kid (o : Ob) : Ob := { o with kids := o.kids + 1 }
def kidS (o : Ob) : Ob := { o with kids := o.kids + 1, slc := o.slc + 1 }
def sliceM (M : Mod) (i : Int) (o : Ob) (t n : Int) : Mod := { addM M (newOb n.toNat i.toNat (o.depth + 1) t.toNat) with O := updI (addM M (newOb n.toNat i.toNat (o.depth + 1) t.toNat)).O i (some (kidS o)) }

section
variable {w : World} {s : Nat} {r : Rep} {M : Mod}
theorem bump1 (h : SMem w s r M) {i : Int} {o : Ob} {a : Nat} (hO : M.O i = some o) (hA : r.A i = some a) :
    SMem (w.setCell ⟨a, 2, none⟩ (.int .i64 ((o.kids : Int) + 1))) s r { M with O := updI M.O i (some (kid o)) } ∧ Turn (fun k => k = a) w (w.setCell ⟨a, 2, none⟩ (.int .i64 ((o.kids : Int) + 1))) := by
  obtain ⟨a', pb, hA', hB, hcell, hpm⟩ := h.live hO
  rw [hA] at hA'
  cases hA'
  have t2 : Turn (fun k => k = a) w (w.setCell ⟨a, 2, none⟩ (.int .i64 ((o.kids : Int) + 1))) := (Turn.refl (fun k => k = a) _).setCell (p := ⟨a, 2, none⟩) (.inl rfl) _
  exact ⟨h.setOb (o' := kid o) hA hB t2 (fun k hk => .inl hk) (set_at hcell 2 _) (IMap.past hpm t2 (fun e => h.aB hA hB e.symm)), t2⟩
theorem bump2 (h : SMem w s r M) {i : Int} {o : Ob} {a : Nat} (hO : M.O i = some o) (hA : r.A i = some a) :
    SMem ((w.setCell ⟨a, 2, none⟩ (.int .i64 ((o.kids : Int) + 1))).setCell ⟨a, 3, none⟩ (.int .i64 ((o.slc : Int) + 1))) s r { M with O := updI M.O i (some (kidS o)) } ∧
      Turn (fun k => k = a) w ((w.setCell ⟨a, 2, none⟩ (.int .i64 ((o.kids : Int) + 1))).setCell ⟨a, 3, none⟩ (.int .i64 ((o.slc : Int) + 1))) := by
  obtain ⟨m1, t1⟩ := bump1 h hO hA
  generalize w.setCell ⟨a, 2, none⟩ (.int .i64 ((o.kids : Int) + 1)) = W at *
  obtain ⟨a', pb, hA', hB, hcell, hpm⟩ := m1.live (i := i) (o := kid o) (updI_same _ _ _)
  rw [hA] at hA'
  cases hA'
  have t2 : Turn (fun k => k = a) W (W.setCell ⟨a, 3, none⟩ (.int .i64 ((o.slc : Int) + 1))) := (Turn.refl (fun k => k = a) _).setCell (p := ⟨a, 3, none⟩) (.inl rfl) _
  have m2 := m1.setOb (o' := kidS o) hA hB t2 (fun k hk => .inl hk) (set_at hcell 3 _) (IMap.past hpm t2 (fun e => m1.aB hA hB e.symm))
  simp only [updI_twice] at m2
  exact ⟨m2, t1.trans t2 (fun j hj => .inl hj)⟩

set_option maxRecDepth 20000 in
theorem slice_no (h : SMem w s r M) (hc : Chain M.O) (i t n : Int) (hi : fit i) (ht : fit t) (hn : fit n) (hs : sliceS M i t n ≠ 0) :
    Calls Try.prog 20 #[.pointer (some ⟨s, 0, none⟩), .int .i64 i, .int .i64 t, .int .i64 n] w fun e w' => e = .returned (.tuple #[.int .i64 0, .int .i64 (sliceS M i t n)]) ∧ Turn NoBlock w w' := by
  unfold sliceS at *
  by_cases h1 : winS M i t n ≠ 0
  · rw [if_pos h1]
    have c := window_no h hc i t n hi ht hn h1
    have hb : (winS M i t n == 0) = false := by simpa using h1
    clear h hs hc
    generalize winS M i t n = z at *
    go_enter Try.func20, Try.ntmps20
    go_wp2_with (go_at_call 58; (with_reducible refine c.mono ?_); rintro x w1 ⟨rfl, rfl⟩)
    go_ret2
    exact ⟨rfl, Turn.refl _ _⟩
  · rw [if_neg h1] at hs ⊢
    have h10 := Classical.not_not.1 h1
    have hfind : findS M i = 0 := by
      unfold winS at h10
      by_cases e : findS M i ≠ 0
      · rw [if_pos e] at h10; simp at h10
      · exact Classical.not_not.1 e
    obtain ⟨o, hO, hd⟩ := find_ok hfind
    rw [hO] at hs ⊢
    simp only at hs ⊢
    obtain ⟨a, pb, hA, hB, hcell, hpm⟩ := h.live hO
    have c := window_yes h hc i t n hi hO hA h10
    have d4 := (ocells hcell).c4
    have halt := lt_of_block hcell
    by_cases h2 : o.depth = 16
    · rw [if_pos h2]
      rw [h2] at d4
      clear h hs hc h1 h10 hfind hO hd hA hB hcell hpm
      go_enter Try.func20, Try.ntmps20
      go_wp2_with (go_at_call 58; (with_reducible refine c.mono ?_); rintro x w1 ⟨rfl, rfl⟩)
      go_ret2
      exact ⟨rfl, Turn.refl _ _⟩
    · rw [if_neg h2] at hs ⊢
      by_cases h3 : M.most ≤ M.live
      · rw [if_pos h3]
        have H := Lib.hid (fun ob => h.past ((Turn.refl NoBlock w).alloc ob))
        have H3 := Lib.hid h3
        have hb : ((o.depth : Int) == 16) = false := by simp; omega
        have hdp := (hc.small i o hO).2.2
        have hwr : IntKind.i64.wrap ((o.depth : Int) + 1) = (o.depth : Int) + 1 := wrap_nat (o.depth + 1) (by omega)
        clear h hs hc h1 h10 hfind hO hd hA hB hcell hpm h2 h3
        go_enter Try.func20, Try.ntmps20
        go_wp2_with (first
          | (go_at_call 58; (with_reducible refine c.mono ?_); rintro x w1 ⟨rfl, rfl⟩)
          | (go_at_call 50; (with_reducible refine (add_full (H.out _) _ H3.out).mono ?_); rintro x w2 ⟨rfl, q, rfl⟩))
        go_ret2
        exact ⟨rfl, ((Turn.refl NoBlock w).alloc _).drewN q⟩
      · rw [if_neg h3] at hs
        exact absurd rfl hs

set_option maxRecDepth 20000 in
set_option maxHeartbeats 1000000 in
theorem slice_yes (h : SMem w s r M) (hc : Chain M.O) (i t n : Int) (hi : fit i) {o : Ob} (hO : M.O i = some o) (hs : sliceS M i t n = 0) (hm : M.most ≤ 65536) (hmd : M.made < 4611686018427387904) (hk : o.kids < 4611686018427387904) (hsl : o.slc < 4611686018427387904) :
    Calls Try.prog 20 #[.pointer (some ⟨s, 0, none⟩), .int .i64 i, .int .i64 t, .int .i64 n] w fun e w' => e = .returned (.tuple #[.int .i64 ((M.made : Int) + 1), .int .i64 0]) ∧
      ∃ r', SMem w' s r' (sliceM M i o t n) ∧ VNext w s r w' r' := by
  unfold sliceS at hs
  have h1 : winS M i t n = 0 := by
    by_cases e : winS M i t n ≠ 0
    · rw [if_pos e] at hs; exact hs
    · exact Classical.not_not.1 e
  rw [if_neg (fun e => e h1), hO] at hs
  simp only at hs
  have h2 : ¬ o.depth = 16 := fun e => by rw [if_pos e] at hs; simp at hs
  rw [if_neg h2] at hs
  have h3 : ¬ M.most ≤ M.live := fun e => by rw [if_pos e] at hs; simp at hs
  obtain ⟨a, pb, hA, hB, hcell, hpm⟩ := h.live hO
  have c := window_yes h hc i t n hi hO hA h1
  have d4 := (ocells hcell).c4
  have halt := lt_of_block hcell
  have hids := h.ids i a hA
  have htn : 0 ≤ t ∧ 0 ≤ n := by
    unfold winS at h1
    split at h1
    · simp at h1
    · split at h1
      · simp at h1
      · omega
  have hdp := (hc.small i o hO).2.2
  have t0 : ∀ ob, Turn NoBlock w (w.alloc ob) := fun ob => (Turn.refl NoBlock w).alloc ob
  have hne : i ≠ (M.made : Int) + 1 := by omega
  have eO : (addM M (newOb n.toNat i.toNat (o.depth + 1) t.toNat)).O i = some o := by simp [addM, updI, hne, hO]
  have H := Lib.hid (fun ob (e : ob = .cells (newOb n.toNat i.toNat (o.depth + 1) t.toNat).raw 96 (0, 0)) =>
    (add_yes8 (a := w.heap.size) (h.past (t0 ob)) (by subst e; exact heap_alloc_new w _) (fresh_not h) rfl rfl (by omega) hm hmd).mono fun e w2 hw => by
      obtain ⟨k1, k2, k3⟩ := hw
      have eA : (addR r ((M.made : Int) + 1) w.heap.size (w.alloc ob).heap.size).A i = some a := by simp [addR, updI, hne, hA]
      have nx := addM_next (i := (M.made : Int) + 1) (b := (w.alloc ob).heap.size) h (t0 ob) (Nat.le_refl _) (by simp) k3
      obtain ⟨a2, pb2, g1, g2, g3, g4⟩ := k2.live eO
      rw [eA] at g1
      cases g1
      obtain ⟨b1, b2⟩ := bump2 k2 eO eA
      have oc := ocells g3
      exact (⟨k1, oc.c2, oc.c3, oc.f, _, b1, nx.trans ⟨b2.mono (fun j hj => .inl (.inr (.inr (.inr (.inl ⟨i, by subst hj; exact eA⟩))))), fun j hj => .inl hj⟩⟩ :
        e = .returned (.tuple #[.int .i64 ((M.made : Int) + 1), .int .i64 0]) ∧ w2.cell? ⟨a, 2, none⟩ = some (.int .i64 (o.kids : Int)) ∧ w2.cell? ⟨a, 3, none⟩ = some (.int .i64 (o.slc : Int)) ∧ (∀ j, w2.frozen? ⟨a, j, none⟩ = false) ∧
          ∃ r', SMem ((w2.setCell ⟨a, 2, none⟩ (.int .i64 ((o.kids : Int) + 1))).setCell ⟨a, 3, none⟩ (.int .i64 ((o.slc : Int) + 1))) s r' (sliceM M i o t n) ∧ VNext w s r ((w2.setCell ⟨a, 2, none⟩ (.int .i64 ((o.kids : Int) + 1))).setCell ⟨a, 3, none⟩ (.int .i64 ((o.slc : Int) + 1))) r'))
  have HE := Lib.hid (show (newOb n.toNat i.toNat (o.depth + 1) t.toNat).raw = #[.int .i64 n, .int .i64 i, .int .i64 0, .int .i64 0, .int .i64 ((o.depth : Int) + 1), .int .i64 t, .bool false, .map none] from by
    unfold Ob.raw newOb
    simp only
    rw [Int.toNat_of_nonneg htn.2, Int.toNat_of_nonneg htn.1, Int.toNat_of_nonneg (by omega)]
    rfl)
  have hb : ((o.depth : Int) == 16) = false := by simp; omega
  have hwr : IntKind.i64.wrap ((o.depth : Int) + 1) = (o.depth : Int) + 1 := wrap_nat (o.depth + 1) (by omega)
  have hwk : IntKind.i64.wrap ((o.kids : Int) + 1) = (o.kids : Int) + 1 := wrap_nat (o.kids + 1) (by omega)
  have hws : IntKind.i64.wrap ((o.slc : Int) + 1) = (o.slc : Int) + 1 := wrap_nat (o.slc + 1) (by omega)
  clear h hs hc h1 h2 h3 hO hA hB hcell hpm hids htn t0 hne eO
  generalize newOb n.toNat i.toNat (o.depth + 1) t.toNat = ob0 at *
  generalize sliceM M i o t n = SM at *
  go_enter Try.func20, Try.ntmps20
  go_wp2_with (first
    | (go_at_call 58; (with_reducible refine c.mono ?_); rintro x w1 ⟨rfl, rfl⟩)
    | (go_at_call 50; (with_reducible refine (H.out _ (by rw [HE.out])).mono ?_); rintro x w2 ⟨rfl, y2, y3, yf, r', k1, k2⟩; have yf2 := yf 2; have yf3 := yf 3; have K := Lib.hid (And.intro k1 k2); clear k1 k2 yf))
  go_ret2
  exact ⟨rfl, r', K.out.1, K.out.2⟩

set_option maxRecDepth 20000 in
theorem snap_slice (h : SMem w s r M) (hc : Chain M.O) (i t n : Int) (hi : fit i) {o : Ob} (hO : M.O i = some o) (hs : winS M i t n = 0) (hd : 0 < o.depth) :
    Calls Try.prog 19 #[.pointer (some ⟨s, 0, none⟩), .int .i64 i, .int .i64 t, .int .i64 n] w fun e w' => e = .returned (.tuple #[.int .i64 0, .int .i64 (-2)]) ∧ w = w' := by
  obtain ⟨a, pb, hA, hB, hcell, hpm⟩ := h.live hO
  have c := window_yes h hc i t n hi hO hA hs
  have d4 := (ocells hcell).c4
  have hd2 : (0 : Int) < (o.depth : Int) := by omega
  clear h hs hc hO hA hB hcell hpm hd
  go_enter Try.func19, Try.ntmps19
  go_wp2_with (go_at_call 58; (with_reducible refine c.mono ?_); rintro x w1 ⟨rfl, rfl⟩)
  go_ret2
  exact ⟨rfl, rfl⟩
end
end Go.Proofs.Ytdddmjdlikjedaa

/-
  What the statements' fixed run answers; a law's state. No conditions.
-/
namespace Go.Proofs.Ytdddmjdlikjedaa
open Go.ChangeShapes Go.WideShapes Go.ChangeAt Go.RowKit

/-- A set that a law has made, behind some calls. -/
structure VSt (w0 w : World) (s : Nat) (r : Rep) (M : Mod) : Prop where
  mem : SMem w s r M
  turn : Turn NoBlock w0 w
  fresh : ∀ k, SFoot s r k → w0.heap.size ≤ k
theorem VSt.next {w0 w w' : World} {s : Nat} {r r' : Rep} {M M' : Mod} (h : VSt w0 w s r M) (m : SMem w' s r' M') (k : VNext w s r w' r') : VSt w0 w' s r' M' :=
  ⟨m, h.turn.trans k.turn (fun j hj => .inr (h.fresh j hj)), fun j hj => by
    rcases k.foot j hj with e | e
    · exact h.fresh j e
    · exact Nat.le_trans h.turn.size e⟩
theorem VSt.past {w0 w w' : World} {s : Nat} {r : Rep} {M : Mod} (h : VSt w0 w s r M) (t : Turn NoBlock w w') : VSt w0 w' s r M := ⟨h.mem.past t, h.turn.trans t (fun _ h => .inl h), h.fresh⟩

theorem chain_one {n m : Nat} {o : Ob} (h1 : o.depth = 0) (h2 : o.size ≤ 4294967296) (h3 : o.frm ≤ 4294967296) : Chain (updI (M0 n m).O 1 (some o)) := by
  have key : ∀ i x, updI (M0 n m).O 1 (some o) i = some x → x = o := fun i x hx => by
    unfold updI at hx
    split at hx
    · cases hx; rfl
    · simp [M0] at hx
  refine ⟨fun i x hx hd => ?_, fun i x hx => ?_, fun i x hx hd => ?_⟩
  · rw [key i x hx] at hd; omega
  · rw [key i x hx]; exact ⟨h2, h3, by omega⟩
  · rw [key i x hx] at hd; omega
theorem few_start (n : Nat) : Few (List.replicate n Pg.none) := fun p hp => by rw [List.eq_of_mem_replicate hp]; simp [Pg.none]

end Go.Proofs.Ytdddmjdlikjedaa

/-
  Bytes that a law is handed, with their capacity; a law's source apart from its set. No conditions.
-/
namespace Go.Proofs.Ytdddmjdlikjedaa
open Go.ChangeShapes Go.WideShapes Go.ChangeAt Go.RowKit

theorem Chain.upd {O : Int → Option Ob} (h : Chain O) {i : Int} {o o' : Ob} (hO : O i = some o) (h1 : o'.par = o.par) (h2 : o'.depth = o.depth) (h3 : o'.size = o.size) (h4 : o'.frm = o.frm) (h5 : 0 < o'.depth → o'.pgs = fun _ => none) : Chain (updI O i (some o')) := by
  refine ⟨fun j x hx hd => ?_, fun j x hx => ?_, fun j x hx hd => ?_⟩
  · have hup : ∃ q, O (x.par : Int) = some q ∧ q.depth + 1 = x.depth := by
      unfold updI at hx
      split at hx
      · cases hx
        rw [h1, h2]
        rw [h2] at hd
        exact h.up i o hO hd
      · exact h.up j x hx hd
    obtain ⟨q, hq, hqd⟩ := hup
    by_cases e : (x.par : Int) = i
    · rw [e, hO] at hq
      cases hq
      exact ⟨o', by rw [e, updI_same], by rw [h2]; exact hqd⟩
    · exact ⟨q, by unfold updI; rw [if_neg e]; exact hq, hqd⟩
  · unfold updI at hx
    split at hx
    · cases hx
      rw [h2, h3, h4]
      exact h.small i o hO
    · exact h.small j x hx
  · unfold updI at hx
    split at hx
    · cases hx; exact h5 hd
    · exact h.pgs j x hx hd
theorem parts_one (m n : Nat) (hn : n ≤ 64) : partsL (64 * m) n = if n = 0 then [] else [⟨m, 0, n⟩] := by
  unfold partsL
  rw [Nat.mul_mod_right, Nat.mul_div_cancel_left m (by decide)]
  by_cases h : n = 0
  · subst h; rfl
  · rw [if_neg h, goP_step m 0 n (by decide) (by omega)]
    rw [show min n (64 - 0) = n by omega, Nat.sub_self, goP_nil]
end Go.Proofs.Ytdddmjdlikjedaa

/-
  What calls keep of a set: who has which frame; what a write does to what stands in each object. No walk, no conditions.
-/
namespace Go.Proofs.Ytdddmjdlikjedaa
open Go.ChangeShapes Go.WideShapes Go.ChangeAt Go.RowKit

def famOf (O : Int → Option Ob) (k : Key) : Option Int := match O k.1 with | none => none | some o => o.pgs k.2
structure Inv8 (M : Mod) : Prop where
  good : Good M.L (famOf M.O)
  chain : Chain M.O
  few : Few M.L
theorem Inv8.held {M : Mod} (h : Inv8 M) : Held M := fun i o q f hO hp => h.good.pos (k := (i, q)) (by unfold famOf; simp only [hO]; exact hp)
theorem fam_at {O : Int → Option Ob} {i : Int} {o : Ob} (h : O i = some o) (q : Int) : famOf O (i, q) = o.pgs q := by unfold famOf; simp only [h]
theorem fam_upd {O : Int → Option Ob} {i : Int} {o' : Ob} {A : Key → Option Int} (h1 : ∀ q, o'.pgs q = A (i, q)) (h2 : ∀ k : Key, k.1 ≠ i → A k = famOf O k) : ∀ k, famOf (updI O i (some o')) k = A k := by
  intro k
  unfold famOf updI
  by_cases e : k.1 = i
  · rw [if_pos e]
    show o'.pgs k.2 = _
    rw [h1, ← e]
  · rw [if_neg e, h2 k e]
    rfl
theorem room_write (L : List Pg) (f b : Int) (bs : List UInt8) : roomN (writeL L f b bs) = roomN L := by
  unfold writeL
  split
  · rename_i hs
    have hu : usersL L f ≠ 0 := fun e => by
      unfold writeS withinS at hs
      rw [if_pos e] at hs
      simp at hs
    obtain ⟨r1, r2, r3⟩ := users_range hu
    have e := used_set L f.toNat ⟨usersL L f, putB (pgAt L f).bytes b.toNat bs⟩ L[f.toNat] (List.getElem?_eq_getElem r2)
    have hq : L[f.toNat].users = usersL L f := by
      unfold usersL pgAt
      rw [if_pos ⟨r1, by omega⟩, List.getD_eq_getElem?_getD, List.getElem?_eq_getElem r2]
      rfl
    rw [hq, if_pos hu] at e
    unfold roomN
    rw [List.length_set]
    omega
  · rfl
theorem room_wAll (S : PL) (ps : List Pt) : ∀ (x : List Pg × List UInt8), roomN (ps.foldl (wstep S) x).1 = roomN x.1 := by
  induction ps with
  | nil => intro x; rfl
  | cons p ps ih =>
    intro x
    rw [List.foldl_cons, ih]
    exact room_write _ _ _ _
theorem few_users {L L' : List Pg} (h : Few L) (hu : ∀ f, usersL L' f = usersL L f) : Few L' := fun p hp => by
  obtain ⟨n, hn, rfl⟩ := List.getElem_of_mem hp
  have := hu n
  have h2 := h.users n
  rw [← this] at h2
  unfold usersL at h2
  rw [pgAt_nat, List.getD_eq_getElem?_getD, List.getElem?_eq_getElem hn] at h2
  exact h2
theorem few_commit (ps : List Pt) : ∀ S : PL, Few S.L → Few (commitAll S ps).L := by
  induction ps with
  | nil => intro S h; exact h
  | cons p ps ih => intro S h; exact ih _ (few_pg h p.pg)
theorem cnt_commit (ps : List Pt) : ∀ S : PL, (commitAll S ps).c ≤ S.c + ps.length := by
  induction ps with
  | nil => intro S; exact Nat.le_refl _
  | cons p ps ih =>
    intro S
    have := ih (commit1 S p.pg)
    have h2 : (commit1 S p.pg).c ≤ S.c + 1 := by unfold commit1; simp only; split <;> omega
    show (commitAll (commit1 S p.pg) ps).c ≤ _
    rw [List.length_cons]
    omega
theorem full_pool {w : World} {a : Nat} {F : Nat → Prop} {L : List Pg} (h : PoolAt w a F L) : Full L := fun f => pool_sized h f

theorem full_commit (ps : List Pt) : ∀ S : PL, Full S.L → Full (commitAll S ps).L := by
  induction ps with
  | nil => intro S hS; exact hS
  | cons p ps ih =>
    intro S hS
    refine ih (commit1 S p.pg) (fun g => ?_)
    show (pgAt (pgL S p.pg) g).bytes.length = 64
    unfold pgL
    split
    · unfold allocL
      split
      · rw [pg_set]
        split
        · rfl
        · exact hS g
      · exact hS g
    · unfold ownL
      split
      · exact hS g
      · split
        · rw [pg_set]
          split
          · exact hS _
          · rw [pg_set]
            split
            · exact hS _
            · exact hS g
        · exact hS g
/-- A set behind a write to object j from t on. -/
def wrM (M : Mod) (j : Int) (q : Ob) (t : Nat) (bs : List UInt8) : Mod :=
  setL (setM M j q (commitAll ⟨M.L, q.pgs, q.cnt⟩ (partsL t bs.length))) (wAll (commitAll ⟨M.L, q.pgs, q.cnt⟩ (partsL t bs.length)) bs (partsL t bs.length)).1
def wrO (M : Mod) (q : Ob) (t : Nat) (bs : List UInt8) : Ob := { q with pgs := (commitAll ⟨M.L, q.pgs, q.cnt⟩ (partsL t bs.length)).g, cnt := (commitAll ⟨M.L, q.pgs, q.cnt⟩ (partsL t bs.length)).c }
structure WrI (M : Mod) (j : Int) (q : Ob) (t : Nat) (bs : List UInt8) : Prop where
  inv : Inv8 (wrM M j q t bs)
  obj : (wrM M j q t bs).O = updI M.O j (some (wrO M q t bs))
  flat : ∀ x, fl (wrM M j q t bs).L (wrO M q t bs).pgs x = if t ≤ x ∧ x < t + bs.length then bs.getD (x - t) 0 else fl M.L q.pgs x
  other : ∀ i o, i ≠ j → M.O i = some o → ∀ x, fl (wrM M j q t bs).L o.pgs x = fl M.L o.pgs x
  room : roomN M.L - ((partsL t bs.length).length : Int) ≤ roomN (wrM M j q t bs).L
  cnt : (wrO M q t bs).cnt ≤ q.cnt + (partsL t bs.length).length
  full : Full (wrM M j q t bs).L
theorem write_inv {M : Mod} {j : Int} {q : Ob} (h : Inv8 M) (hq : M.O j = some q) (hd : q.depth = 0) (hF : Full M.L) (t : Nat) (bs : List UInt8) (hl : (lackN ⟨M.L, q.pgs, q.cnt⟩ (partsL t bs.length) : Int) ≤ roomN M.L) : WrI M j q t bs := by
  obtain ⟨A', k, k2, k3, k4⟩ := commitAll_good (i := j) (S := ⟨M.L, q.pgs, q.cnt⟩) (ps := partsL t bs.length) h.good (fun p => (fam_at hq p).symm) (parts_nodup _ _) hl
  generalize hCS : commitAll ⟨M.L, q.pgs, q.cnt⟩ (partsL t bs.length) = CS at *
  have hFC : Full CS.L := by rw [← hCS]; exact full_commit _ _ hF
  have hW := wrote_all (i0 := j) (S := CS) (A := A') k.fam t bs k.good hFC (fun x hx => by
    obtain ⟨f, a1, a2⟩ := k2 x hx
    exact ⟨f, by rw [k.fam]; exact a1, a2⟩)
  generalize hWL : (wAll CS bs (partsL t bs.length)).1 = WL at *
  have eM : wrM M j q t bs = setL (setM M j q CS) WL := by unfold wrM; rw [hCS, hWL]
  have eO : wrO M q t bs = { q with pgs := CS.g, cnt := CS.c } := by unfold wrO; rw [hCS]
  have hfl : ∀ x, fl CS.L CS.g x = fl M.L q.pgs x := fun x => by
    unfold fl
    rw [k.fam, k.cont, fam_at hq]
  refine ⟨⟨?_, ?_, ?_⟩, ?_, ?_, ?_, ?_, ?_, ?_⟩
  · rw [eM]
    exact (k.good.same hW.users).congr (fam_upd (fun p => k.fam p) (fun kk hk => k.other kk hk))
  · rw [eM]
    exact h.chain.upd hq rfl rfl rfl rfl (fun hp => by have : 0 < q.depth := hp; omega)
  · rw [eM]
    exact few_users (by rw [← hCS]; exact few_commit _ _ h.few) hW.users
  · rw [eM, eO]
    rfl
  · intro x
    rw [eM, eO]
    show fl WL CS.g x = _
    rw [hW.flat, hfl]
  · intro i o hi hO x
    rw [eM]
    show fl WL o.pgs x = _
    unfold fl
    cases hx : o.pgs ((x / 64 : Nat) : Int) with
    | none => rfl
    | some f =>
      have hk : famOf M.O (i, ((x / 64 : Nat) : Int)) = some f := by rw [fam_at hO, hx]
      have hk' : A' (i, ((x / 64 : Nat) : Int)) = some f := by rw [k.other _ hi, hk]
      have hc := k.cont (i, ((x / 64 : Nat) : Int))
      rw [hk', hk] at hc
      rw [cont_some, cont_some] at hc ⊢
      rw [hW.other _ f hk' hi, hc]
  · rw [eM]
    show _ ≤ roomN WL
    rw [← hWL]
    unfold wAll
    rw [room_wAll]
    exact k4
  · rw [eO]
    show CS.c ≤ _
    rw [← hCS]
    exact cnt_commit _ _
  · rw [eM]
    exact hW.full
end Go.Proofs.Ytdddmjdlikjedaa

