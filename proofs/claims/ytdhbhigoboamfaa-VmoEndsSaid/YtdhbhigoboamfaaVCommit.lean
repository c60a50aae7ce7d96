/-
  commit: frames of its own for each page. No conditions but that the set is one that calls can make.
-/
import Derived.Test.YtdhbhigoboamfaaVOwn
import Derived.Test.YtdhbhigoboamfaaVCreate
import Derived.Deep.RegionHeld3
namespace Go.Proofs.Ytdhbhigoboamfaa
open Go.ChangeShapes Go.WideShapes Go.ChangeAt Go.RowKit

def commit1 (S : PL) (p : Nat) : PL := ⟨pgL S p, updI S.g (p : Int) (some (pgV S p)), if (S.g (p : Int)).isSome then S.c else S.c + 1⟩
def commitAll (S : PL) (ps : List Pt) : PL := ps.foldl (fun S p => commit1 S p.pg) S
theorem commitAll_succ (S : PL) (ps : List Pt) (k : Nat) (p : Pt) (hk : ps[k]? = some p) : commitAll S (ps.take (k + 1)) = commit1 (commitAll S (ps.take k)) p.pg := by
  obtain ⟨hlt, he⟩ := List.getElem?_eq_some_iff.1 hk
  unfold commitAll
  rw [List.take_succ_eq_append_getElem hlt, List.foldl_append, he]
  rfl
def setM (M : Mod) (i : Int) (o : Ob) (S : PL) : Mod := { M with L := S.L, O := updI M.O i (some { o with pgs := S.g, cnt := S.c }) }

theorem few_set {L : List Pg} (h : Few L) (k : Nat) (q : Pg) (hq : q.users < 4611686018427387904) : Few (L.set k q) := fun p hp => by
  rcases List.mem_or_eq_of_mem_set hp with hp | rfl
  · exact h p hp
  · exact hq
theorem few_alloc {L : List Pg} (h : Few L) : Few (allocL L) := by
  unfold allocL
  split
  · exact few_set h _ _ (by simp)
  · exact h
theorem few_own {L : List Pg} (h : Few L) (f : Int) : Few (ownL L f) := by
  unfold ownL
  have := h.users f
  split
  · exact h
  · split
    · exact few_set (few_set h _ _ (by simp)) _ _ (by simp; omega)
    · exact h
theorem few_pg {S : PL} (h : Few S.L) (p : Nat) : Few (pgL S p) := by
  unfold pgL
  split
  · exact few_alloc h
  · exact few_own h _
theorem lowOf_le (L : List Pg) : lowOf L ≤ L.length := List.findIdx_le_length
theorem alloc_fit {L : List Pg} (hl : L.length ≤ 65536) : fit (allocV L) := by
  unfold allocV fit
  have := lowOf_le L
  split <;> omega
theorem pg_fit {S : PL} (hl : S.L.length ≤ 65536) (p : Nat) : fit (pgV S p) := by
  unfold pgV
  split
  · exact alloc_fit hl
  · rename_i f hf
    unfold ownV
    split
    · unfold fit; omega
    · split
      · rename_i h1 h2
        have : usersL S.L f ≠ 0 := h1
        unfold usersL pgAt at this
        unfold fit
        split at this
        · omega
        · exact absurd rfl this
      · exact alloc_fit hl

/-- What the loop of commit holds. -/
structure CIn (w wr : World) (s : Nat) (r : Rep) (M : Mod) (i : Int) (o : Ob) (v : Value) (ps : List Pt) (F : Nat → Prop) (S : PL) (k : Nat) : Prop where
  eq : S = commitAll ⟨M.L, o.pgs, o.cnt⟩ (ps.take k)
  mem : SMem wr s { r with FP := F } (setM M i o S)
  next : VNext w s r wr { r with FP := F }
  parts : Parts v ps wr
  apart : ∀ j, Blk v j → ¬ SFoot s { r with FP := F } j
  few : Few S.L
  c : S.c ≤ o.cnt + k

theorem setM_start {M : Mod} {i : Int} {o : Ob} (h : M.O i = some o) : setM M i o ⟨M.L, o.pgs, o.cnt⟩ = M := by
  unfold setM
  have : updI M.O i (some o) = M.O := by
    funext j
    unfold updI
    split
    · rename_i e; rw [e, h]
    · rfl
  cases M
  simp only at this ⊢
  rw [this]
theorem next_refl (w : World) (s : Nat) (r : Rep) : VNext w s r w r := ⟨Turn.refl _ _, fun _ h => .inl h⟩
theorem VNext.past {w wr wx : World} {s : Nat} {r r' : Rep} (h : VNext w s r wr r') (t : Turn NoBlock wr wx) : VNext w s r wx r' := ⟨h.turn.trans t (fun _ h => h.elim), h.foot⟩
theorem VNext.trans {w w1 w2 : World} {s : Nat} {r r1 r2 : Rep} (h : VNext w s r w1 r1) (k : VNext w1 s r1 w2 r2) : VNext w s r w2 r2 :=
  ⟨h.turn.trans k.turn (fun j hj => h.foot j hj), fun j hj => by
    rcases k.foot j hj with e | e
    · exact h.foot j e
    · exact .inr (Nat.le_trans h.turn.size e)⟩
theorem pool_next {w w' : World} {s : Nat} {r : Rep} {F' : Nat → Prop} (t : Turn r.FP w w') (hf : ∀ j, F' j → r.FP j ∨ w.heap.size ≤ j) : VNext w s r w' { r with FP := F' } :=
  ⟨t.mono (fun j hj => .inl (.inr (.inr (.inl hj)))), fun j hj => by
    rcases hj with hj | hj | hj | hj | hj
    · exact .inl (.inl hj)
    · exact .inl (.inr (.inl hj))
    · rcases hf j hj with e | e
      · exact .inl (.inr (.inr (.inl e)))
      · exact .inr e
    · exact .inl (.inr (.inr (.inr (.inl hj))))
    · exact .inl (.inr (.inr (.inr (.inr hj))))⟩
theorem CIn.past {w wr wx : World} {s : Nat} {r : Rep} {M : Mod} {i : Int} {o : Ob} {v : Value} {ps : List Pt} {F : Nat → Prop} {S : PL} {k : Nat} (h : CIn w wr s r M i o v ps F S k) (t : Turn NoBlock wr wx) : CIn w wx s r M i o v ps F S k :=
  ⟨h.eq, h.mem.past t, h.next.past t, h.parts.past t (fun _ _ h => h), h.apart, h.few, h.c⟩
theorem updI_same {α : Type} (L : Int → Option α) (i : Int) (v : Option α) : updI L i v i = v := by simp [updI]
theorem updI_twice {α : Type} (L : Int → Option α) (i : Int) (v u : Option α) : updI (updI L i v) i u = updI L i u := by
  funext j
  unfold updI
  split <;> rfl

theorem commit_step {w wr wx w5 : World} {s a pb : Nat} {r : Rep} {M : Mod} {i : Int} {o : Ob} {v : Value} {ps : List Pt} {F F' : Nat → Prop} {S : PL} {k : Nat} {p : Pt} (h : CIn w wr s r M i o v ps F S k) (t : Turn NoBlock wr wx) (hA : r.A i = some a) (hB : r.B i = some pb)
    (hp : ps[k]? = some p) (hpg : p.pg ≤ 4611686018427387904) (hc : o.cnt + k < 4611686018427387904)
    (m5 : SMem w5 s { r with FP := F' } { (setM M i o S) with L := pgL S p.pg }) (t5 : Turn F wx w5) (f5 : ∀ j, F' j → F j ∨ wx.heap.size ≤ j) :
    w5.cell? ⟨a, 7, none⟩ = some (.map (some pb)) ∧ ∃ w6, Sem.run Try.prog (Instr.mapUpdate 86 (.map (some pb)) (.int .i64 p.pg) (.int .i64 (pgV S p.pg))) w5 = .ok () w6 ∧ Turn (fun k => k = pb) w5 w6 ∧ CIn w w6 s r M i o v ps F' (commit1 S p.pg) (k + 1) := by
  have hx := h.past t
  obtain ⟨x, xt, hx1, hx2, hx3, hx4⟩ := m5.live (i := i) (o := { o with pgs := S.g, cnt := S.c }) (updI_same _ _ _)
  simp only at hx1 hx2
  rw [hA] at hx1
  rw [hB] at hx2
  cases hx1
  cases hx2
  refine ⟨(ocells hx3).c7, ?_⟩
  have hlen := h.mem.pool.len
  obtain ⟨w6, hrun, pm6, t6⟩ := hx4.put (by have := h.c; show S.c < maxLen; unfold maxLen; omega) (p.pg : Int) (pgV S p.pg) (by unfold fit; omega) (pg_fit hlen p.pg)
  have m6 := m5.setOb (o' := { o with pgs := (commit1 S p.pg).g, cnt := (commit1 S p.pg).c }) hA hB t6 (fun j hj => .inr hj) (t6.heap hx3 (fun e => m5.aB hA hB e)) pm6
  refine ⟨w6, hrun, t6, ?_, ?_, ?_, ?_, ?_, few_pg h.few _, ?_⟩
  · rw [h.eq, commitAll_succ _ _ _ _ hp]
  · have e : { { (setM M i o S) with L := pgL S p.pg } with O := updI (setM M i o S).O i (some { o with pgs := (commit1 S p.pg).g, cnt := (commit1 S p.pg).c }) } = setM M i o (commit1 S p.pg) := by
      unfold setM
      simp only [updI_twice]
      rfl
    rw [← e]
    exact m6
  · refine (hx.next.trans (pool_next (r := { r with FP := F }) t5 f5)).trans ⟨t6.mono (fun j hj => .inl (.inr (.inr (.inr (.inr ⟨i, by subst hj; exact hB⟩))))), fun j hj => .inl hj⟩
  · refine (hx.parts.past t5 (fun j hj hF => hx.apart j hj (.inr (.inr (.inl hF))))).past t6 (fun j hj e => ?_)
    subst e
    exact hx.apart j hj (.inr (.inr (.inr (.inr ⟨i, hB⟩))))
  · intro j hj hF
    rcases hF with e | e | e | e | e
    · exact hx.apart j hj (.inl e)
    · exact hx.apart j hj (.inr (.inl e))
    · rcases f5 j e with e | e
      · exact hx.apart j hj (.inr (.inr (.inl e)))
      · obtain ⟨cur, hb⟩ := own_block hx.parts hj
        have := lt_of_block hb
        omega
    · exact hx.apart j hj (.inr (.inr (.inr (.inl e))))
    · exact hx.apart j hj (.inr (.inr (.inr (.inr e))))
  · have := h.c
    unfold commit1
    simp only
    split <;> omega
end Go.Proofs.Ytdhbhigoboamfaa
