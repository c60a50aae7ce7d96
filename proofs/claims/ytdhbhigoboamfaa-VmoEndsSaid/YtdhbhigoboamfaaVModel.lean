/-
  A set of objects in memory: the pool, the map of objects, each object and the map of its pages; what each step keeps. No walk, no conditions.
-/
import Derived.Test.YtdhbhigoboamfaaVMap
import Derived.Test.YtdhbhigoboamfaaPRel
import Derived.Test.YtdhbhigoboamfaaPRead
namespace Go.Proofs.Ytdhbhigoboamfaa
open Go.ChangeShapes Go.WideShapes Go.ChangeAt Go.RowKit

/-- An object: pgs says which frame a page has, cnt how many have one. -/
structure Ob where
  size : Nat
  par : Nat
  kids : Nat
  slc : Nat
  depth : Nat
  frm : Nat
  drp : Bool
  pgs : Int → Option Int
  cnt : Nat
def Ob.cells (o : Ob) (pb : Nat) : Array Value :=
  #[.int .i64 (o.size : Int), .int .i64 (o.par : Int), .int .i64 (o.kids : Int), .int .i64 (o.slc : Int), .int .i64 (o.depth : Int), .int .i64 (o.frm : Int), .bool o.drp, .map (some pb)]
/-- A set: O the objects by their ids, L the frames. -/
structure Mod where
  most : Nat
  made : Nat
  live : Nat
  O : Int → Option Ob
  L : List Pg
/-- Where a set lies. -/
structure Rep where
  p : Nat
  mo : Nat
  A : Int → Option Nat
  B : Int → Option Nat
  FP : Nat → Prop

structure SMem (w : World) (s : Nat) (r : Rep) (M : Mod) : Prop where
  head : w.heap[s]? = some (.cells #[.pointer (some ⟨r.p, 0, none⟩), .int .i64 (M.most : Int), .int .i64 (M.made : Int), .map (some r.mo)] 83 (0, 0))
  pool : PoolAt w r.p r.FP M.L
  omap : OMap w r.mo r.A M.live
  ob : ∀ i a, r.A i = some a → ∃ o pb, M.O i = some o ∧ r.B i = some pb ∧ w.heap[a]? = some (.cells (o.cells pb) 88 (0, 0)) ∧ PMap w pb o.pgs o.cnt
  no : ∀ i, r.A i = none → M.O i = none ∧ r.B i = none
  injA : ∀ i j a, r.A i = some a → r.A j = some a → i = j
  injB : ∀ i j b, r.B i = some b → r.B j = some b → i = j
  bmo : ∀ i b, r.B i = some b → b ≠ r.mo
  ids : ∀ i a, r.A i = some a → 1 ≤ i ∧ i ≤ M.made
  pS : ¬ r.FP s
  pM : ¬ r.FP r.mo
  pA : ∀ i a, r.A i = some a → ¬ r.FP a
  pB : ∀ i b, r.B i = some b → ¬ r.FP b
def SFoot (s : Nat) (r : Rep) (k : Nat) : Prop := k = s ∨ k = r.mo ∨ r.FP k ∨ (∃ i, r.A i = some k) ∨ (∃ i, r.B i = some k)

theorem map_ne_cells {w : World} {a b : Nat} {es : Array MapEntry} {clock : Nat} {c : Array Value} {t : TypeId} {f : Nat × Nat} (h : w.heap[a]? = some (.map es clock)) (h' : w.heap[b]? = some (.cells c t f)) : a ≠ b := by
  intro e
  subst e
  rw [h] at h'
  simp at h'

section
variable {w w' : World} {s : Nat} {r : Rep} {M : Mod}
theorem SMem.live (h : SMem w s r M) {i : Int} {o : Ob} (ho : M.O i = some o) : ∃ a pb, r.A i = some a ∧ r.B i = some pb ∧ w.heap[a]? = some (.cells (o.cells pb) 88 (0, 0)) ∧ PMap w pb o.pgs o.cnt := by
  cases hA : r.A i with
  | none => rw [(h.no i hA).1] at ho; cases ho
  | some a =>
    obtain ⟨o', pb, h1, h2, h3, h4⟩ := h.ob i a hA
    rw [ho] at h1
    cases h1
    exact ⟨a, pb, rfl, h2, h3, h4⟩
theorem SMem.dead (h : SMem w s r M) {i : Int} (ho : M.O i = none) : r.A i = none := by
  cases hA : r.A i with
  | none => rfl
  | some a =>
    obtain ⟨o', pb, h1, _⟩ := h.ob i a hA
    rw [ho] at h1
    cases h1
theorem SMem.blk (h : SMem w s r M) {i : Int} {b : Nat} (hb : r.B i = some b) : ∃ a o, r.A i = some a ∧ M.O i = some o ∧ w.heap[a]? = some (.cells (o.cells b) 88 (0, 0)) ∧ PMap w b o.pgs o.cnt := by
  cases hA : r.A i with
  | none => rw [(h.no i hA).2] at hb; cases hb
  | some a =>
    obtain ⟨o', pb, h1, h2, h3, h4⟩ := h.ob i a hA
    rw [hb] at h2
    cases h2
    exact ⟨a, o', rfl, h1, h3, h4⟩
theorem SMem.lt (h : SMem w s r M) {k : Nat} (hk : SFoot s r k) : k < w.heap.size := by
  rcases hk with rfl | rfl | hk | ⟨i, hk⟩ | ⟨i, hk⟩
  · exact lt_of_block h.head
  · exact h.omap.lt
  · exact h.pool.lt hk
  · obtain ⟨o, pb, _, _, h3, _⟩ := h.ob i k hk
    exact lt_of_block h3
  · obtain ⟨a, o, _, _, _, h4⟩ := h.blk hk
    exact h4.lt
theorem SMem.aS (h : SMem w s r M) {i : Int} {a : Nat} (ha : r.A i = some a) : a ≠ s := by
  obtain ⟨o, pb, _, _, h3, _⟩ := h.ob i a ha
  exact unlike h3 h.head (by decide)
theorem SMem.aM (h : SMem w s r M) {i : Int} {a : Nat} (ha : r.A i = some a) : a ≠ r.mo := by
  obtain ⟨o, pb, _, _, h3, _⟩ := h.ob i a ha
  obtain ⟨es, clock, hm⟩ := IMap.isMap h.omap
  exact fun e => map_ne_cells hm h3 e.symm
theorem SMem.aB (h : SMem w s r M) {i j : Int} {a b : Nat} (ha : r.A i = some a) (hb : r.B j = some b) : a ≠ b := by
  obtain ⟨o, pb, _, _, h3, _⟩ := h.ob i a ha
  obtain ⟨a', o', _, _, _, h4⟩ := h.blk hb
  obtain ⟨es, clock, hm⟩ := IMap.isMap h4
  exact fun e => map_ne_cells hm h3 e.symm
theorem SMem.bS (h : SMem w s r M) {j : Int} {b : Nat} (hb : r.B j = some b) : b ≠ s := by
  obtain ⟨a', o', _, _, _, h4⟩ := h.blk hb
  obtain ⟨es, clock, hm⟩ := IMap.isMap h4
  exact fun e => map_ne_cells hm h.head e
theorem SMem.mS (h : SMem w s r M) : r.mo ≠ s := by
  obtain ⟨es, clock, hm⟩ := IMap.isMap h.omap
  exact fun e => map_ne_cells hm h.head e

theorem SMem.kept {G : Nat → Prop} (h : SMem w s r M) (t : Turn G w w') (hG : ∀ k, SFoot s r k → ¬ G k) : SMem w' s r M :=
  ⟨t.heap h.head (hG _ (.inl rfl)), (pool_own _ _ _).kept _ _ G h.pool t (fun k hk => hG k (.inr (.inr (.inl hk)))), IMap.past h.omap t (hG _ (.inr (.inl rfl))),
    fun i a ha => by
      obtain ⟨o, pb, h1, h2, h3, h4⟩ := h.ob i a ha
      exact ⟨o, pb, h1, h2, t.heap h3 (hG _ (.inr (.inr (.inr (.inl ⟨i, ha⟩))))), IMap.past h4 t (hG _ (.inr (.inr (.inr (.inr ⟨i, h2⟩)))))⟩,
    h.no, h.injA, h.injB, h.bmo, h.ids, h.pS, h.pM, h.pA, h.pB⟩
theorem SMem.past (h : SMem w s r M) (t : Turn NoBlock w w') : SMem w' s r M := h.kept t (fun _ _ h => h)

/-- The pool has become another one. -/
theorem SMem.setPool {F' : Nat → Prop} {L' : List Pg} (h : SMem w s r M) (hp : PoolAt w' r.p F' L') (t : Turn r.FP w w') (hf : ∀ j, F' j → r.FP j ∨ w.heap.size ≤ j) :
    SMem w' s { r with FP := F' } { M with L := L' } := by
  have hn : ∀ k, SFoot s r k → ¬ r.FP k → ¬ F' k := fun k hk hk' hF => by
    rcases hf k hF with h1 | h1
    · exact hk' h1
    · have := h.lt hk; omega
  exact ⟨t.heap h.head h.pS, hp, IMap.past h.omap t h.pM,
    fun i a ha => by
      obtain ⟨o, pb, h1, h2, h3, h4⟩ := h.ob i a ha
      exact ⟨o, pb, h1, h2, t.heap h3 (h.pA i a ha), IMap.past h4 t (h.pB i pb h2)⟩,
    h.no, h.injA, h.injB, h.bmo, h.ids, hn _ (.inl rfl) h.pS, hn _ (.inr (.inl rfl)) h.pM, fun i a ha => hn a (.inr (.inr (.inr (.inl ⟨i, ha⟩)))) (h.pA i a ha), fun i b hb => hn b (.inr (.inr (.inr (.inr ⟨i, hb⟩)))) (h.pB i b hb)⟩

/-- One object has become another one: its own cells, its pages or both. -/
theorem SMem.setOb {i : Int} {a pb : Nat} {o' : Ob} {G : Nat → Prop} (h : SMem w s r M) (ha : r.A i = some a) (hb : r.B i = some pb) (t : Turn G w w') (hG : ∀ k, G k → k = a ∨ k = pb)
    (hc : w'.heap[a]? = some (.cells (o'.cells pb) 88 (0, 0))) (hm : PMap w' pb o'.pgs o'.cnt) : SMem w' s r { M with O := updI M.O i (some o') } := by
  refine ⟨t.heap h.head (fun hk => ?_), (pool_own _ _ _).kept _ _ G h.pool t (fun k hk hk' => ?_), IMap.past h.omap t (fun hk => ?_), fun j c hj => ?_, fun j hj => ?_, h.injA, h.injB, h.bmo, h.ids, h.pS, h.pM, h.pA, h.pB⟩
  · rcases hG _ hk with e | e
    · exact h.aS ha e.symm
    · exact h.bS hb e.symm
  · rcases hG _ hk' with rfl | rfl
    · exact h.pA i k ha hk
    · exact h.pB i k hb hk
  · rcases hG _ hk with e | e
    · exact h.aM ha e.symm
    · exact h.bmo i _ hb e.symm
  · by_cases e : j = i
    · subst e
      rw [ha] at hj
      cases hj
      exact ⟨o', pb, by simp [updI], hb, hc, hm⟩
    · obtain ⟨x, qb, h1, h2, h3, h4⟩ := h.ob j c hj
      refine ⟨x, qb, by simp [updI, e, h1], h2, t.heap h3 (fun hk => ?_), IMap.past h4 t (fun hk => ?_)⟩
      · rcases hG _ hk with e1 | e1
        · subst e1; exact e (h.injA j i _ hj ha)
        · exact h.aB hj hb e1
      · rcases hG _ hk with e1 | e1
        · exact h.aB ha h2 e1.symm
        · subst e1; exact e (h.injB j i _ h2 hb)
  · have hne : j ≠ i := fun e => by subst e; rw [ha] at hj; cases hj
    exact ⟨by simp [updI, hne, (h.no j hj).1], (h.no j hj).2⟩

/-- The cells of the set. -/
theorem SMem.c0 (h : SMem w s r M) : w.cell? ⟨s, 0, none⟩ = some (.pointer (some ⟨r.p, 0, none⟩)) := by simpa using cell_at h.head 0
theorem SMem.c1 (h : SMem w s r M) : w.cell? ⟨s, 1, none⟩ = some (.int .i64 (M.most : Int)) := by simpa using cell_at h.head 1
theorem SMem.c2 (h : SMem w s r M) : w.cell? ⟨s, 2, none⟩ = some (.int .i64 (M.made : Int)) := by simpa using cell_at h.head 2
theorem SMem.c3 (h : SMem w s r M) : w.cell? ⟨s, 3, none⟩ = some (.map (some r.mo)) := by simpa using cell_at h.head 3
theorem SMem.f (h : SMem w s r M) (j : Nat) : w.frozen? ⟨s, j, none⟩ = false := free_at h.head j
end

/-- The cells of an object. -/
structure OCells (w : World) (a pb : Nat) (o : Ob) : Prop where
  c0 : w.cell? ⟨a, 0, none⟩ = some (.int .i64 (o.size : Int))
  c1 : w.cell? ⟨a, 1, none⟩ = some (.int .i64 (o.par : Int))
  c2 : w.cell? ⟨a, 2, none⟩ = some (.int .i64 (o.kids : Int))
  c3 : w.cell? ⟨a, 3, none⟩ = some (.int .i64 (o.slc : Int))
  c4 : w.cell? ⟨a, 4, none⟩ = some (.int .i64 (o.depth : Int))
  c5 : w.cell? ⟨a, 5, none⟩ = some (.int .i64 (o.frm : Int))
  c6 : w.cell? ⟨a, 6, none⟩ = some (.bool o.drp)
  c7 : w.cell? ⟨a, 7, none⟩ = some (.map (some pb))
  f : ∀ j, w.frozen? ⟨a, j, none⟩ = false
theorem ocells {w : World} {a pb : Nat} {o : Ob} (h : w.heap[a]? = some (.cells (o.cells pb) 88 (0, 0))) : OCells w a pb o :=
  ⟨by simpa [Ob.cells] using cell_at h 0, by simpa [Ob.cells] using cell_at h 1, by simpa [Ob.cells] using cell_at h 2, by simpa [Ob.cells] using cell_at h 3, by simpa [Ob.cells] using cell_at h 4, by simpa [Ob.cells] using cell_at h 5, by simpa [Ob.cells] using cell_at h 6, by simpa [Ob.cells] using cell_at h 7, fun j => free_at h j⟩
end Go.Proofs.Ytdhbhigoboamfaa
