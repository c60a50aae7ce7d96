/-
  Texts that stand one behind the other, in one.
-/
import Derived.Test.YtdddmjdlikjedaaPHeap
import Derived.Test.YtdddmjdlikjedaaPVal
import Derived.Maps.OwnSet
import Derived.Maps.OwnOps
import Derived.Maps.Views
import Derived.Maps.RangeWalk
import Derived.Test.YtdddmjdlikjedaaPAll
import Derived.Deep.RegionHeld3
/-
  A map from numbers, to numbers or to objects, as a plain function and how many entries it has. No conditions.
-/
namespace Go.Proofs.Ytdddmjdlikjedaa
open Go.ChangeShapes Go.WideShapes Go.ChangeAt Go.RowKit Go.Maps

theorem intKey : Keyed Try.prog 3 := int_keyed Try.underlying3
theorem pmapUnder : Try.prog.underlying 94 = some (.map 3 3) := by kernel_rfl
theorem omapUnder : Try.prog.underlying 89 = some (.map 3 93) := by kernel_rfl
theorem zeroInt (w : World) : (zeroValue 3).run Try.prog w = .ok (.int .i64 0) w := by kernel_rfl
theorem zeroPtr (w : World) : (zeroValue 93).run Try.prog w = .ok (.pointer none) w := by kernel_rfl

theorem wf_int {i : Int} (h : fit i) : (Lit.int .i64 i).wf = true := by
  unfold fit at h
  have e1 : IntKind.i64.min = -9223372036854775808 := rfl
  have e2 : IntKind.i64.max = 9223372036854775807 := rfl
  simp only [Lit.wf, Bool.and_eq_true, decide_eq_true_eq]
  omega
theorem key_int {i : Int} (h : fit i) : keyOf Try.prog 3 (.int .i64 i) = some (.int .i64 i) := keyOf_int_mk Try.underlying3 (wf_int h)

/-- How an element that points to an object reads: as the number of its block. -/
def ptrElem (v : Value) : Option (DataW Unit × List MemPlace) :=
  match v with
  | .pointer none => some (.lit (.int .i64 (-1)), [])
  | .pointer (some ⟨b, 0, none⟩) => some (.lit (.int .i64 (b : Int)), [])
  | _ => none
def ptrOf : Option Nat → Value
  | none => .pointer none
  | some b => .pointer (some ⟨b, 0, none⟩)
theorem ptrElem_of (x : Option Nat) : ptrElem (ptrOf x) = some (.lit (.int .i64 ((x.map fun (b : Nat) => (b : Int)).getD (-1))), []) := by
  cases x <;> rfl
theorem ptrElem_inv {v : Value} {ps : List MemPlace} {x : Option Nat} (h : ptrElem v = some (.lit (.int .i64 ((x.map fun (b : Nat) => (b : Int)).getD (-1))), ps)) : v = ptrOf x := by
  unfold ptrElem at h
  split at h
  · cases x with
    | none => rfl
    | some b =>
      exfalso
      simp at h
  · cases x with
    | none =>
      exfalso
      simp at h
    | some b =>
      simp at h
      have hb := h.1
      rw [Int.natCast_inj] at hb
      subst hb
      rfl
  · cases h

/-- The datum D says what L says, and has s keys. -/
def Says (D : DataW Unit) (L : Int → Option Int) (s : Nat) : Prop :=
  (∀ i : Int, has D (.int .i64 i) = (L i).isSome ∧ ∀ z, D.atKey (.int .i64 i) z = ((L i).map fun v => DataW.lit (.int .i64 v)).getD z) ∧ size D = s
def IMap (R : Value → Option (DataW Unit × List MemPlace)) (w : World) (b : Nat) (L : Int → Option Int) (s : Nat) : Prop := ∃ D, w.ownsMap Try.prog 3 R b s D ∧ Says D L s
def PMap (w : World) (b : Nat) (L : Int → Option Int) (s : Nat) : Prop := IMap (plainElem Try.prog 3) w b L s
def OMap (w : World) (b : Nat) (A : Int → Option Nat) (s : Nat) : Prop := IMap ptrElem w b (fun i => (A i).map fun (n : Nat) => (n : Int)) s

def updI {α : Type} (L : Int → Option α) (i : Int) (v : Option α) : Int → Option α := fun j => if j = i then v else L j

section
variable {R : Value → Option (DataW Unit × List MemPlace)} {w w' : World} {b s : Nat} {L : Int → Option Int}
theorem own_tight {n : Nat} {D : DataW Unit} (h : w.ownsMap Try.prog 3 R b n D) : w.ownsMap Try.prog 3 R b (size D) D := by
  obtain ⟨es, clock, hb, F, hs, rfl⟩ := h
  refine ⟨es, clock, hb, F, ?_, rfl⟩
  simp [Maps.size, length_sorted]
theorem IMap.lt (h : IMap R w b L s) : b < w.heap.size := by obtain ⟨D, h1, _⟩ := h; exact h1.lt
theorem IMap.past {G : Nat → Prop} (h : IMap R w b L s) (t : Turn G w w') (hG : ¬ G b) : IMap R w' b L s := by
  obtain ⟨D, ⟨es, clock, hb, r⟩, hS⟩ := h
  exact ⟨D, ⟨es, clock, t.heap hb hG, r⟩, hS⟩
theorem IMap.isMap (h : IMap R w b L s) : ∃ es clock, w.heap[b]? = some (.map es clock) := by
  obtain ⟨D, ⟨es, clock, hb, r⟩, hS⟩ := h
  exact ⟨es, clock, hb⟩
theorem says_made : Says (.map []) (fun _ => none) 0 := ⟨fun _ => ⟨rfl, fun _ => rfl⟩, rfl⟩
theorem IMap.made (w : World) : IMap R (w.alloc (.map #[] 0)) w.heap.size (fun _ => none) 0 := ⟨_, World.ownsMap_made w Try.prog 3 R, says_made⟩
theorem int_ne {i j : Int} (h : j ≠ i) : (Lit.int .i64 j) ≠ (Lit.int .i64 i) := fun e => h (by injection e)
theorem turn_map {b : Nat} {w w' : World} (h : w.mapTurned w' b) : Turn (fun k => k = b) w w' := (Turn.refl _ w).grown h.grown (fun k hk => by cases hk; exact .inl rfl)

theorem IMap.put {t e : TypeId} (h : IMap R w b L s) (ht : Try.prog.underlying t = some (.map 3 e)) (hs : s < maxLen) {i v : Int} (hi : fit i) {val : Value} {ps : List MemPlace} (hv : R val = some (.lit (.int .i64 v), ps)) :
    ∃ w', Sem.run Try.prog (Instr.mapUpdate t (.map (some b)) (.int .i64 i) val) w = .ok () w' ∧ IMap R w' b (updI L i (some v)) (if (L i).isSome then s else s + 1) ∧ Turn (fun k => k = b) w w' := by
  obtain ⟨D, hm, hS⟩ := h
  obtain ⟨w', hrun, hown, hturn⟩ := hm.store intKey ht hs (key_int hi) hv
  have hT : Tidy D := hm.tidy intKey
  have hk : WideAt.IsKeyLit (.int .i64 i) := trivial
  have hsz : size (D.put (.int .i64 i) (.lit (.int .i64 v))) = if (L i).isSome then s else s + 1 := by
    rw [size_put hT, (hS.1 i).1, hS.2]
  refine ⟨w', hrun, ⟨_, hsz ▸ own_tight hown, fun j => ?_, hsz⟩, turn_map hturn⟩
  unfold updI
  by_cases hj : j = i
  · subst hj
    simp only [if_pos]
    exact ⟨has_put_same hT.isMap hk _, fun z => atKey_put_same hT.isMap hk _ z⟩
  · simp only [if_neg hj]
    rw [has_put_other (int_ne hj) _]
    exact ⟨(hS.1 j).1, fun z => by rw [atKey_put_other (int_ne hj) _ z]; exact (hS.1 j).2 z⟩

theorem says_del {D : DataW Unit} (hS : Says D L s) (hT : Tidy D) (i : Int) : Says (D.del (.int .i64 i)) (updI L i none) (if (L i).isSome then s - 1 else s) := by
  refine ⟨fun j => ?_, ?_⟩
  · unfold updI
    by_cases hj : j = i
    · subst hj
      simp only [if_pos]
      exact ⟨has_del_same, fun z => atKey_del_same z⟩
    · simp only [if_neg hj]
      rw [has_del_other (int_ne hj)]
      exact ⟨(hS.1 j).1, fun z => by rw [atKey_del_other (int_ne hj) z]; exact (hS.1 j).2 z⟩
  · have h1 := size_del (k := .int .i64 i) hT
    rw [(hS.1 i).1, hS.2] at h1
    by_cases hL : (L i).isSome = true
    · rw [if_pos hL] at h1 ⊢
      omega
    · rw [if_neg hL] at h1 ⊢
      omega
theorem IMap.drop {t e : TypeId} (h : IMap R w b L s) (ht : Try.prog.underlying t = some (.map 3 e)) {i : Int} (hi : fit i) (ty : TypeId) :
    ∃ w', Sem.run Try.prog (Builtin.delete_ #[t, 3] ty #[.map (some b), .int .i64 i]) w = .ok (.tuple #[]) w' ∧ IMap R w' b (updI L i none) (if (L i).isSome then s - 1 else s) ∧ Turn (fun k => k = b) w w' := by
  obtain ⟨D, hm, hS⟩ := h
  obtain ⟨w', hrun, hown, hturn⟩ := hm.drop intKey ht (key_int hi) ty
  have hS2 := says_del hS (hm.tidy intKey) i
  exact ⟨w', hrun, ⟨_, hS2.2 ▸ own_tight hown, hS2⟩, turn_map hturn⟩
theorem IMap.len {t e : TypeId} (h : IMap R w b L s) (ht : Try.prog.underlying t = some (.map 3 e)) (ty : TypeId) : Sem.run Try.prog (Builtin.len_ #[t] ty #[.map (some b)]) w = .ok (.int .i64 s) w := by
  obtain ⟨D, hm, hS⟩ := h
  rw [← hS.2]
  exact hm.len ht ty
end

section
variable {w : World} {b s : Nat} {L : Int → Option Int} {A : Int → Option Nat}
theorem PMap.look (h : PMap w b L s) (i : Int) (hi : fit i) : Sem.run Try.prog (Instr.lookup 94 (.map (some b)) (.int .i64 i) true) w = .ok (.tuple #[.int .i64 ((L i).getD 0), .bool (L i).isSome]) w := by
  obtain ⟨D, hm, hS⟩ := h
  obtain ⟨v, ps, hrun, hv⟩ := hm.look_ok intKey pmapUnder (zeroInt w) (plainElem_int Try.underlying3 (by decide)) (key_int hi)
  rw [(hS.1 i).1] at hrun
  rw [(hS.1 i).2] at hv
  obtain ⟨c, rfl, hc, hwc⟩ := plainElem_int_inv Try.underlying3 hv
  rw [hrun]
  cases hL : L i with
  | none =>
    rw [hL] at hc
    simp at hc
    rw [hc.1]; rfl
  | some z =>
    rw [hL] at hc
    simp at hc
    rw [hc.1]; rfl
theorem PMap.look1 (h : PMap w b L s) (i : Int) (hi : fit i) : Sem.run Try.prog (Instr.lookup 94 (.map (some b)) (.int .i64 i) false) w = .ok (.int .i64 ((L i).getD 0)) w := by
  obtain ⟨D, hm, hS⟩ := h
  obtain ⟨v, ps, hrun, hv⟩ := hm.lookup intKey pmapUnder (zeroInt w) (plainElem_int Try.underlying3 (by decide)) (key_int hi)
  rw [(hS.1 i).2] at hv
  obtain ⟨c, rfl, hc, hwc⟩ := plainElem_int_inv Try.underlying3 hv
  rw [hrun]
  cases hL : L i with
  | none =>
    rw [hL] at hc
    simp at hc
    rw [hc.1]; rfl
  | some z =>
    rw [hL] at hc
    simp at hc
    rw [hc.1]; rfl
theorem PMap.put (h : PMap w b L s) (hs : s < maxLen) (i v : Int) (hi : fit i) (hv : fit v) :
    ∃ w', Sem.run Try.prog (Instr.mapUpdate 94 (.map (some b)) (.int .i64 i) (.int .i64 v)) w = .ok () w' ∧ PMap w' b (updI L i (some v)) (if (L i).isSome then s else s + 1) ∧ Turn (fun k => k = b) w w' :=
  IMap.put h pmapUnder hs hi (plainElem_int Try.underlying3 (wf_int hv))
theorem PMap.drop (h : PMap w b L s) (i : Int) (hi : fit i) (ty : TypeId) :
    ∃ w', Sem.run Try.prog (Builtin.delete_ #[94, 3] ty #[.map (some b), .int .i64 i]) w = .ok (.tuple #[]) w' ∧ PMap w' b (updI L i none) (if (L i).isSome then s - 1 else s) ∧ Turn (fun k => k = b) w w' := IMap.drop h pmapUnder hi ty
theorem PMap.len (h : PMap w b L s) (ty : TypeId) : Sem.run Try.prog (Builtin.len_ #[94] ty #[.map (some b)]) w = .ok (.int .i64 s) w := IMap.len h pmapUnder ty

theorem OMap.look (h : OMap w b A s) (i : Int) (hi : fit i) : Sem.run Try.prog (Instr.lookup 89 (.map (some b)) (.int .i64 i) false) w = .ok (ptrOf (A i)) w := by
  obtain ⟨D, hm, hS⟩ := h
  obtain ⟨v, ps, hrun, hv⟩ := hm.lookup intKey omapUnder (zeroPtr w) (zd := .lit (.int .i64 (-1))) (zp := []) rfl (key_int hi)
  rw [(hS.1 i).2] at hv
  have : v = ptrOf (A i) := by
    cases hA : A i with
    | none => simp only [hA] at hv; exact ptrElem_inv (x := none) hv
    | some a => simp only [hA] at hv; exact ptrElem_inv (x := some a) hv
  rw [hrun, this]
theorem omap_upd (i : Int) (v : Option Nat) : (fun j => (updI A i v j).map fun (n : Nat) => (n : Int)) = updI (fun j => (A j).map fun (n : Nat) => (n : Int)) i (v.map fun (n : Nat) => (n : Int)) := by
  funext j
  unfold updI
  by_cases h : j = i
  · simp [h]
  · simp [h]
theorem OMap.put (h : OMap w b A s) (hs : s < maxLen) (i : Int) (a : Nat) (hi : fit i) :
    ∃ w', Sem.run Try.prog (Instr.mapUpdate 89 (.map (some b)) (.int .i64 i) (.pointer (some ⟨a, 0, none⟩))) w = .ok () w' ∧ OMap w' b (updI A i (some a)) (if (A i).isSome then s else s + 1) ∧ Turn (fun k => k = b) w w' := by
  obtain ⟨w', h1, h2, h3⟩ := IMap.put h omapUnder hs hi (val := .pointer (some ⟨a, 0, none⟩)) (v := a) (ps := []) rfl
  refine ⟨w', h1, ?_, h3⟩
  unfold OMap
  rw [omap_upd]
  simpa using h2
theorem OMap.drop (h : OMap w b A s) (i : Int) (hi : fit i) (ty : TypeId) :
    ∃ w', Sem.run Try.prog (Builtin.delete_ #[89, 3] ty #[.map (some b), .int .i64 i]) w = .ok (.tuple #[]) w' ∧ OMap w' b (updI A i none) (if (A i).isSome then s - 1 else s) ∧ Turn (fun k => k = b) w w' := by
  obtain ⟨w', h1, h2, h3⟩ := IMap.drop h omapUnder hi ty
  refine ⟨w', h1, ?_, h3⟩
  unfold OMap
  rw [omap_upd]
  simpa using h2
theorem OMap.len (h : OMap w b A s) (ty : TypeId) : Sem.run Try.prog (Builtin.len_ #[89] ty #[.map (some b)]) w = .ok (.int .i64 s) w := IMap.len h omapUnder ty
end
end Go.Proofs.Ytdddmjdlikjedaa

/-
  A set of objects in memory: the pool, the map of objects, each object and the map of its pages; what each step keeps. No walk, no conditions.
-/
namespace Go.Proofs.Ytdddmjdlikjedaa
open Go.ChangeShapes Go.WideShapes Go.ChangeAt Go.RowKit

/-- An object: pgs says which frame a page has, cnt how many have one. -/
structure Ob where
  size : Nat
  par : Nat
  kids : Nat
  slc : Nat
  depth : Nat
  frm : Nat
  drp : Bool
  pgs : Int → Option Int
  cnt : Nat
def Ob.cells (o : Ob) (pb : Nat) : Array Value :=
  #[.int .i64 (o.size : Int), .int .i64 (o.par : Int), .int .i64 (o.kids : Int), .int .i64 (o.slc : Int), .int .i64 (o.depth : Int), .int .i64 (o.frm : Int), .bool o.drp, .map (some pb)]
/-- A set: O the objects by their ids, L the frames. -/
structure Mod where
  most : Nat
  made : Nat
  live : Nat
  O : Int → Option Ob
  L : List Pg
/-- Where a set lies. -/
structure Rep where
  p : Nat
  mo : Nat
  A : Int → Option Nat
  B : Int → Option Nat
  FP : Nat → Prop

structure SMem (w : World) (s : Nat) (r : Rep) (M : Mod) : Prop where
  head : w.heap[s]? = some (.cells #[.pointer (some ⟨r.p, 0, none⟩), .int .i64 (M.most : Int), .int .i64 (M.made : Int), .map (some r.mo)] 91 (0, 0))
  pool : PoolAt w r.p r.FP M.L
  omap : OMap w r.mo r.A M.live
  ob : ∀ i a, r.A i = some a → ∃ o pb, M.O i = some o ∧ r.B i = some pb ∧ w.heap[a]? = some (.cells (o.cells pb) 96 (0, 0)) ∧ PMap w pb o.pgs o.cnt
  no : ∀ i, r.A i = none → M.O i = none ∧ r.B i = none
  injA : ∀ i j a, r.A i = some a → r.A j = some a → i = j
  injB : ∀ i j b, r.B i = some b → r.B j = some b → i = j
  bmo : ∀ i b, r.B i = some b → b ≠ r.mo
  ids : ∀ i a, r.A i = some a → 1 ≤ i ∧ i ≤ M.made
  pS : ¬ r.FP s
  pM : ¬ r.FP r.mo
  pA : ∀ i a, r.A i = some a → ¬ r.FP a
  pB : ∀ i b, r.B i = some b → ¬ r.FP b
def SFoot (s : Nat) (r : Rep) (k : Nat) : Prop := k = s ∨ k = r.mo ∨ r.FP k ∨ (∃ i, r.A i = some k) ∨ (∃ i, r.B i = some k)

theorem map_ne_cells {w : World} {a b : Nat} {es : Array MapEntry} {clock : Nat} {c : Array Value} {t : TypeId} {f : Nat × Nat} (h : w.heap[a]? = some (.map es clock)) (h' : w.heap[b]? = some (.cells c t f)) : a ≠ b := by
  intro e
  subst e
  rw [h] at h'
  simp at h'

section
variable {w w' : World} {s : Nat} {r : Rep} {M : Mod}
theorem SMem.live (h : SMem w s r M) {i : Int} {o : Ob} (ho : M.O i = some o) : ∃ a pb, r.A i = some a ∧ r.B i = some pb ∧ w.heap[a]? = some (.cells (o.cells pb) 96 (0, 0)) ∧ PMap w pb o.pgs o.cnt := by
  cases hA : r.A i with
  | none => rw [(h.no i hA).1] at ho; cases ho
  | some a =>
    obtain ⟨o', pb, h1, h2, h3, h4⟩ := h.ob i a hA
    rw [ho] at h1
    cases h1
    exact ⟨a, pb, rfl, h2, h3, h4⟩
theorem SMem.dead (h : SMem w s r M) {i : Int} (ho : M.O i = none) : r.A i = none := by
  cases hA : r.A i with
  | none => rfl
  | some a =>
    obtain ⟨o', pb, h1, _⟩ := h.ob i a hA
    rw [ho] at h1
    cases h1
theorem SMem.blk (h : SMem w s r M) {i : Int} {b : Nat} (hb : r.B i = some b) : ∃ a o, r.A i = some a ∧ M.O i = some o ∧ w.heap[a]? = some (.cells (o.cells b) 96 (0, 0)) ∧ PMap w b o.pgs o.cnt := by
  cases hA : r.A i with
  | none => rw [(h.no i hA).2] at hb; cases hb
  | some a =>
    obtain ⟨o', pb, h1, h2, h3, h4⟩ := h.ob i a hA
    rw [hb] at h2
    cases h2
    exact ⟨a, o', rfl, h1, h3, h4⟩
theorem SMem.lt (h : SMem w s r M) {k : Nat} (hk : SFoot s r k) : k < w.heap.size := by
  rcases hk with rfl | rfl | hk | ⟨i, hk⟩ | ⟨i, hk⟩
  · exact lt_of_block h.head
  · exact h.omap.lt
  · exact h.pool.lt hk
  · obtain ⟨o, pb, _, _, h3, _⟩ := h.ob i k hk
    exact lt_of_block h3
  · obtain ⟨a, o, _, _, _, h4⟩ := h.blk hk
    exact h4.lt
theorem SMem.aS (h : SMem w s r M) {i : Int} {a : Nat} (ha : r.A i = some a) : a ≠ s := by
  obtain ⟨o, pb, _, _, h3, _⟩ := h.ob i a ha
  exact unlike h3 h.head (by decide)
theorem SMem.aM (h : SMem w s r M) {i : Int} {a : Nat} (ha : r.A i = some a) : a ≠ r.mo := by
  obtain ⟨o, pb, _, _, h3, _⟩ := h.ob i a ha
  obtain ⟨es, clock, hm⟩ := IMap.isMap h.omap
  exact fun e => map_ne_cells hm h3 e.symm
theorem SMem.aB (h : SMem w s r M) {i j : Int} {a b : Nat} (ha : r.A i = some a) (hb : r.B j = some b) : a ≠ b := by
  obtain ⟨o, pb, _, _, h3, _⟩ := h.ob i a ha
  obtain ⟨a', o', _, _, _, h4⟩ := h.blk hb
  obtain ⟨es, clock, hm⟩ := IMap.isMap h4
  exact fun e => map_ne_cells hm h3 e.symm
theorem SMem.bS (h : SMem w s r M) {j : Int} {b : Nat} (hb : r.B j = some b) : b ≠ s := by
  obtain ⟨a', o', _, _, _, h4⟩ := h.blk hb
  obtain ⟨es, clock, hm⟩ := IMap.isMap h4
  exact fun e => map_ne_cells hm h.head e
theorem SMem.mS (h : SMem w s r M) : r.mo ≠ s := by
  obtain ⟨es, clock, hm⟩ := IMap.isMap h.omap
  exact fun e => map_ne_cells hm h.head e

theorem SMem.kept {G : Nat → Prop} (h : SMem w s r M) (t : Turn G w w') (hG : ∀ k, SFoot s r k → ¬ G k) : SMem w' s r M :=
  ⟨t.heap h.head (hG _ (.inl rfl)), (pool_own _ _ _).kept _ _ G h.pool t (fun k hk => hG k (.inr (.inr (.inl hk)))), IMap.past h.omap t (hG _ (.inr (.inl rfl))),
    fun i a ha => by
      obtain ⟨o, pb, h1, h2, h3, h4⟩ := h.ob i a ha
      exact ⟨o, pb, h1, h2, t.heap h3 (hG _ (.inr (.inr (.inr (.inl ⟨i, ha⟩))))), IMap.past h4 t (hG _ (.inr (.inr (.inr (.inr ⟨i, h2⟩)))))⟩,
    h.no, h.injA, h.injB, h.bmo, h.ids, h.pS, h.pM, h.pA, h.pB⟩
theorem SMem.past (h : SMem w s r M) (t : Turn NoBlock w w') : SMem w' s r M := h.kept t (fun _ _ h => h)

/-- The pool has become another one. -/
theorem SMem.setPool {F' : Nat → Prop} {L' : List Pg} (h : SMem w s r M) (hp : PoolAt w' r.p F' L') (t : Turn r.FP w w') (hf : ∀ j, F' j → r.FP j ∨ w.heap.size ≤ j) :
    SMem w' s { r with FP := F' } { M with L := L' } := by
  have hn : ∀ k, SFoot s r k → ¬ r.FP k → ¬ F' k := fun k hk hk' hF => by
    rcases hf k hF with h1 | h1
    · exact hk' h1
    · have := h.lt hk; omega
  exact ⟨t.heap h.head h.pS, hp, IMap.past h.omap t h.pM,
    fun i a ha => by
      obtain ⟨o, pb, h1, h2, h3, h4⟩ := h.ob i a ha
      exact ⟨o, pb, h1, h2, t.heap h3 (h.pA i a ha), IMap.past h4 t (h.pB i pb h2)⟩,
    h.no, h.injA, h.injB, h.bmo, h.ids, hn _ (.inl rfl) h.pS, hn _ (.inr (.inl rfl)) h.pM, fun i a ha => hn a (.inr (.inr (.inr (.inl ⟨i, ha⟩)))) (h.pA i a ha), fun i b hb => hn b (.inr (.inr (.inr (.inr ⟨i, hb⟩)))) (h.pB i b hb)⟩

/-- One object has become another one: its own cells, its pages or both. -/
theorem SMem.setOb {i : Int} {a pb : Nat} {o' : Ob} {G : Nat → Prop} (h : SMem w s r M) (ha : r.A i = some a) (hb : r.B i = some pb) (t : Turn G w w') (hG : ∀ k, G k → k = a ∨ k = pb)
    (hc : w'.heap[a]? = some (.cells (o'.cells pb) 96 (0, 0))) (hm : PMap w' pb o'.pgs o'.cnt) : SMem w' s r { M with O := updI M.O i (some o') } := by
  refine ⟨t.heap h.head (fun hk => ?_), (pool_own _ _ _).kept _ _ G h.pool t (fun k hk hk' => ?_), IMap.past h.omap t (fun hk => ?_), fun j c hj => ?_, fun j hj => ?_, h.injA, h.injB, h.bmo, h.ids, h.pS, h.pM, h.pA, h.pB⟩
  · rcases hG _ hk with e | e
    · exact h.aS ha e.symm
    · exact h.bS hb e.symm
  · rcases hG _ hk' with rfl | rfl
    · exact h.pA i k ha hk
    · exact h.pB i k hb hk
  · rcases hG _ hk with e | e
    · exact h.aM ha e.symm
    · exact h.bmo i _ hb e.symm
  · by_cases e : j = i
    · subst e
      rw [ha] at hj
      cases hj
      exact ⟨o', pb, by simp [updI], hb, hc, hm⟩
    · obtain ⟨x, qb, h1, h2, h3, h4⟩ := h.ob j c hj
      refine ⟨x, qb, by simp [updI, e, h1], h2, t.heap h3 (fun hk => ?_), IMap.past h4 t (fun hk => ?_)⟩
      · rcases hG _ hk with e1 | e1
        · subst e1; exact e (h.injA j i _ hj ha)
        · exact h.aB hj hb e1
      · rcases hG _ hk with e1 | e1
        · exact h.aB ha h2 e1.symm
        · subst e1; exact e (h.injB j i _ h2 hb)
  · have hne : j ≠ i := fun e => by subst e; rw [ha] at hj; cases hj
    exact ⟨by simp [updI, hne, (h.no j hj).1], (h.no j hj).2⟩

/-- The cells of the set. -/
theorem SMem.c0 (h : SMem w s r M) : w.cell? ⟨s, 0, none⟩ = some (.pointer (some ⟨r.p, 0, none⟩)) := by simpa using cell_at h.head 0
theorem SMem.c1 (h : SMem w s r M) : w.cell? ⟨s, 1, none⟩ = some (.int .i64 (M.most : Int)) := by simpa using cell_at h.head 1
theorem SMem.c2 (h : SMem w s r M) : w.cell? ⟨s, 2, none⟩ = some (.int .i64 (M.made : Int)) := by simpa using cell_at h.head 2
theorem SMem.c3 (h : SMem w s r M) : w.cell? ⟨s, 3, none⟩ = some (.map (some r.mo)) := by simpa using cell_at h.head 3
theorem SMem.f (h : SMem w s r M) (j : Nat) : w.frozen? ⟨s, j, none⟩ = false := free_at h.head j
end

/-- The cells of an object. -/
structure OCells (w : World) (a pb : Nat) (o : Ob) : Prop where
  c0 : w.cell? ⟨a, 0, none⟩ = some (.int .i64 (o.size : Int))
  c1 : w.cell? ⟨a, 1, none⟩ = some (.int .i64 (o.par : Int))
  c2 : w.cell? ⟨a, 2, none⟩ = some (.int .i64 (o.kids : Int))
  c3 : w.cell? ⟨a, 3, none⟩ = some (.int .i64 (o.slc : Int))
  c4 : w.cell? ⟨a, 4, none⟩ = some (.int .i64 (o.depth : Int))
  c5 : w.cell? ⟨a, 5, none⟩ = some (.int .i64 (o.frm : Int))
  c6 : w.cell? ⟨a, 6, none⟩ = some (.bool o.drp)
  c7 : w.cell? ⟨a, 7, none⟩ = some (.map (some pb))
  f : ∀ j, w.frozen? ⟨a, j, none⟩ = false
theorem ocells {w : World} {a pb : Nat} {o : Ob} (h : w.heap[a]? = some (.cells (o.cells pb) 96 (0, 0))) : OCells w a pb o :=
  ⟨by simpa [Ob.cells] using cell_at h 0, by simpa [Ob.cells] using cell_at h 1, by simpa [Ob.cells] using cell_at h 2, by simpa [Ob.cells] using cell_at h 3, by simpa [Ob.cells] using cell_at h 4, by simpa [Ob.cells] using cell_at h 5, by simpa [Ob.cells] using cell_at h 6, by simpa [Ob.cells] using cell_at h 7, fun j => free_at h j⟩
end Go.Proofs.Ytdddmjdlikjedaa

/-
  What num's functions answer that layer 8 uses: Add, Down, Up, Within, Pages. No conditions but that arguments are numbers of 64 bits.
-/
namespace Go.Proofs.Ytdddmjdlikjedaa
open Go.ChangeShapes Go.WideShapes Go.ChangeAt Go.RowKit

theorem wrap_i64_toInt (x : BitVec 64) : IntKind.i64.wrap (x.toNat : Int) = x.toInt := by
  have hx := x.isLt
  rw [BitVec.toInt_eq_toNat_cond]
  have e : IntKind.i64.wrap (x.toNat : Int) = (if (x.toNat : Int) % 18446744073709551616 ≥ 9223372036854775808 then (x.toNat : Int) % 18446744073709551616 - 18446744073709551616 else (x.toNat : Int) % 18446744073709551616) := by
    simp [IntKind.wrap, IntKind.bits, IntKind.signed]
  rw [e]
  split <;> split <;> omega

theorem and_i64 (a b : Int) : bits .and .i64 a b = (BitVec.ofInt 64 a &&& BitVec.ofInt 64 b).toInt := by
  show IntKind.i64.wrap ((BitVec.ofInt 64 a &&& BitVec.ofInt 64 b).toNat : Int) = _
  exact wrap_i64_toInt _
theorem xor_i64 (a b : Int) : bits .xor .i64 a b = (BitVec.ofInt 64 a ^^^ BitVec.ofInt 64 b).toInt := by
  show IntKind.i64.wrap ((BitVec.ofInt 64 a ^^^ BitVec.ofInt 64 b).toNat : Int) = _
  exact wrap_i64_toInt _

theorem msb_ofInt (a : Int) (h : fit a) : (BitVec.ofInt 64 a).msb = decide (a < 0) := by
  unfold fit at h
  rw [BitVec.msb_eq_toInt, BitVec.toInt_ofInt_eq_self (by omega) (by omega) (by omega)]

theorem sign_of (a b c d : Int) (ha : fit a) (hb : fit b) (hc : fit c) (hd : fit d) :
    bits .and .i64 (bits .xor .i64 a b) (bits .xor .i64 c d) < 0 ↔ (a < 0 ↔ ¬ b < 0) ∧ (c < 0 ↔ ¬ d < 0) := by
  rw [and_i64, xor_i64, xor_i64, BitVec.ofInt_toInt, BitVec.ofInt_toInt, ← decide_eq_true_eq (p := BitVec.toInt _ < 0), ← BitVec.msb_eq_toInt, BitVec.msb_and, BitVec.msb_xor, BitVec.msb_xor,
    msb_ofInt a ha, msb_ofInt b hb, msb_ofInt c hc, msb_ofInt d hd]
  simp only [Bool.and_eq_true, bne_iff_ne, ne_eq, decide_eq_decide]
  omega

theorem add_lt (a b : Int) (ha : fit a) (hb : fit b) (h : fit (a + b)) :
    0 ≤ bits .and .i64 (bits .xor .i64 a (a + b)) (bits .xor .i64 b (a + b)) := by
  have := sign_of a (a + b) b (a + b) ha h hb h
  unfold fit at *; omega
theorem add_ge (a b : Int) (ha : fit a) (hb : fit b) (h : ¬ fit (a + b)) :
    bits .and .i64 (bits .xor .i64 a (wrap64 (a + b))) (bits .xor .i64 b (wrap64 (a + b))) < 0 := by
  have hw : fit (wrap64 (a + b)) := by unfold fit wrap64; omega
  have := sign_of a (wrap64 (a + b)) b (wrap64 (a + b)) ha hw hb hw
  unfold fit wrap64 at *; omega
theorem emod_le (n mto : Int) (hn : 0 ≤ n) (ht : 1 ≤ mto) : 0 ≤ n % mto ∧ n % mto ≤ n ∧ n % mto < mto := by
  have h1 := Int.mul_ediv_add_emod n mto
  have h2 : 0 ≤ mto * (n / mto) := Int.mul_nonneg (by omega) (Int.ediv_nonneg hn (by omega))
  have h3 := Int.emod_nonneg n (b := mto) (by omega)
  have h4 := Int.emod_lt_of_pos n (b := mto) (by omega)
  omega

theorem add_yes (a b : Int) (w : World) (ha : fit a) (hb : fit b) (h : fit (a + b)) :
    Calls Try.prog 99 #[.int .i64 a, .int .i64 b] w fun e w' => e = .returned (.tuple #[.int .i64 (a + b), .bool true]) ∧ w = w' := by
  have hs := add_lt a b ha hb h
  unfold fit at ha hb h
  go_enter Try.func99, Try.ntmps99
  go_wp2
  go_ret2
  exact ⟨rfl, rfl⟩
theorem add_no (a b : Int) (w : World) (ha : fit a) (hb : fit b) (h : ¬ fit (a + b)) :
    Calls Try.prog 99 #[.int .i64 a, .int .i64 b] w fun e w' => e = .returned (.tuple #[.int .i64 0, .bool false]) ∧ w = w' := by
  have hs := add_ge a b ha hb h
  clear ha hb h
  go_enter Try.func99, Try.ntmps99
  go_wp2
  go_ret2
  exact ⟨rfl, rfl⟩

theorem down_yes (n mto : Int) (w : World) (hn : 0 ≤ n) (hn' : n ≤ 9223372036854775807) (ht : 1 ≤ mto) (ht' : mto ≤ 9223372036854775807) :
    Calls Try.prog 98 #[.int .i64 n, .int .i64 mto] w fun e w' => e = .returned (.tuple #[.int .i64 (n - n % mto), .bool true]) ∧ w = w' := by
  obtain ⟨hm, hm', -⟩ := emod_le n mto hn ht
  go_enter Try.func98, Try.ntmps98
  go_wp2
  go_ret2
  exact ⟨rfl, rfl⟩
theorem down_no (n mto : Int) (w : World) (h : mto < 1 ∨ n < 0) :
    Calls Try.prog 98 #[.int .i64 n, .int .i64 mto] w fun e w' => e = .returned (.tuple #[.int .i64 0, .bool false]) ∧ w = w' := by
  rcases h with h | h
  all_goals
    by_cases ht : mto < 1
    all_goals
      go_enter Try.func98, Try.ntmps98
      go_wp2
      go_ret2
      exact ⟨rfl, rfl⟩

theorem up_no (n mto : Int) (w : World) (h : mto < 1 ∨ n < 0) :
    Calls Try.prog 78 #[.int .i64 n, .int .i64 mto] w fun e w' => e = .returned (.tuple #[.int .i64 0, .bool false]) ∧ w = w' := by
  have c := fun w => down_no n mto w h
  clear h
  go_enter Try.func78, Try.ntmps78
  go_wp2_with (go_at_call 98; (with_reducible refine (c _).mono ?_); rintro e w' ⟨rfl, rfl⟩)
  go_ret2
  exact ⟨rfl, rfl⟩
theorem up_same (n mto : Int) (w : World) (hn : 0 ≤ n) (hn' : n ≤ 9223372036854775807) (ht : 1 ≤ mto) (ht' : mto ≤ 9223372036854775807) (h : n % mto = 0) :
    Calls Try.prog 78 #[.int .i64 n, .int .i64 mto] w fun e w' => e = .returned (.tuple #[.int .i64 n, .bool true]) ∧ w = w' := by
  have c := fun w => down_yes n mto w hn hn' ht ht'
  rw [h, Int.sub_zero] at c
  clear h
  go_enter Try.func78, Try.ntmps78
  go_wp2_with (go_at_call 98; (with_reducible refine (c _).mono ?_); rintro e w' ⟨rfl, rfl⟩)
  go_ret2
  exact ⟨rfl, rfl⟩
theorem up_yes (n mto : Int) (w : World) (hn : 0 ≤ n) (hn' : n ≤ 9223372036854775807) (ht : 1 ≤ mto) (ht' : mto ≤ 9223372036854775807) (h : n % mto ≠ 0) (hf : fit (n - n % mto + mto)) :
    Calls Try.prog 78 #[.int .i64 n, .int .i64 mto] w fun e w' => e = .returned (.tuple #[.int .i64 (n - n % mto + mto), .bool true]) ∧ w = w' := by
  have c := fun w => down_yes n mto w hn hn' ht ht'
  obtain ⟨hm, hm', -⟩ := emod_le n mto hn ht
  obtain ⟨d, hd⟩ : ∃ d, n - n % mto = d := ⟨_, rfl⟩
  rw [hd] at c hf ⊢
  have c2 := fun w => add_yes d mto w (by unfold fit; omega) (by unfold fit; omega) hf
  have hne : ¬ d = n := by omega
  clear h hf hd hm hm'
  go_enter Try.func78, Try.ntmps78
  go_wp2_with (first | (go_at_call 98; (with_reducible refine (c _).mono ?_); rintro e w' ⟨rfl, rfl⟩) | (go_at_call 99; (with_reducible refine (c2 _).mono ?_); rintro e w' ⟨rfl, rfl⟩))
  go_ret2
  exact ⟨rfl, rfl⟩
theorem within_yes (a n s : Int) (w : World) (h : 0 ≤ a ∧ 0 ≤ n ∧ a + n ≤ s) (hs : s ≤ 9223372036854775807) :
    Calls Try.prog 52 #[.int .i64 a, .int .i64 n, .int .i64 s] w fun e w' => e = .returned (.bool true) ∧ w = w' := by
  obtain ⟨h1, h2, h3⟩ := h
  have h4 : a ≤ s := by omega
  have h5 : n ≤ s - a := by omega
  go_enter Try.func52, Try.ntmps52
  go_wp2
  all_goals
    go_ret
    exact ⟨rfl, rfl⟩
theorem within_no (a n s : Int) (w : World) (h : ¬ (0 ≤ a ∧ 0 ≤ n ∧ a + n ≤ s)) (ha : fit a) (hn : fit n) (hs : fit s) :
    Calls Try.prog 52 #[.int .i64 a, .int .i64 n, .int .i64 s] w fun e w' => e = .returned (.bool false) ∧ w = w' := by
  unfold fit at ha hn hs
  by_cases h1 : a < 0
  · by_cases h2 : n ≤ a
    all_goals
      clear h
      go_enter Try.func52, Try.ntmps52
      go_wp2
      all_goals
        go_ret
        exact ⟨rfl, rfl⟩
  · by_cases h2 : n < 0
    · clear h
      go_enter Try.func52, Try.ntmps52
      go_wp2
      all_goals
        go_ret
        exact ⟨rfl, rfl⟩
    · by_cases h3 : s < a
      · clear h
        go_enter Try.func52, Try.ntmps52
        go_wp2
        all_goals
          go_ret
          exact ⟨rfl, rfl⟩
      · have h4 : decide (n ≤ s - a) = false := by simp; omega
        clear h
        go_enter Try.func52, Try.ntmps52
        go_wp2
        all_goals
          go_ret
          exact ⟨rfl, rfl⟩

theorem pages_no (a n : Int) (w : World) (h : ¬ (0 ≤ a ∧ 0 ≤ n ∧ fit (a + n))) (ha : fit a) (hn : fit n) :
    Calls Try.prog 79 #[.int .i64 a, .int .i64 n] w fun e w' => e = .returned (.tuple #[.int .i64 0, .int .i64 0, .bool false]) ∧ w = w' := by
  by_cases hf : fit (a + n)
  · have c := fun w => add_yes a n w ha hn hf
    have h1 : a < 0 ∨ n < 0 := by
      have : ¬ (0 ≤ a ∧ 0 ≤ n) := fun hh => h ⟨hh.1, hh.2, hf⟩
      omega
    unfold fit at *
    clear h hf
    rcases h1 with h1 | h1
    all_goals
      go_enter Try.func79, Try.ntmps79
      go_wp2_with (go_at_call 99; (with_reducible refine (c _).mono ?_); rintro e w' ⟨rfl, rfl⟩)
      all_goals
        go_ret3
        exact ⟨rfl, rfl⟩
  · have c := fun w => add_no a n w ha hn hf
    clear h hf ha hn
    go_enter Try.func79, Try.ntmps79
    go_wp2_with (go_at_call 99; (with_reducible refine (c _).mono ?_); rintro e w' ⟨rfl, rfl⟩)
    all_goals
      go_ret3
      exact ⟨rfl, rfl⟩
theorem pages_none (a : Int) (w : World) (h1 : 0 ≤ a) (ha : fit a) :
    Calls Try.prog 79 #[.int .i64 a, .int .i64 0] w fun e w' => e = .returned (.tuple #[.int .i64 (a / 64), .int .i64 0, .bool true]) ∧ w = w' := by
  have c := fun w => add_yes a 0 w ha (by unfold fit; omega) (by simpa using ha)
  rw [Int.add_zero] at c
  unfold fit at ha
  go_enter Try.func79, Try.ntmps79
  go_wp2_with (go_at_call 99; (with_reducible refine (c _).mono ?_); rintro e w' ⟨rfl, rfl⟩)
  all_goals
    go_ret3
    exact ⟨rfl, rfl⟩
theorem pages_yes (a n : Int) (w : World) (h1 : 0 ≤ a) (h2 : 1 ≤ n) (h3 : a + n ≤ 9223372036854775807) :
    Calls Try.prog 79 #[.int .i64 a, .int .i64 n] w fun e w' => e = .returned (.tuple #[.int .i64 (a / 64), .int .i64 ((a + n - 1) / 64 - a / 64 + 1), .bool true]) ∧ w = w' := by
  have c := fun w => add_yes a n w (by unfold fit; omega) (by unfold fit; omega) (by unfold fit; omega)
  go_enter Try.func79, Try.ntmps79
  go_wp2_with (go_at_call 99; (with_reducible refine (c _).mono ?_); rintro e w' ⟨rfl, rfl⟩)
  all_goals
    go_ret3
    exact ⟨rfl, rfl⟩
end Go.Proofs.Ytdddmjdlikjedaa

/-
  What a set's small calls answer: New, rounded, find, Count, Room, whole. No conditions but that the set is one that calls can make.
-/
namespace Go.Proofs.Ytdddmjdlikjedaa
open Go.ChangeShapes Go.WideShapes Go.ChangeAt Go.RowKit

def M0 (n m : Nat) : Mod := ⟨m, 0, 0, fun _ => none, List.replicate n Pg.none⟩

theorem vnew_no (n m : Int) (w : World) (h : n < 0 ∨ 65536 < n ∨ m < 0 ∨ 65536 < m) :
    Calls Try.prog 14 #[.int .i64 n, .int .i64 m] w fun e w' => e = .returned (.pointer none) ∧ Turn NoBlock w w' := by
  by_cases hn : n < 0 ∨ 65536 < n
  · have c1 := new_no n w hn
    clear h hn
    go_enter Try.func14, Try.ntmps14
    go_wp2_with (go_at_call 48; (with_reducible refine c1.mono ?_); rintro x w1 ⟨rfl, rfl⟩)
    go_ret
    exact ⟨rfl, Turn.refl _ _⟩
  · obtain ⟨k, rfl⟩ : ∃ k : Nat, n = k := ⟨n.toNat, by omega⟩
    have c1 := new_yes k w (by omega)
    have hm : m < 0 ∨ (¬ m < 0 ∧ 65536 < m) := by omega
    clear h hn
    rcases hm with hm | ⟨hm1, hm2⟩
    all_goals
      go_enter Try.func14, Try.ntmps14
      go_wp2_with (go_at_call 48; (with_reducible refine c1.mono ?_); rintro x w1 ⟨rfl, F1, h1, t1, l1⟩; have K1 := Lib.hid t1; clear h1 t1 l1)
      go_ret
      exact ⟨rfl, K1.out⟩

theorem smem_start {w w1 : World} {n m a : Nat} {F : Nat → Prop} (hp : PoolAt w1 a F (List.replicate n Pg.none)) (t : Turn NoBlock w w1) (hf : ∀ k, F k → w.heap.size ≤ k) (ha : w.heap.size = a) (o : Obj)
    (ho : o = .cells #[.pointer (some ⟨a, 0, none⟩), .int .i64 (m : Int), .int .i64 0, .map (some w1.heap.size)] 91) :
    SMem ((w1.alloc (.map #[] 0)).alloc o) (w1.heap.size + 1) ⟨a, w1.heap.size, fun _ => none, fun _ => none, F⟩ (M0 n m) ∧ Turn NoBlock w ((w1.alloc (.map #[] 0)).alloc o) ∧
      ∀ k, SFoot (w1.heap.size + 1) ⟨a, w1.heap.size, fun _ => none, fun _ => none, F⟩ k → w.heap.size ≤ k := by
  have hs := t.size
  have t1 : Turn NoBlock w1 (w1.alloc (.map #[] 0)) := (Turn.refl _ _).alloc _
  have t2 : Turn NoBlock (w1.alloc (.map #[] 0)) ((w1.alloc (.map #[] 0)).alloc o) := (Turn.refl _ _).alloc _
  have e1 : (w1.alloc (.map #[] 0)).heap.size = w1.heap.size + 1 := by simp
  subst ho
  refine ⟨⟨?_, (hp.past t1).past t2, ?_, fun i x h => by simp at h, fun i _ => ⟨rfl, rfl⟩, fun i j x h => by simp at h, fun i j x h => by simp at h, fun i x h => by simp at h, fun i x h => by simp at h, fun hk => ?_, fun hk => ?_, fun i x h => by simp at h, fun i x h => by simp at h⟩,
    (t.trans t1 (fun _ h => .inl h)).trans t2 (fun _ h => .inl h), fun k hk => ?_⟩
  · rw [← e1]
    exact heap_alloc_new _ _
  · have h0 : OMap (w1.alloc (.map #[] 0)) w1.heap.size (fun _ => none) 0 := IMap.made w1
    exact IMap.past h0 t2 (fun h => h)
  · have := hp.lt hk
    omega
  · have := hp.lt hk
    simp at this
  · rcases hk with rfl | rfl | hk | ⟨i, hk⟩ | ⟨i, hk⟩
    · omega
    · exact hs
    · exact hf k hk
    · simp at hk
    · simp at hk

theorem vnew_yes (n m : Nat) (w : World) (hn : n ≤ 65536) (hm : m ≤ 65536) :
    Calls Try.prog 14 #[.int .i64 n, .int .i64 m] w fun e w' => ∃ s r, e = .returned (.pointer (some ⟨s, 0, none⟩)) ∧ SMem w' s r (M0 n m) ∧ Turn NoBlock w w' ∧ ∀ k, SFoot s r k → w.heap.size ≤ k := by
  have c1 := new_yes n w hn
  obtain ⟨a, haw⟩ : ∃ a, w.heap.size = a := ⟨_, rfl⟩
  rw [haw] at c1
  have Haw := Lib.hid haw
  have h0 : ¬ (m : Int) < 0 := by omega
  have h1 : ¬ (65536 : Int) < m := by omega
  have hmm := @run_makeMap Try.prog
  clear hn hm haw
  go_enter Try.func14, Try.ntmps14
  go_wp2_with (go_at_call 48; (with_reducible refine c1.mono ?_); rintro x w1 ⟨rfl, F1, h1, t1, l1⟩; have K1 := Lib.hid (fun o ho => smem_start (m := m) h1 t1 (by rw [Haw.out]; exact l1) Haw.out o ho); clear h1 t1 l1)
  go_ret
  obtain ⟨k1, k2, k3⟩ := K1.out _ rfl
  exact ⟨_, _, by simp, k1, k2, fun k hk => by have e := k3 k hk; have := Haw.out; omega⟩

def upS (n : Int) : Nat := ((n.toNat + 63) / 64) * 64
theorem rounded_neg (n : Int) (w : World) (h : n < 0) : Calls Try.prog 49 #[.int .i64 n] w fun e w' => e = .returned (.tuple #[.int .i64 0, .int .i64 (-10)]) ∧ w = w' := by
  go_enter Try.func49, Try.ntmps49
  go_wp2
  go_ret2
  exact ⟨rfl, rfl⟩
theorem rounded_far (n : Int) (w : World) (h : 4294967296 < n) : Calls Try.prog 49 #[.int .i64 n] w fun e w' => e = .returned (.tuple #[.int .i64 0, .int .i64 (-14)]) ∧ w = w' := by
  have h0 : ¬ n < 0 := by omega
  go_enter Try.func49, Try.ntmps49
  go_wp2
  go_ret2
  exact ⟨rfl, rfl⟩
theorem rounded_yes (n : Int) (w : World) (h0 : 0 ≤ n) (h1 : n ≤ 4294967296) : Calls Try.prog 49 #[.int .i64 n] w fun e w' => e = .returned (.tuple #[.int .i64 (upS n : Nat), .int .i64 0]) ∧ w = w' := by
  have c : ∀ w, Calls Try.prog 78 #[.int .i64 n, .int .i64 64] w fun e w' => e = .returned (.tuple #[.int .i64 (upS n : Nat), .bool true]) ∧ w = w' := fun w => by
    by_cases hz : n % 64 = 0
    · rw [show ((upS n : Nat) : Int) = n by unfold upS; omega]
      exact up_same n 64 w h0 (by omega) (by omega) (by omega) hz
    · have c := up_yes n 64 w h0 (by omega) (by omega) (by omega) hz (by unfold fit; omega)
      rwa [show n - n % 64 + 64 = ((upS n : Nat) : Int) by unfold upS; omega] at c
  go_enter Try.func49, Try.ntmps49
  go_wp2_with (go_at_call 78; (with_reducible refine (c _).mono ?_); rintro x w1 ⟨rfl, rfl⟩)
  go_ret2
  exact ⟨rfl, rfl⟩

section
variable {w : World} {s : Nat} {r : Rep} {M : Mod}
def findS (M : Mod) (i : Int) : Int := match M.O i with | none => -25 | some o => if o.drp then -25 else 0
theorem find_no (h : SMem w s r M) (i : Int) (hi : fit i) (hn : findS M i ≠ 0) :
    Calls Try.prog 51 #[.pointer (some ⟨s, 0, none⟩), .int .i64 i] w fun e w' => e = .returned (.tuple #[.pointer none, .int .i64 (-25)]) ∧ w = w' := by
  have l1 := h.omap.look i hi
  have d3 := h.c3
  cases hO : M.O i with
  | none =>
    rw [h.dead hO] at l1
    unfold ptrOf at l1
    clear h hn hO
    go_enter Try.func51, Try.ntmps51
    go_wp2
    go_ret2
    exact ⟨rfl, rfl⟩
  | some o =>
    obtain ⟨a, pb, ha, hb, hc, hp⟩ := h.live hO
    rw [ha] at l1
    unfold ptrOf at l1
    have hd : o.drp = true := by
      unfold findS at hn
      rw [hO] at hn
      simpa using hn
    have d6 := (ocells hc).c6
    rw [hd] at d6
    clear h hn hO ha hb hc hp hd
    go_enter Try.func51, Try.ntmps51
    go_wp2
    go_ret2
    exact ⟨rfl, rfl⟩
theorem find_yes (h : SMem w s r M) (i : Int) (hi : fit i) {o : Ob} {a : Nat} (hO : M.O i = some o) (hd : o.drp = false) (ha : r.A i = some a) :
    Calls Try.prog 51 #[.pointer (some ⟨s, 0, none⟩), .int .i64 i] w fun e w' => e = .returned (.tuple #[.pointer (some ⟨a, 0, none⟩), .int .i64 0]) ∧ w = w' := by
  have l1 := h.omap.look i hi
  have d3 := h.c3
  obtain ⟨a', pb, ha', hb, hc, hp⟩ := h.live hO
  rw [ha] at ha'
  cases ha'
  rw [ha] at l1
  unfold ptrOf at l1
  have d6 := (ocells hc).c6
  rw [hd] at d6
  clear h hO ha hb hc hp hd
  go_enter Try.func51, Try.ntmps51
  go_wp2
  go_ret2
  exact ⟨rfl, rfl⟩
theorem count_any (h : SMem w s r M) : Calls Try.prog 26 #[.pointer (some ⟨s, 0, none⟩)] w fun e w' => e = .returned (.int .i64 (M.live : Int)) ∧ w = w' := by
  have l1 := fun ty => h.omap.len ty
  have d3 := h.c3
  clear h
  go_enter Try.func26, Try.ntmps26
  go_wp2
  go_ret
  exact ⟨rfl, rfl⟩
theorem vroom_any (h : SMem w s r M) : Calls Try.prog 27 #[.pointer (some ⟨s, 0, none⟩)] w fun e w' => e = .returned (.int .i64 ((M.L.length : Int) - usedN M.L)) ∧ ∃ m, w' = w.drewN m := by
  have c := room_any h.pool
  have d0 := h.c0
  clear h
  go_enter Try.func27, Try.ntmps27
  go_wp2_with (go_at_call 61; (with_reducible refine c.mono ?_); rintro x w1 ⟨rfl, q, rfl⟩)
  go_ret
  exact ⟨rfl, _, rfl⟩
end
theorem tmod64 (a : Int) : (a.tmod 64 = 0) ↔ a % 64 = 0 := ⟨fun h => Int.emod_eq_zero_of_dvd (Int.dvd_of_tmod_eq_zero h), fun h => Int.tmod_eq_zero_of_dvd (Int.dvd_of_emod_eq_zero h)⟩
theorem whole_any (a n : Int) (w : World) : Calls Try.prog 63 #[.int .i64 a, .int .i64 n] w fun e w' => e = .returned (.bool (decide (a % 64 = 0) && decide (n % 64 = 0))) ∧ w = w' := by
  by_cases h1 : a % 64 = 0
  · by_cases h2 : n % 64 = 0
    · have e1 := (tmod64 a).2 h1
      have e2 := (tmod64 n).2 h2
      have H := Lib.hid (And.intro h1 h2)
      clear h1 h2
      go_enter Try.func63, Try.ntmps63
      go_wp2
      all_goals
        go_ret
        exact ⟨ret_bool (by rw [decide_eq_true H.out.1, decide_eq_true H.out.2]; rfl), rfl⟩
    · have e1 := (tmod64 a).2 h1
      have e2 : ¬ n.tmod 64 = 0 := fun e => h2 ((tmod64 n).1 e)
      have e2b : (n.tmod 64 == 0) = false := by simpa using e2
      have H := Lib.hid (And.intro h1 h2)
      clear h1 h2
      go_enter Try.func63, Try.ntmps63
      go_wp2
      all_goals
        go_ret
        exact ⟨ret_bool (by rw [decide_eq_false H.out.2, Bool.and_false]), rfl⟩
  · have e1 : ¬ a.tmod 64 = 0 := fun e => h1 ((tmod64 a).1 e)
    have e1b : (a.tmod 64 == 0) = false := by simpa using e1
    have H := Lib.hid h1
    clear h1
    go_enter Try.func63, Try.ntmps63
    go_wp2
    all_goals
      go_ret
      exact ⟨ret_bool (by rw [decide_eq_false H.out, Bool.false_and]), rfl⟩
end Go.Proofs.Ytdddmjdlikjedaa

/-
  parts: what of a range lies in which page. No conditions but that the range is none of more than 4096 bytes.
-/
namespace Go.Proofs.Ytdddmjdlikjedaa
open Go.ChangeShapes Go.WideShapes Go.ChangeAt Go.RowKit

structure Pt where
  pg : Nat
  at' : Nat
  n : Nat
deriving DecidableEq
def ptCells (l : List Pt) : List Value := l.flatMap fun p => [.int .i64 (p.pg : Int), .int .i64 (p.at' : Int), .int .i64 (p.n : Int)]
def Parts (v : Value) (ps : List Pt) (w : World) : Prop := w.ownsRow 0 105 3 v ps.length (ptCells ps)
def goP : Nat → Nat → Nat → Nat → List Pt
  | 0, _, _, _ => []
  | k + 1, p, i, n => if n = 0 then [] else ⟨p, i, min n (64 - i)⟩ :: goP k (p + 1) 0 (n - min n (64 - i))
def partsL (t n : Nat) : List Pt := goP n (t / 64) (t % 64) n

theorem goP_succ (k p i n : Nat) : goP (k + 1) p i n = if n = 0 then [] else ⟨p, i, min n (64 - i)⟩ :: goP k (p + 1) 0 (n - min n (64 - i)) := rfl
theorem goP_nil (k p i : Nat) : goP k p i 0 = [] := by
  cases k with
  | zero => rfl
  | succ k => simp [goP]
theorem goP_more (k : Nat) : ∀ p i n, i < 64 → n ≤ k → goP (k + 1) p i n = goP k p i n := by
  induction k with
  | zero => intro p i n hi hn; (obtain rfl : n = 0 := by omega); rfl
  | succ k ih =>
    intro p i n hi hn
    by_cases h0 : n = 0
    · subst h0; rw [goP_nil, goP_nil]
    · rw [goP_succ (k + 1) p i n, goP_succ k p i n, if_neg h0, if_neg h0, ih (p + 1) 0 _ (by omega) (by omega)]
theorem goP_fuel (k : Nat) : ∀ p i n, i < 64 → n ≤ k → goP k p i n = goP n p i n := by
  induction k with
  | zero => intro p i n hi hn; (obtain rfl : n = 0 := by omega); rfl
  | succ k ih =>
    intro p i n hi hn
    by_cases h : n = k + 1
    · rw [h]
    · rw [goP_more k p i n hi (by omega), ih p i n hi (by omega)]
theorem goP_step (p i n : Nat) (hi : i < 64) (hn : 0 < n) : goP n p i n = ⟨p, i, min n (64 - i)⟩ :: goP (n - min n (64 - i)) (p + 1) 0 (n - min n (64 - i)) := by
  obtain ⟨k, rfl⟩ : ∃ k, n = k + 1 := ⟨n - 1, by omega⟩
  rw [goP_succ, if_neg (by omega), goP_fuel k (p + 1) 0 _ (by omega) (by omega)]

theorem infoPart : (Try.prog.info? 105).map (fun i => (i.zero, i.size, i.bytes)) = some (some (.agg #[.int .i64 0, .int .i64 0, .int .i64 0]), 3, 24) := by kernel_rfl
theorem partsUnder : Try.prog.underlying 101 = some (.slice 105) := by kernel_rfl
theorem pt_len (l : List Pt) : (ptCells l).length = l.length * 3 := by
  induction l with
  | nil => rfl
  | cons s l ih => simp only [ptCells, List.flatMap_cons, List.length_append, List.length_cons, List.length_nil] at ih ⊢; omega
theorem pt_cons (p : Pt) (l : List Pt) : ptCells (p :: l) = .int .i64 p.pg :: .int .i64 p.at' :: .int .i64 p.n :: ptCells l := rfl
theorem pt_at (l : List Pt) (i : Nat) (p : Pt) (h : l[i]? = some p) :
    (ptCells l)[i * 3]? = some (.int .i64 p.pg) ∧ (ptCells l)[i * 3 + 1]? = some (.int .i64 p.at') ∧ (ptCells l)[i * 3 + 2]? = some (.int .i64 p.n) := by
  induction l generalizing i with
  | nil => simp at h
  | cons t l ih =>
    cases i with
    | zero => simp at h; subst h; simp [pt_cons]
    | succ i =>
      simp at h
      have h1 := ih i h
      have e : (i + 1) * 3 = i * 3 + 3 := by omega
      rw [e, pt_cons]
      exact h1
theorem parts_push {w w1 : World} {o : Obj} {v : Value} {xs : List Pt} {x : Pt} {n g c : Nat} (hn : xs.length = n)
    (hown : w1.ownsRow 0 105 3 (.slice (some ⟨g, 0, none⟩) (n + 1) c) (n + 1) (ptCells xs ++ [.int .i64 x.pg, .int .i64 x.at', .int .i64 x.n]))
    (hgrow : (w.alloc o).grownBy w1 v.ownBlock) (hat : v.ownBlock = some g ∨ g = w.heap.size + 1) :
    Parts (.slice (some ⟨g, 0, none⟩) (n + 1) c) (xs ++ [x]) w1 ∧ Turn (Blk v) w w1 ∧ ∀ k, Blk (.slice (some ⟨g, 0, none⟩) (n + 1) c) k → Blk v k ∨ w.heap.size ≤ k := by
  refine ⟨?_, ((Turn.refl _ w).alloc o).grown hgrow (fun k hk => .inl hk), ?_⟩
  · unfold Parts
    have : ptCells (xs ++ [x]) = ptCells xs ++ [.int .i64 x.pg, .int .i64 x.at', .int .i64 x.n] := by simp [ptCells]
    rw [this]
    simpa [hn] using hown
  · intro k hk
    simp [Blk, Value.ownBlock] at hk
    subst hk
    rcases hat with h | h
    · exact .inl h
    · right; omega
theorem Parts.past {w w' : World} {v : Value} {ps : List Pt} {G : Nat → Prop} (h : Parts v ps w) (t : Turn G w w') (hG : ∀ k, Blk v k → ¬ G k) : Parts v ps w' := t.own h hG
theorem Parts.shape {w : World} {v : Value} {ps : List Pt} (h : Parts v ps w) : ∃ p c, v = .slice p ps.length c := own_slice h
/-- A part's cells. -/
theorem Parts.at {w : World} {v : Value} {ps : List Pt} (h : Parts v ps w) {k : Nat} {p : Pt} (hk : ps[k]? = some p) :
    ∃ g c, v = .slice (some ⟨g, 0, none⟩) ps.length c ∧ k < ps.length ∧ w.cell? ⟨g, k * 3, none⟩ = some (.int .i64 p.pg) ∧ w.cell? ⟨g, k * 3 + 1, none⟩ = some (.int .i64 p.at') ∧ w.cell? ⟨g, k * 3 + 2, none⟩ = some (.int .i64 p.n) := by
  have hlt : k < ps.length := (List.getElem?_eq_some_iff.1 hk).1
  obtain ⟨g, c, rfl, -, -⟩ := own_shape h (by omega)
  have hx := pt_at _ _ _ hk
  unfold Parts at h
  refine ⟨g, c, rfl, hlt, ?_, ?_, ?_⟩
  · exact (h.cellAt (k * 3) (by omega)).trans hx.1
  · exact (h.cellAt (k * 3 + 1) (by omega)).trans hx.2.1
  · exact (h.cellAt (k * 3 + 2) (by omega)).trans hx.2.2

theorem pages_count (t n : Nat) (w : World) (h : t + n ≤ 4611686018427387904) (hn : n ≤ 4096) : ∃ c : Nat, c ≤ 100 ∧ Calls Try.prog 79 #[.int .i64 t, .int .i64 n] w fun e w' => e = .returned (.tuple #[.int .i64 ((t / 64 : Nat) : Int), .int .i64 c, .bool true]) ∧ w = w' := by
  by_cases h0 : n = 0
  · subst h0
    exact ⟨0, by omega, pages_none t w (by omega) (by unfold fit; omega)⟩
  · refine ⟨(t + n - 1) / 64 - t / 64 + 1, by omega, ?_⟩
    have c := pages_yes t n w (by omega) (by omega) (by omega)
    rw [show (((t : Int) + n - 1) / 64 - (t : Int) / 64 + 1) = (((t + n - 1) / 64 - t / 64 + 1 : Nat) : Int) by omega] at c
    exact c

/-- What the loop of parts holds. -/
structure PIn (w wr : World) (T : List Pt) (p i n : Nat) (ps : List Pt) (v : Value) : Prop where
  own : Parts v ps wr
  turn : Turn NoBlock w wr
  fresh : ∀ j, Blk v j → w.heap.size ≤ j
  rest : ps ++ goP n p i n = T
  hi : i < 64
  hn : ps.length + n ≤ 4096
  hp : p + n ≤ 4611686018427387904
theorem PIn.push {w wr w1 : World} {T : List Pt} {p i n : Nat} {ps : List Pt} {v : Value} (h : PIn w wr T p i n ps v) (m : Nat) (hm : m = min n (64 - i)) (hn0 : 0 < n) {g c k : Nat} {o : Obj} (hk : ps.length = k)
    (hown : w1.ownsRow 0 105 3 (.slice (some ⟨g, 0, none⟩) (k + 1) c) (k + 1) (ptCells ps ++ [.int .i64 (p : Int), .int .i64 (i : Int), .int .i64 (m : Int)]))
    (hgrow : (wr.alloc o).grownBy w1 v.ownBlock) (hat : v.ownBlock = some g ∨ g = wr.heap.size + 1) :
    PIn w w1 T (p + 1) 0 (n - m) (ps ++ [⟨p, i, m⟩]) (.slice (some ⟨g, 0, none⟩) (k + 1) c) := by
  obtain ⟨h1, h2, h3⟩ := parts_push (x := ⟨p, i, m⟩) hk hown hgrow hat
  have hs := h.turn.size
  have hi := h.hi
  have hn := h.hn
  have hp := h.hp
  refine ⟨h1, h.turn.trans h2 (fun j hj => .inr (h.fresh j hj)), fun j hj => ?_, ?_, by omega, by simp; omega, by omega⟩
  · rcases h3 j hj with e | e
    · exact h.fresh j e
    · omega
  · rw [List.append_assoc]
    show ps ++ (⟨p, i, m⟩ :: goP (n - m) (p + 1) 0 (n - m)) = T
    rw [hm, ← goP_step p i n hi hn0]
    exact h.rest

set_option maxRecDepth 20000 in
set_option maxHeartbeats 2000000 in
theorem parts_any (t n : Nat) (w : World) (ht : t + n ≤ 4611686018427387904) (hn : n ≤ 4096) :
    Calls Try.prog 54 #[.int .i64 t, .int .i64 n] w fun e w' => ∃ v, e = .returned v ∧ Parts v (partsL t n) w' ∧ Turn NoBlock w w' ∧ ∀ j, Blk v j → w.heap.size ≤ j := by
  obtain ⟨iv, hi, hz0, hz1, hz2⟩ := info_parts infoPart
  obtain ⟨cn, hcn, c1⟩ := pages_count t n w ht hn
  have q1 : iv.bytes * cn ≤ 281474976710656 := by rw [hz2]; omega
  have q2 : cn ≤ maxLen := by unfold maxLen; omega
  have hmod : (t : Int).tmod 64 = ((t % 64 : Nat) : Int) := by rw [Int.tmod_eq_emod_of_nonneg (by omega)]; rfl
  have hmod2 : (t : Int) % 64 = ((t % 64 : Nat) : Int) := rfl
  have HB := Lib.hid (And.intro ht hn)
  have h64 := Lib.hid (Nat.mod_lt t (show 0 < 64 by decide))
  have HT := Lib.hid (show partsL t n = goP n (t / 64) (t % 64) n from rfl)
  generalize hTT : partsL t n = TT at *
  have Hd := Lib.hid (show t / 64 + n ≤ 4611686018427387904 by omega)
  generalize t / 64 = P0 at *
  generalize t % 64 = I0 at *
  clear ht hn hcn hTT
  go_enter Try.func54, Try.ntmps54
  go_wp2_with (first
    | (go_at_call 79; (with_reducible refine c1.mono ?_); rintro x w1 ⟨rfl, rfl⟩)
    | (at_make; refine wpList_make_own _ rfl _ _ 101 rfl 0 105 iv _ 3 partsUnder hi hz0 hz1 .i64 .i64 _ cn rfl rfl rfl q1 q2 (Nat.zero_le _) ?_; intro w2 hown hgrow; have K2 := Lib.hid (show PIn w w2 TT P0 I0 n [] (.slice (some ⟨w.heap.size, 0, none⟩) 0 cn) from ⟨hown, (Turn.refl NoBlock w).grown hgrow (fun k e => by cases e), (fun j hj => by simp [Blk, Value.ownBlock] at hj; omega), HT.out.symm, h64.out, by have := HB.out.2; simpa using this, Hd.out⟩); clear hown hgrow))
  go_loopg [1, 5, 8, 9] n (fun g s1 s5 s8 s9 wr => ∃ (p i m : Nat) (ps : List Pt) (gp : Option Addr) (k cap : Nat), g = m ∧ s1 = .int .i64 m ∧ s5 = .int .i64 p ∧ s8 = .slice gp k cap ∧ s9 = .int .i64 i ∧ Hid (PIn w wr TT p i m ps (.slice gp k cap) ∧ ps.length = k))
  case atStart => exact ⟨P0, I0, n, [], _, 0, cn, rfl, rfl, rfl, rfl, rfl, ⟨K2.out, rfl⟩⟩
  case round =>
    obtain ⟨p, i, m, ps, gp, k, cap, hg, rfl, rfl, rfl, rfl, HA⟩ := hrel
    by_cases hm : 0 < m
    · have hm2 : (0 : Int) < (m : Int) := by omega
      have HX := HA.out.1
      have hso := HX.own
      unfold Parts at hso
      rw [HA.out.2] at hso
      have hi64 := HX.hi
      have hkn := HX.hn
      rw [HA.out.2] at hkn
      have hpb := HX.hp
      have q3 : k + 1 ≤ maxLen := by unfold maxLen; omega
      have q4 : (k + 1) * 24 ≤ 140737488355328 := by omega
      obtain ⟨e, he⟩ : ∃ e : Nat, e = 64 - i := ⟨_, rfl⟩
      have he1 : (64 : Int) - (i : Int) = (e : Int) := by omega
      have hwp : IntKind.i64.wrap ((p : Int) + 1) = (p : Int) + 1 := wrap_nat (p + 1) (by omega)
      generalize hxs : ptCells ps = xs at *
      have HXS := Lib.hid hxs
      have HE := Lib.hid he
      rcases Nat.lt_or_ge e m with hc | hc
      · have hc2 : (e : Int) < (m : Int) := by omega
        have hsub : (m : Int) - (e : Int) = ((m - e : Nat) : Int) := by omega
        have hmin := Lib.hid (show e = min m (64 - i) by omega)
        clear hi64 hpb hc he hxs
        go_wp2_with (first
          | (at_builtin; refine wpList_append_lies _ rfl (.tmp 28) (.tmp 33) 101 rfl 0 105 iv _ 3 24 partsUnder hi hz0 hz1 hz2 rfl (by decide) (.slice gp k cap) k xs rfl (World.ownsRow.alloc hso _) ⟨wr.heap.size, 0, none⟩ 1 1 [.int .i64 (p : Int), .int .i64 (i : Int), .int .i64 (e : Int)] rfl rfl (fun j u hu => World.news_of_block (heap_alloc_new wr _) j u (by simpa using hu)) (by simp [Value.oneCell']) (by decide) q3 q4 (Nat.zero_le _) (wr.heap.size + 1) (by simp) ?_; intro g3 c3 w3 hown hgrow hat hlt3; rw [← HXS.out] at hown; have K3 := Lib.hid (HA.out.1.push e hmin.out hm HA.out.2 hown hgrow hat); clear hown hgrow hat))
        go_roundg (m - e)
        case measure => have := HE.out; have := HA.out.1.hi; omega
        case rel => exact ⟨p + 1, 0, m - e, _, _, k + 1, c3, rfl, by go_num, by go_num, rfl, rfl, ⟨K3.out, by simp [HA.out.2]⟩⟩
      · have hc2 : (m : Int) ≤ (e : Int) := by omega
        have hmin := Lib.hid (show m = min m (64 - i) by omega)
        clear hi64 hpb hc he hxs
        go_wp2_with (first
          | (at_builtin; refine wpList_append_lies _ rfl (.tmp 28) (.tmp 33) 101 rfl 0 105 iv _ 3 24 partsUnder hi hz0 hz1 hz2 rfl (by decide) (.slice gp k cap) k xs rfl (World.ownsRow.alloc hso _) ⟨wr.heap.size, 0, none⟩ 1 1 [.int .i64 (p : Int), .int .i64 (i : Int), .int .i64 (m : Int)] rfl rfl (fun j u hu => World.news_of_block (heap_alloc_new wr _) j u (by simpa using hu)) (by simp [Value.oneCell']) (by decide) q3 q4 (Nat.zero_le _) (wr.heap.size + 1) (by simp) ?_; intro g3 c3 w3 hown hgrow hat hlt3; rw [← HXS.out] at hown; have K3 := Lib.hid (HA.out.1.push m hmin.out hm HA.out.2 hown hgrow hat); clear hown hgrow hat))
        go_roundg (m - m)
        case measure => omega
        case rel => exact ⟨p + 1, 0, m - m, _, _, k + 1, c3, rfl, by go_num, by go_num, rfl, rfl, ⟨K3.out, by simp [HA.out.2]⟩⟩
    · obtain rfl : m = 0 := by omega
      go_wp2
      go_ret
      have h := HA.out.1
      have e := h.rest
      rw [goP_nil, List.append_nil] at e
      exact ⟨_, rfl, e ▸ h.own, h.turn, h.fresh⟩
end Go.Proofs.Ytdddmjdlikjedaa

/-
  lacking: how many frames are needed. No conditions but that the set is one that calls can make.
-/
namespace Go.Proofs.Ytdddmjdlikjedaa
open Go.ChangeShapes Go.WideShapes Go.ChangeAt Go.RowKit

/-- Frames, and which of them an object's pages have. -/
structure PL where
  L : List Pg
  g : Int → Option Int
  c : Nat
def lacks (S : PL) (p : Nat) : Bool := match S.g (p : Int) with | none => true | some f => decide (1 < usersL S.L f)
def lackN (S : PL) (ps : List Pt) : Nat := (ps.filter (fun p => lacks S p.pg)).length
theorem lacks_none {S : PL} {p : Nat} (h : S.g (p : Int) = none) : lacks S p = true := by unfold lacks; rw [h]
theorem lacks_some {S : PL} {p : Nat} {f : Int} (h : S.g (p : Int) = some f) : lacks S p = decide (1 < usersL S.L f) := by unfold lacks; rw [h]
theorem lackN_succ (S : PL) (ps : List Pt) (k : Nat) (p : Pt) (hk : ps[k]? = some p) : lackN S (ps.take (k + 1)) = lackN S (ps.take k) + if lacks S p.pg then 1 else 0 := by
  obtain ⟨hlt, he⟩ := List.getElem?_eq_some_iff.1 hk
  unfold lackN
  rw [List.take_succ_eq_append_getElem hlt, List.filter_append, List.length_append, he]
  by_cases h : lacks S p.pg = true
  · rw [if_pos h]; simp [h]
  · rw [if_neg h]; simp [h]
theorem lackN_le (S : PL) (ps : List Pt) : lackN S ps ≤ ps.length := List.length_filter_le _ _

section
variable {w : World} {s : Nat} {r : Rep} {M : Mod}
set_option maxRecDepth 20000 in
set_option maxHeartbeats 2000000 in
theorem lacking_any (h : SMem w s r M) {i : Int} {o : Ob} {a pb : Nat} (hO : M.O i = some o) (hA : r.A i = some a) (hB : r.B i = some pb) {v : Value} {ps : List Pt} (hv : Parts v ps w) (hps : ps.length ≤ 4096) (hpg : ∀ p ∈ ps, p.pg ≤ 4611686018427387904) :
    Calls Try.prog 80 #[.pointer (some ⟨s, 0, none⟩), .pointer (some ⟨a, 0, none⟩), v] w fun e w' => e = .returned (.int .i64 (lackN ⟨M.L, o.pgs, o.cnt⟩ ps : Nat)) ∧ Turn NoBlock w w' := by
  obtain ⟨gp, cap, rfl⟩ := hv.shape
  have H := Lib.hid (And.intro h (And.intro hO (And.intro hA (And.intro hB hv))))
  have HP := Lib.hid (And.intro hps hpg)
  obtain ⟨N, hN⟩ : ∃ N, ps.length = N := ⟨_, rfl⟩
  rw [hN]
  have HN := Lib.hid hN
  clear h hO hA hB hv hps hpg hN
  go_enter Try.func80, Try.ntmps80
  go_wp2_with fail
  go_loopg [7, 14] N (fun g s7 s14 wr => ∃ (k : Nat), g = N - k ∧ k ≤ N ∧ s7 = .int .i64 (lackN ⟨M.L, o.pgs, o.cnt⟩ (ps.take k) : Nat) ∧ s14 = .int .i64 k ∧ Hid (Turn NoBlock w wr))
  case atStart => exact ⟨0, rfl, by omega, by simp [lackN], rfl, Turn.refl _ _⟩
  case round =>
    obtain ⟨k, hg, hk, rfl, rfl, HT⟩ := hrel
    by_cases hlt : k < N
    · obtain ⟨h0, hO, hA, hB, hv⟩ := H.out
      have h1 := h0.past HT.out
      obtain ⟨p, hp⟩ : ∃ p, ps[k]? = some p := ⟨_, List.getElem?_eq_getElem (by rw [HN.out]; exact hlt)⟩
      obtain ⟨gb, cb, he, hkl, e0, e1, e2⟩ := (hv.past HT.out (fun _ _ h => h)).at hp
      simp only [Value.slice.injEq] at he
      obtain ⟨rfl, -, rfl⟩ := he
      have hpg := HP.out.2 p (List.mem_of_getElem? hp)
      have hsucc := lackN_succ ⟨M.L, o.pgs, o.cnt⟩ ps k p hp
      have hle := lackN_le ⟨M.L, o.pgs, o.cnt⟩ (ps.take k)
      rw [List.length_take] at hle
      obtain ⟨x, xt, hx1, hx2, hx3, hx4⟩ := h1.live hO
      rw [hA] at hx1
      rw [hB] at hx2
      cases hx1
      cases hx2
      have g := ocells hx3
      have d7 := g.c7
      have halt := lt_of_block hx3
      have d0 := h1.c0
      have hslt := h1.lt (.inl rfl)
      have hfit : fit (p.pg : Int) := by unfold fit; omega
      have ta : ∀ ob, Turn NoBlock wr (wr.alloc ob) := fun ob => (Turn.refl NoBlock wr).alloc ob
      have lk := fun ob => PMap.look (IMap.past hx4 (ta ob) (fun h => h)) (p.pg : Int) hfit
      have lkd := fun ob => PMap.look (IMap.past hx4 (ta ob).drew (fun h => h)) (p.pg : Int) hfit
      have HU := Lib.hid (fun ob f => users_any ((h1.past (ta ob).drew).pool) f)
      have HTn := Lib.hid (fun ob => HT.out.trans (ta ob).drew (fun _ h => .inl h))
      have hfr : (wr.frozen? ⟨gb, k * 3, none⟩) = (wr.frozen? ⟨gb, k * 3, none⟩) := rfl
      have hN4 := HP.out.1
      rw [HN.out] at hN4
      have hklI : (k : Int) < (N : Int) := by omega
      have HS := Lib.hid hsucc
      clear h0 h1 hO hA hB hv hp hpg hx3 hx4 g ta hfit hfr hkl hsucc
      generalize lackN ⟨M.L, o.pgs, o.cnt⟩ (ps.take k) = q at *
      obtain ⟨pg, pat, pn⟩ := p
      simp only at e0 e1 e2 lk lkd HS
      cases hgp : o.pgs (pg : Int) with
      | none =>
        have HL := Lib.hid (lacks_none (S := ⟨M.L, o.pgs, o.cnt⟩) hgp)
        rw [hgp] at lk lkd
        simp only [Option.getD_none, Option.isSome_none] at lk lkd
        go_wp2
        go_region
        all_goals
          go_wp2
          go_roundg (N - (k + 1))
          case measure => omega
          case rel => exact ⟨k + 1, rfl, by omega, by rw [HS.out, HL.out, if_pos rfl]; go_num, by go_num, HTn.out _⟩
      | some f =>
        have hl := lacks_some (S := ⟨M.L, o.pgs, o.cnt⟩) hgp
        rw [hgp] at lk lkd
        simp only [Option.getD_some, Option.isSome_some] at lk lkd
        by_cases hu : 1 < usersL M.L f
        · have hu2 : (1 : Int) < (usersL M.L f : Int) := by omega
          have HL := Lib.hid (hl.trans (decide_eq_true hu))
          clear hu hl
          go_wp2
          go_region
          all_goals
            go_wp2_with (go_at_call 83; (with_reducible refine (HU.out _ f).mono ?_); rintro e w5 ⟨rfl, rfl⟩)
            go_roundg (N - (k + 1))
            case measure => omega
            case rel => exact ⟨k + 1, rfl, by omega, by rw [HS.out, HL.out, if_pos rfl]; go_num, by go_num, HTn.out _⟩
        · have hu2 : ¬ (1 : Int) < (usersL M.L f : Int) := by omega
          have HL := Lib.hid (hl.trans (decide_eq_false hu))
          clear hu hl
          go_wp2
          go_region
          all_goals
            go_wp2_with (go_at_call 83; (with_reducible refine (HU.out _ f).mono ?_); rintro e w5 ⟨rfl, rfl⟩)
            go_roundg (N - (k + 1))
            case measure => omega
            case rel => exact ⟨k + 1, rfl, by omega, by rw [HS.out, HL.out, if_neg (by decide)]; rfl, by go_num, HTn.out _⟩
    · obtain rfl : k = N := by omega
      go_wp2
      go_ret
      exact ⟨ret_int (by rw [List.take_of_length_le (Nat.le_of_eq HN.out)]), HT.out⟩
end
end Go.Proofs.Ytdddmjdlikjedaa

/-
  own: a page's own frame. No conditions but that the set is one that calls can make.
-/
namespace Go.Proofs.Ytdddmjdlikjedaa
open Go.ChangeShapes Go.WideShapes Go.ChangeAt Go.RowKit

def pgV (S : PL) (p : Nat) : Int := match S.g (p : Int) with | none => allocV S.L | some f => ownV S.L f
def pgL (S : PL) (p : Nat) : List Pg := match S.g (p : Int) with | none => allocL S.L | some f => ownL S.L f
theorem pg_none {S : PL} {p : Nat} (h : S.g (p : Int) = none) : pgV S p = allocV S.L ∧ pgL S p = allocL S.L := by unfold pgV pgL; rw [h]; exact ⟨rfl, rfl⟩
theorem pg_some {S : PL} {p : Nat} {f : Int} (h : S.g (p : Int) = some f) : pgV S p = ownV S.L f ∧ pgL S p = ownL S.L f := by unfold pgV pgL; rw [h]; exact ⟨rfl, rfl⟩
/-- No frame has so many users that one more is none. -/
def Few (L : List Pg) : Prop := ∀ p ∈ L, p.users < 4611686018427387904
theorem Few.users {L : List Pg} (h : Few L) (f : Int) : usersL L f < 4611686018427387904 := by
  unfold usersL pgAt
  split
  · rw [List.getD_eq_getElem?_getD]
    cases hf : L[f.toNat]? with
    | none => simp [Pg.none]
    | some p => exact h p (List.mem_of_getElem? hf)
  · simp [Pg.none]

section
variable {w : World} {s : Nat} {r : Rep} {M : Mod}
set_option maxRecDepth 20000 in
theorem own8_any (h : SMem w s r M) {i : Int} {o : Ob} {a pb : Nat} (hO : M.O i = some o) (hA : r.A i = some a) (hB : r.B i = some pb) (hf : Few M.L) (pg : Nat) (hpg : pg ≤ 4611686018427387904) :
    Calls Try.prog 81 #[.pointer (some ⟨s, 0, none⟩), .pointer (some ⟨a, 0, none⟩), .int .i64 pg] w fun e w' => e = .returned (.int .i64 (pgV ⟨M.L, o.pgs, o.cnt⟩ pg)) ∧
      ∃ F', SMem w' s { r with FP := F' } { M with L := pgL ⟨M.L, o.pgs, o.cnt⟩ pg } ∧ Turn r.FP w w' ∧ ∀ j, F' j → r.FP j ∨ w.heap.size ≤ j := by
  have hfit : fit (pg : Int) := by unfold fit; omega
  obtain ⟨x, xt, hx1, hx2, hx3, hx4⟩ := h.live hO
  rw [hA] at hx1
  rw [hB] at hx2
  cases hx1
  cases hx2
  have lk := PMap.look hx4 (pg : Int) hfit
  have d7 := (ocells hx3).c7
  have d0 := h.c0
  have H := Lib.hid h
  cases hgp : o.pgs (pg : Int) with
  | none =>
    obtain ⟨e1, e2⟩ := pg_none (S := ⟨M.L, o.pgs, o.cnt⟩) hgp
    rw [e1, e2]
    rw [hgp] at lk
    simp only [Option.getD_none, Option.isSome_none] at lk
    have c1 := alloc_any h.pool
    clear h hx3 hx4 hA hB hO hfit e1 e2 hf
    go_enter Try.func81, Try.ntmps81
    go_wp2_with (go_at_call 100; (with_reducible refine c1.mono ?_); rintro e w1 ⟨rfl, F', k1, k2, k3⟩; have K := Lib.hid (And.intro k1 (And.intro k2 k3)); clear k1 k2 k3)
    go_ret
    exact ⟨rfl, F', H.out.setPool K.out.1 K.out.2.1 K.out.2.2, K.out.2.1, K.out.2.2⟩
  | some f =>
    obtain ⟨e1, e2⟩ := pg_some (S := ⟨M.L, o.pgs, o.cnt⟩) hgp
    rw [e1, e2]
    rw [hgp] at lk
    simp only [Option.getD_some, Option.isSome_some] at lk
    have c1 := own_any h.pool f (hf.users f)
    clear h hx3 hx4 hA hB hO hfit e1 e2 hf
    go_enter Try.func81, Try.ntmps81
    go_wp2_with (go_at_call 101; (with_reducible refine c1.mono ?_); rintro e w1 ⟨rfl, F', k1, k2, k3⟩; have K := Lib.hid (And.intro k1 (And.intro k2 k3)); clear k1 k2 k3)
    go_ret
    exact ⟨rfl, F', H.out.setPool K.out.1 K.out.2.1 K.out.2.2, K.out.2.1, K.out.2.2⟩
end
end Go.Proofs.Ytdddmjdlikjedaa

/-
  add: an object gets the next id. No conditions but that the set is one that calls can make.
-/
namespace Go.Proofs.Ytdddmjdlikjedaa
open Go.ChangeShapes Go.WideShapes Go.ChangeAt Go.RowKit

/-- An object ahead of add: its pages are nil. -/
def Ob.raw (o : Ob) : Array Value :=
  #[.int .i64 (o.size : Int), .int .i64 (o.par : Int), .int .i64 (o.kids : Int), .int .i64 (o.slc : Int), .int .i64 (o.depth : Int), .int .i64 (o.frm : Int), .bool o.drp, .map none]

theorem skolem {α β : Type} {p : α → β → Prop} (h : ∀ a, ∃ b, p a b) : ∃ f : α → β, ∀ a, p a (f a) := ⟨fun a => Classical.choose (h a), fun a => Classical.choose_spec (h a)⟩

section
variable {w : World} {s : Nat} {r : Rep} {M : Mod}
theorem add_full (h : SMem w s r M) (q : Value) (hl : M.most ≤ M.live) :
    Calls Try.prog 50 #[.pointer (some ⟨s, 0, none⟩), q] w fun e w' => e = .returned (.tuple #[.int .i64 0, .int .i64 (-4)]) ∧ ∃ m, w' = w.drewN m := by
  have l1 := fun ty => (h.past ((Turn.refl NoBlock w).drew)).omap.len ty
  have l0 := fun ty => h.omap.len ty
  have d3 := h.c3
  have d1 := h.c1
  have hl2 : (M.most : Int) ≤ (M.live : Int) := by omega
  clear h hl
  go_enter Try.func50, Try.ntmps50
  go_wp2
  go_region
  all_goals
    go_wp2
    go_ret2
    exact ⟨rfl, 1, rfl⟩

def addM (M : Mod) (o : Ob) : Mod := { M with made := M.made + 1, live := M.live + 1, O := updI M.O ((M.made : Int) + 1) (some o) }
def addR (r : Rep) (i : Int) (a b : Nat) : Rep := { r with A := updI r.A i (some a), B := updI r.B i (some b) }

theorem add_mem (h : SMem w s r M) {o : Ob} {a : Nat} (ho : w.heap[a]? = some (.cells o.raw 96 (0, 0))) (hf : ¬ SFoot s r a) (hp : o.pgs = fun _ => none) (hc : o.cnt = 0) (hl : M.live < M.most) (hm : M.most ≤ 65536) (hd : M.made < 4611686018427387904) :
    ∃ w4, Sem.run Try.prog (Instr.mapUpdate 89 (.map (some r.mo)) (.int .i64 ((M.made : Int) + 1)) (.pointer (some ⟨a, 0, none⟩)))
        (((w.setCell ⟨a, 7, none⟩ (.map (some w.heap.size))).setCell ⟨s, 2, none⟩ (.int .i64 ((M.made : Int) + 1))).alloc (.map #[] 0)).drew.drew = .ok () w4 ∧
      SMem w4 s (addR r ((M.made : Int) + 1) a w.heap.size) (addM M o) ∧ Turn (fun k => k = s ∨ k = r.mo ∨ k = a) w w4 ∧ w4.cell? ⟨s, 2, none⟩ = some (.int .i64 ((M.made : Int) + 1)) := by
  have t2 : Turn (fun k => k = a) w (w.setCell ⟨a, 7, none⟩ (.map (some w.heap.size))) := (Turn.refl (fun k => k = a) _).setCell (p := ⟨a, 7, none⟩) (.inl rfl) _
  have halt : a < w.heap.size := lt_of_block ho
  have hA0 : r.A ((M.made : Int) + 1) = none := by
    cases hA : r.A ((M.made : Int) + 1) with
    | none => rfl
    | some x => have := h.ids _ _ hA; omega
  have ho2 : (w.setCell ⟨a, 7, none⟩ (.map (some w.heap.size))).heap[a]? = some (.cells (o.cells w.heap.size) 96 (0, 0)) := set_at ho 7 (.map (some w.heap.size))
  have hsz2 : (w.setCell ⟨a, 7, none⟩ (.map (some w.heap.size))).heap.size = w.heap.size := by simp [World.setCell]
  generalize w.setCell ⟨a, 7, none⟩ (.map (some w.heap.size)) = W2 at *
  have h2 := h.kept t2 (fun k hk e => by subst e; exact hf hk)
  have t3' : Turn (fun k => k = s) W2 (W2.setCell ⟨s, 2, none⟩ (.int .i64 ((M.made : Int) + 1))) := (Turn.refl (fun k => k = s) _).setCell (p := ⟨s, 2, none⟩) (.inl rfl) _
  have hhead' : (W2.setCell ⟨s, 2, none⟩ (.int .i64 ((M.made : Int) + 1))).heap[s]? = some (.cells #[.pointer (some ⟨r.p, 0, none⟩), .int .i64 (M.most : Int), .int .i64 ((M.made : Int) + 1), .map (some r.mo)] 91 (0, 0)) := set_at h2.head 2 _
  have hsz3 : (W2.setCell ⟨s, 2, none⟩ (.int .i64 ((M.made : Int) + 1))).heap.size = w.heap.size := by rw [← hsz2]; simp [World.setCell]
  generalize W2.setCell ⟨s, 2, none⟩ (.int .i64 ((M.made : Int) + 1)) = X at *
  have tx : Turn NoBlock X (X.alloc (.map #[] 0)).drew.drew := (((Turn.refl _ _).alloc _).drew).drew
  have hpm2 : PMap (X.alloc (.map #[] 0)).drew.drew w.heap.size o.pgs o.cnt := by
    rw [hp, hc, ← hsz3]
    exact IMap.past (IMap.made X) (((Turn.refl NoBlock _).drew).drew) (fun h => h)
  have t3 := t3'.trans tx (fun k hk => hk.elim)
  have hhead := tx.heap hhead' (fun h => h)
  have t1 : Turn NoBlock w w := Turn.refl _ _
  generalize (X.alloc (.map #[] 0)).drew.drew = W3 at *
  have om3 : OMap W3 r.mo r.A M.live := IMap.past h2.omap t3 h.mS
  obtain ⟨w4, hrun, om4, t4⟩ := om3.put (by unfold maxLen; omega) ((M.made : Int) + 1) a (by unfold fit; omega)
  rw [hA0] at om4
  have has : a ≠ s := fun e => hf (.inl e)
  have ham : a ≠ r.mo := fun e => hf (.inr (.inl e))
  have hms := h.mS
  have hmolt := h.lt (.inr (.inl rfl) : SFoot s r r.mo)
  have hslt := h.lt (.inl rfl : SFoot s r s)
  have hhead4 := t4.heap hhead (fun e => hms e.symm)
  refine ⟨w4, hrun, ⟨?_, ?_, om4, fun i x hi => ?_, fun i hi => ?_, fun i j x hi hj => ?_, fun i j x hi hj => ?_, fun i x hi => ?_, fun i x hi => ?_, h.pS, h.pM, fun i x hi => ?_, fun i x hi => ?_⟩, ?_, ?_⟩
  · rw [show ((addM M o).made : Int) = (M.made : Int) + 1 by simp [addM]]
    exact hhead4
  · exact (pool_own _ _ _).kept _ _ _ ((pool_own _ _ _).kept _ _ _ h2.pool t3 (fun k hk e => by subst e; exact h.pS hk)) t4 (fun k hk e => by subst e; exact h.pM hk)
  · unfold addR updI at hi
    simp only at hi
    by_cases e : i = (M.made : Int) + 1
    · subst e
      rw [if_pos rfl] at hi
      cases hi
      refine ⟨o, w.heap.size, by simp [addM, updI], by simp [addR, updI], t4.heap (t3.heap ho2 has) ham, IMap.past hpm2 t4 (by omega)⟩
    · rw [if_neg e] at hi
      obtain ⟨y, pb, g1, g2, g3, g4⟩ := h2.ob i x hi
      refine ⟨y, pb, by simp [addM, updI, e, g1], by simp [addR, updI, e, g2], t4.heap (t3.heap g3 (h2.aS hi)) (h2.aM hi), IMap.past (IMap.past g4 t3 (h2.bS g2)) t4 (h2.bmo i pb g2)⟩
  · unfold addR updI at hi
    simp only at hi
    by_cases e : i = (M.made : Int) + 1
    · rw [if_pos e] at hi; cases hi
    · rw [if_neg e] at hi
      exact ⟨by simp [addM, updI, e, (h.no i hi).1], by simp [addR, updI, e, (h.no i hi).2]⟩
  · unfold addR updI at hi hj
    simp only at hi hj
    by_cases e : i = (M.made : Int) + 1
    · by_cases e' : j = (M.made : Int) + 1
      · omega
      · rw [if_pos e] at hi
        rw [if_neg e'] at hj
        cases hi
        exact absurd (.inr (.inr (.inr (.inl ⟨j, hj⟩)))) hf
    · by_cases e' : j = (M.made : Int) + 1
      · rw [if_neg e] at hi
        rw [if_pos e'] at hj
        cases hj
        exact absurd (.inr (.inr (.inr (.inl ⟨i, hi⟩)))) hf
      · rw [if_neg e] at hi
        rw [if_neg e'] at hj
        exact h.injA i j x hi hj
  · unfold addR updI at hi hj
    simp only at hi hj
    by_cases e : i = (M.made : Int) + 1
    · by_cases e' : j = (M.made : Int) + 1
      · omega
      · rw [if_pos e] at hi
        rw [if_neg e'] at hj
        cases hi
        have := h.lt (.inr (.inr (.inr (.inr ⟨j, hj⟩))) : SFoot s r _)
        omega
    · by_cases e' : j = (M.made : Int) + 1
      · rw [if_neg e] at hi
        rw [if_pos e'] at hj
        cases hj
        have := h.lt (.inr (.inr (.inr (.inr ⟨i, hi⟩))) : SFoot s r _)
        omega
      · rw [if_neg e] at hi
        rw [if_neg e'] at hj
        exact h.injB i j x hi hj
  · unfold addR updI at hi
    simp only at hi
    by_cases e : i = (M.made : Int) + 1
    · rw [if_pos e] at hi
      cases hi
      show w.heap.size ≠ r.mo
      omega
    · rw [if_neg e] at hi
      exact h.bmo i x hi
  · unfold addR updI at hi
    simp only at hi
    show 1 ≤ i ∧ i ≤ ((M.made + 1 : Nat) : Int)
    by_cases e : i = (M.made : Int) + 1
    · omega
    · rw [if_neg e] at hi
      have := h.ids i x hi
      omega
  · unfold addR updI at hi
    simp only at hi
    by_cases e : i = (M.made : Int) + 1
    · rw [if_pos e] at hi
      cases hi
      exact fun hk => hf (.inr (.inr (.inl hk)))
    · rw [if_neg e] at hi
      exact h.pA i x hi
  · unfold addR updI at hi
    simp only at hi
    by_cases e : i = (M.made : Int) + 1
    · rw [if_pos e] at hi
      cases hi
      exact fun hk => by have := h.pool.lt hk; omega
    · rw [if_neg e] at hi
      exact h.pB i x hi
  · exact ((((t1.mono (G := fun k => k = a) (fun _ h => h.elim)).trans t2 (fun k hk => .inl hk)).mono (G := fun k => k = s ∨ k = r.mo ∨ k = a) (fun k hk => .inl (.inr (.inr hk)))).trans t3 (fun k hk => .inl (.inl hk))).trans t4 (fun k hk => .inl (.inr (.inl hk)))
  · simpa using cell_at hhead4 2

set_option maxRecDepth 20000 in
theorem add_yes8 (h : SMem w s r M) {o : Ob} {a : Nat} (ho : w.heap[a]? = some (.cells o.raw 96 (0, 0))) (hf : ¬ SFoot s r a) (hp : o.pgs = fun _ => none) (hc : o.cnt = 0) (hl : M.live < M.most) (hm : M.most ≤ 65536) (hd : M.made < 4611686018427387904) :
    Calls Try.prog 50 #[.pointer (some ⟨s, 0, none⟩), .pointer (some ⟨a, 0, none⟩)] w fun e w' => e = .returned (.tuple #[.int .i64 ((M.made : Int) + 1), .int .i64 0]) ∧
      SMem w' s (addR r ((M.made : Int) + 1) a w.heap.size) (addM M o) ∧ Turn (fun k => k = s ∨ k = r.mo ∨ k = a) w w' := by
  obtain ⟨W4, hrun, hW1, hW2, dd2⟩ := add_mem h ho hf hp hc hl hm hd
  have HW := Lib.hid (And.intro hW1 hW2)
  clear hW1 hW2
  have ld := fun ty => (h.past ((Turn.refl NoBlock w).drew)).omap.len ty
  have l0 := fun ty => h.omap.len ty
  have d3 := h.c3
  have d2 := h.c2
  have d1 := h.c1
  have f2 := h.f 2
  have hl2 : ¬ (M.most : Int) ≤ (M.live : Int) := by omega
  have f7 := free_at ho 7
  have e7 : w.cell? ⟨a, 7, none⟩ = some (.map none) := by simpa [Ob.raw] using cell_at ho 7
  have has : a ≠ s := fun e => hf (.inl e)
  have halt : a < w.heap.size := lt_of_block ho
  have hslt : s < w.heap.size := h.lt (.inl rfl)
  have hmm := @run_makeMap Try.prog
  have hmi : IntKind.i64.wrap ((M.made : Int) + 1) = (M.made : Int) + 1 := wrap_nat (M.made + 1) (by omega)
  clear h ho hf hp hc hl hm
  go_enter Try.func50, Try.ntmps50
  go_wp2
  go_region
  all_goals
    go_wp2
    go_region
    all_goals
      go_wp2
      go_ret2
      exact ⟨rfl, HW.out.1, HW.out.2⟩
end
end Go.Proofs.Ytdddmjdlikjedaa

/-
  Create and Info. No conditions but that the set is one that calls can make.
-/
namespace Go.Proofs.Ytdddmjdlikjedaa
open Go.ChangeShapes Go.WideShapes Go.ChangeAt Go.RowKit

/-- What a call of a set leaves: its own blocks turned, and new ones. -/
structure VNext (w : World) (s : Nat) (r : Rep) (w' : World) (r' : Rep) : Prop where
  turn : Turn (SFoot s r) w w'
  foot : ∀ k, SFoot s r' k → SFoot s r k ∨ w.heap.size ≤ k
theorem addR_foot {s : Nat} {r : Rep} {i : Int} {a b k : Nat} (h : SFoot s (addR r i a b) k) : SFoot s r k ∨ k = a ∨ k = b := by
  rcases h with h | h | h | ⟨j, h⟩ | ⟨j, h⟩
  · exact .inl (.inl h)
  · exact .inl (.inr (.inl h))
  · exact .inl (.inr (.inr (.inl h)))
  · simp only [addR, updI] at h
    split at h
    · cases h; exact .inr (.inl rfl)
    · exact .inl (.inr (.inr (.inr (.inl ⟨j, h⟩))))
  · simp only [addR, updI] at h
    split at h
    · cases h; exact .inr (.inr rfl)
    · exact .inl (.inr (.inr (.inr (.inr ⟨j, h⟩))))
def newOb (size par depth frm : Nat) : Ob := ⟨size, par, 0, 0, depth, frm, false, fun _ => none, 0⟩
def createS (M : Mod) (n : Int) : Int := if n < 0 then -10 else if 4294967296 < n then -14 else if M.most ≤ M.live then -4 else 0

section
variable {w : World} {s : Nat} {r : Rep} {M : Mod}
set_option maxRecDepth 20000 in
theorem create_no (h : SMem w s r M) (n : Int) (hs : createS M n ≠ 0) :
    Calls Try.prog 16 #[.pointer (some ⟨s, 0, none⟩), .int .i64 n] w fun e w' => e = .returned (.tuple #[.int .i64 0, .int .i64 (createS M n)]) ∧ SMem w' s r M ∧ Turn NoBlock w w' := by
  unfold createS at *
  by_cases h1 : n < 0
  · rw [if_pos h1]
    have c := fun w => rounded_neg n w h1
    have H := Lib.hid h
    clear h hs h1
    go_enter Try.func16, Try.ntmps16
    go_wp2_with (go_at_call 49; (with_reducible refine (c _).mono ?_); rintro x w1 ⟨rfl, rfl⟩)
    go_ret2
    exact ⟨rfl, H.out, Turn.refl _ _⟩
  · rw [if_neg h1] at hs ⊢
    by_cases h2 : 4294967296 < n
    · rw [if_pos h2]
      have c := fun w => rounded_far n w h2
      have H := Lib.hid h
      clear h hs h1 h2
      go_enter Try.func16, Try.ntmps16
      go_wp2_with (go_at_call 49; (with_reducible refine (c _).mono ?_); rintro x w1 ⟨rfl, rfl⟩)
      go_ret2
      exact ⟨rfl, H.out, Turn.refl _ _⟩
    · rw [if_neg h2] at hs ⊢
      by_cases h3 : M.most ≤ M.live
      · rw [if_pos h3]
        have c := fun w => rounded_yes n w (by omega) (by omega)
        have H := Lib.hid (fun o => h.past ((Turn.refl NoBlock w).alloc o))
        have H3 := Lib.hid h3
        clear h hs h1 h2 h3
        generalize ((upS n : Nat) : Int) = u at *
        go_enter Try.func16, Try.ntmps16
        go_wp2_with (first
          | (go_at_call 49; (with_reducible refine (c _).mono ?_); rintro x w1 ⟨rfl, rfl⟩)
          | (go_at_call 50; (with_reducible refine (add_full (H.out _) _ H3.out).mono ?_); rintro x w2 ⟨rfl, q, rfl⟩))
        go_ret2
        exact ⟨rfl, (H.out _).past ((Turn.refl NoBlock _).drewN q), ((Turn.refl NoBlock w).alloc _).drewN q⟩
      · rw [if_neg h3] at hs
        exact absurd rfl hs
theorem fresh_not (h : SMem w s r M) : ¬ SFoot s r w.heap.size := fun hk => by have := h.lt hk; omega
theorem addM_next {w' : World} {i : Int} {a b : Nat} (h : SMem w s r M) (t0 : Turn NoBlock w w') {w'' : World} (ha : w.heap.size ≤ a) (hb : w.heap.size ≤ b) (t : Turn (fun k => k = s ∨ k = r.mo ∨ k = a) w' w'') : VNext w s r w'' (addR r i a b) :=
  ⟨(t0.mono (fun k hk => hk.elim)).trans t (fun k hk => by
      rcases hk with rfl | rfl | rfl
      · exact .inl (.inl rfl)
      · exact .inl (.inr (.inl rfl))
      · exact .inr ha), fun k hk => by
      rcases addR_foot hk with hk | rfl | rfl
      · exact .inl hk
      · exact .inr ha
      · exact .inr hb⟩
set_option maxRecDepth 20000 in
theorem create_yes (h : SMem w s r M) (n : Int) (hs : createS M n = 0) (hm : M.most ≤ 65536) (hd : M.made < 4611686018427387904) :
    Calls Try.prog 16 #[.pointer (some ⟨s, 0, none⟩), .int .i64 n] w fun e w' => e = .returned (.tuple #[.int .i64 ((M.made : Int) + 1), .int .i64 0]) ∧
      ∃ r', SMem w' s r' (addM M (newOb (upS n) 0 0 0)) ∧ VNext w s r w' r' := by
  unfold createS at hs
  by_cases h1 : n < 0
  · rw [if_pos h1] at hs; cases hs
  rw [if_neg h1] at hs
  by_cases h2 : 4294967296 < n
  · rw [if_pos h2] at hs; cases hs
  rw [if_neg h2] at hs
  by_cases h3 : M.most ≤ M.live
  · rw [if_pos h3] at hs; cases hs
  have c := fun w => rounded_yes n w (by omega) (by omega)
  have t0 : ∀ o, Turn NoBlock w (w.alloc o) := fun o => (Turn.refl NoBlock w).alloc o
  have H := Lib.hid (fun o (e : o = .cells (newOb (upS n) 0 0 0).raw 96 (0, 0)) => add_yes8 (a := w.heap.size) (h.past (t0 o)) (by subst e; exact heap_alloc_new w _) (fresh_not h) rfl rfl (by omega) hm hd)
  have HN := Lib.hid (fun o w' i b (hb : w.heap.size ≤ b) t => addM_next (i := i) (b := b) (w'' := w') h (t0 o) (Nat.le_refl _) hb t)
  clear h hs h1 h2 h3 t0
  have e0 : (newOb (upS n) 0 0 0).raw = #[.int .i64 ((upS n : Nat) : Int), .int .i64 0, .int .i64 0, .int .i64 0, .int .i64 0, .int .i64 0, .bool false, .map none] := rfl
  have HE := Lib.hid e0
  clear e0
  generalize newOb (upS n) 0 0 0 = o at *
  generalize ((upS n : Nat) : Int) = u at *
  go_enter Try.func16, Try.ntmps16
  go_wp2_with (first
    | (go_at_call 49; (with_reducible refine (c _).mono ?_); rintro x w1 ⟨rfl, rfl⟩)
    | (go_at_call 50; (with_reducible refine (H.out _ (by rw [HE.out])).mono ?_); rintro x w2 ⟨rfl, k1, k2⟩; have K := Lib.hid (And.intro k1 k2); clear k1 k2))
  go_ret2
  exact ⟨rfl, _, K.out.1, HN.out _ _ _ _ (by simp) K.out.2⟩

end
end Go.Proofs.Ytdddmjdlikjedaa

/-
  commit: frames of its own for each page. No conditions but that the set is one that calls can make.
-/
namespace Go.Proofs.Ytdddmjdlikjedaa
open Go.ChangeShapes Go.WideShapes Go.ChangeAt Go.RowKit

def commit1 (S : PL) (p : Nat) : PL := ⟨pgL S p, updI S.g (p : Int) (some (pgV S p)), if (S.g (p : Int)).isSome then S.c else S.c + 1⟩
def commitAll (S : PL) (ps : List Pt) : PL := ps.foldl (fun S p => commit1 S p.pg) S
theorem commitAll_succ (S : PL) (ps : List Pt) (k : Nat) (p : Pt) (hk : ps[k]? = some p) : commitAll S (ps.take (k + 1)) = commit1 (commitAll S (ps.take k)) p.pg := by
  obtain ⟨hlt, he⟩ := List.getElem?_eq_some_iff.1 hk
  unfold commitAll
  rw [List.take_succ_eq_append_getElem hlt, List.foldl_append, he]
  rfl
def setM (M : Mod) (i : Int) (o : Ob) (S : PL) : Mod := { M with L := S.L, O := updI M.O i (some { o with pgs := S.g, cnt := S.c }) }

theorem few_set {L : List Pg} (h : Few L) (k : Nat) (q : Pg) (hq : q.users < 4611686018427387904) : Few (L.set k q) := fun p hp => by
  rcases List.mem_or_eq_of_mem_set hp with hp | rfl
  · exact h p hp
  · exact hq
theorem few_alloc {L : List Pg} (h : Few L) : Few (allocL L) := by
  unfold allocL
  split
  · exact few_set h _ _ (by simp)
  · exact h
theorem few_own {L : List Pg} (h : Few L) (f : Int) : Few (ownL L f) := by
  unfold ownL
  have := h.users f
  split
  · exact h
  · split
    · exact few_set (few_set h _ _ (by simp)) _ _ (by simp; omega)
    · exact h
theorem few_pg {S : PL} (h : Few S.L) (p : Nat) : Few (pgL S p) := by
  unfold pgL
  split
  · exact few_alloc h
  · exact few_own h _
theorem lowOf_le (L : List Pg) : lowOf L ≤ L.length := List.findIdx_le_length
theorem alloc_fit {L : List Pg} (hl : L.length ≤ 65536) : fit (allocV L) := by
  unfold allocV fit
  have := lowOf_le L
  split <;> omega
theorem pg_fit {S : PL} (hl : S.L.length ≤ 65536) (p : Nat) : fit (pgV S p) := by
  unfold pgV
  split
  · exact alloc_fit hl
  · rename_i f hf
    unfold ownV
    split
    · unfold fit; omega
    · split
      · rename_i h1 h2
        have : usersL S.L f ≠ 0 := h1
        unfold usersL pgAt at this
        unfold fit
        split at this
        · omega
        · exact absurd rfl this
      · exact alloc_fit hl

/-- What the loop of commit holds. -/
structure CIn (w wr : World) (s : Nat) (r : Rep) (M : Mod) (i : Int) (o : Ob) (v : Value) (ps : List Pt) (F : Nat → Prop) (S : PL) (k : Nat) : Prop where
  eq : S = commitAll ⟨M.L, o.pgs, o.cnt⟩ (ps.take k)
  mem : SMem wr s { r with FP := F } (setM M i o S)
  next : VNext w s r wr { r with FP := F }
  parts : Parts v ps wr
  apart : ∀ j, Blk v j → ¬ SFoot s { r with FP := F } j
  few : Few S.L
  c : S.c ≤ o.cnt + k

theorem setM_start {M : Mod} {i : Int} {o : Ob} (h : M.O i = some o) : setM M i o ⟨M.L, o.pgs, o.cnt⟩ = M := by
  unfold setM
  have : updI M.O i (some o) = M.O := by
    funext j
    unfold updI
    split
    · rename_i e; rw [e, h]
    · rfl
  cases M
  simp only at this ⊢
  rw [this]
theorem next_refl (w : World) (s : Nat) (r : Rep) : VNext w s r w r := ⟨Turn.refl _ _, fun _ h => .inl h⟩
theorem VNext.past {w wr wx : World} {s : Nat} {r r' : Rep} (h : VNext w s r wr r') (t : Turn NoBlock wr wx) : VNext w s r wx r' := ⟨h.turn.trans t (fun _ h => h.elim), h.foot⟩
theorem VNext.trans {w w1 w2 : World} {s : Nat} {r r1 r2 : Rep} (h : VNext w s r w1 r1) (k : VNext w1 s r1 w2 r2) : VNext w s r w2 r2 :=
  ⟨h.turn.trans k.turn (fun j hj => h.foot j hj), fun j hj => by
    rcases k.foot j hj with e | e
    · exact h.foot j e
    · exact .inr (Nat.le_trans h.turn.size e)⟩
theorem pool_next {w w' : World} {s : Nat} {r : Rep} {F' : Nat → Prop} (t : Turn r.FP w w') (hf : ∀ j, F' j → r.FP j ∨ w.heap.size ≤ j) : VNext w s r w' { r with FP := F' } :=
  ⟨t.mono (fun j hj => .inl (.inr (.inr (.inl hj)))), fun j hj => by
    rcases hj with hj | hj | hj | hj | hj
    · exact .inl (.inl hj)
    · exact .inl (.inr (.inl hj))
    · rcases hf j hj with e | e
      · exact .inl (.inr (.inr (.inl e)))
      · exact .inr e
    · exact .inl (.inr (.inr (.inr (.inl hj))))
    · exact .inl (.inr (.inr (.inr (.inr hj))))⟩
theorem CIn.past {w wr wx : World} {s : Nat} {r : Rep} {M : Mod} {i : Int} {o : Ob} {v : Value} {ps : List Pt} {F : Nat → Prop} {S : PL} {k : Nat} (h : CIn w wr s r M i o v ps F S k) (t : Turn NoBlock wr wx) : CIn w wx s r M i o v ps F S k :=
  ⟨h.eq, h.mem.past t, h.next.past t, h.parts.past t (fun _ _ h => h), h.apart, h.few, h.c⟩
theorem updI_same {α : Type} (L : Int → Option α) (i : Int) (v : Option α) : updI L i v i = v := by simp [updI]
theorem updI_twice {α : Type} (L : Int → Option α) (i : Int) (v u : Option α) : updI (updI L i v) i u = updI L i u := by
  funext j
  unfold updI
  split <;> rfl

theorem commit_step {w wr wx w5 : World} {s a pb : Nat} {r : Rep} {M : Mod} {i : Int} {o : Ob} {v : Value} {ps : List Pt} {F F' : Nat → Prop} {S : PL} {k : Nat} {p : Pt} (h : CIn w wr s r M i o v ps F S k) (t : Turn NoBlock wr wx) (hA : r.A i = some a) (hB : r.B i = some pb)
    (hp : ps[k]? = some p) (hpg : p.pg ≤ 4611686018427387904) (hc : o.cnt + k < 4611686018427387904)
    (m5 : SMem w5 s { r with FP := F' } { (setM M i o S) with L := pgL S p.pg }) (t5 : Turn F wx w5) (f5 : ∀ j, F' j → F j ∨ wx.heap.size ≤ j) :
    w5.cell? ⟨a, 7, none⟩ = some (.map (some pb)) ∧ ∃ w6, Sem.run Try.prog (Instr.mapUpdate 94 (.map (some pb)) (.int .i64 p.pg) (.int .i64 (pgV S p.pg))) w5 = .ok () w6 ∧ Turn (fun k => k = pb) w5 w6 ∧ CIn w w6 s r M i o v ps F' (commit1 S p.pg) (k + 1) := by
  have hx := h.past t
  obtain ⟨x, xt, hx1, hx2, hx3, hx4⟩ := m5.live (i := i) (o := { o with pgs := S.g, cnt := S.c }) (updI_same _ _ _)
  simp only at hx1 hx2
  rw [hA] at hx1
  rw [hB] at hx2
  cases hx1
  cases hx2
  refine ⟨(ocells hx3).c7, ?_⟩
  have hlen := h.mem.pool.len
  obtain ⟨w6, hrun, pm6, t6⟩ := hx4.put (by have := h.c; show S.c < maxLen; unfold maxLen; omega) (p.pg : Int) (pgV S p.pg) (by unfold fit; omega) (pg_fit hlen p.pg)
  have m6 := m5.setOb (o' := { o with pgs := (commit1 S p.pg).g, cnt := (commit1 S p.pg).c }) hA hB t6 (fun j hj => .inr hj) (t6.heap hx3 (fun e => m5.aB hA hB e)) pm6
  refine ⟨w6, hrun, t6, ?_, ?_, ?_, ?_, ?_, few_pg h.few _, ?_⟩
  · rw [h.eq, commitAll_succ _ _ _ _ hp]
  · have e : { { (setM M i o S) with L := pgL S p.pg } with O := updI (setM M i o S).O i (some { o with pgs := (commit1 S p.pg).g, cnt := (commit1 S p.pg).c }) } = setM M i o (commit1 S p.pg) := by
      unfold setM
      simp only [updI_twice]
      rfl
    rw [← e]
    exact m6
  · refine (hx.next.trans (pool_next (r := { r with FP := F }) t5 f5)).trans ⟨t6.mono (fun j hj => .inl (.inr (.inr (.inr (.inr ⟨i, by subst hj; exact hB⟩))))), fun j hj => .inl hj⟩
  · refine (hx.parts.past t5 (fun j hj hF => hx.apart j hj (.inr (.inr (.inl hF))))).past t6 (fun j hj e => ?_)
    subst e
    exact hx.apart j hj (.inr (.inr (.inr (.inr ⟨i, hB⟩))))
  · intro j hj hF
    rcases hF with e | e | e | e | e
    · exact hx.apart j hj (.inl e)
    · exact hx.apart j hj (.inr (.inl e))
    · rcases f5 j e with e | e
      · exact hx.apart j hj (.inr (.inr (.inl e)))
      · obtain ⟨cur, hb⟩ := own_block hx.parts hj
        have := lt_of_block hb
        omega
    · exact hx.apart j hj (.inr (.inr (.inr (.inl e))))
    · exact hx.apart j hj (.inr (.inr (.inr (.inr e))))
  · have := h.c
    unfold commit1
    simp only
    split <;> omega
end Go.Proofs.Ytdddmjdlikjedaa

/-
  commit: the walk. No conditions but that the set is one that calls can make.
-/
namespace Go.Proofs.Ytdddmjdlikjedaa
open Go.ChangeShapes Go.WideShapes Go.ChangeAt Go.RowKit

def roomN (L : List Pg) : Int := (L.length : Int) - usedN L
section
variable {w : World} {s : Nat} {r : Rep} {M : Mod}
theorem room_turn (h : SMem w s r M) : ∀ w', Turn NoBlock w w' → Calls Try.prog 61 #[.pointer (some ⟨r.p, 0, none⟩)] w' fun e w'' => e = .returned (.int .i64 (roomN M.L)) ∧ Turn NoBlock w w'' ∧ w''.cell? ⟨s, 0, none⟩ = some (.pointer (some ⟨r.p, 0, none⟩)) := fun w' t =>
  (room_any (h.past t).pool).mono fun e w'' hh => by
    obtain ⟨rfl, m, rfl⟩ := hh
    have t2 : Turn NoBlock w (w'.drewN m) := t.drewN m
    exact ⟨rfl, t2, (h.past t2).c0⟩
theorem lack_turn (h : SMem w s r M) {i : Int} {o : Ob} {a pb : Nat} (hO : M.O i = some o) (hA : r.A i = some a) (hB : r.B i = some pb) {v : Value} {ps : List Pt} (hv : Parts v ps w) (hps : ps.length ≤ 4096) (hpg : ∀ p ∈ ps, p.pg ≤ 4611686018427387904) :
    ∀ w', Turn NoBlock w w' → Calls Try.prog 80 #[.pointer (some ⟨s, 0, none⟩), .pointer (some ⟨a, 0, none⟩), v] w' fun e w'' => e = .returned (.int .i64 (lackN ⟨M.L, o.pgs, o.cnt⟩ ps : Nat)) ∧ Turn NoBlock w w'' ∧ w''.cell? ⟨s, 0, none⟩ = some (.pointer (some ⟨r.p, 0, none⟩)) := fun w' t =>
  (lacking_any (h.past t) hO hA hB (hv.past t (fun _ _ h => h)) hps hpg).mono fun e w'' hh => by
    obtain ⟨rfl, t2⟩ := hh
    have t3 := t.trans t2 (fun _ h => .inl h)
    exact ⟨rfl, t3, (h.past t3).c0⟩

set_option maxRecDepth 20000 in
set_option maxHeartbeats 2000000 in
theorem commit_no (h : SMem w s r M) {i : Int} {o : Ob} {a pb : Nat} (hO : M.O i = some o) (hA : r.A i = some a) (hB : r.B i = some pb) {v : Value} {ps : List Pt} (hv : Parts v ps w) (hps : ps.length ≤ 4096) (hpg : ∀ p ∈ ps, p.pg ≤ 4611686018427387904)
    (hl : roomN M.L < (lackN ⟨M.L, o.pgs, o.cnt⟩ ps : Nat)) :
    Calls Try.prog 55 #[.pointer (some ⟨s, 0, none⟩), .pointer (some ⟨a, 0, none⟩), v] w fun e w' => e = .returned (.int .i64 (-4)) ∧ Turn NoBlock w w' := by
  have HR := Lib.hid (room_turn h)
  have HL := Lib.hid (lack_turn h hO hA hB hv hps hpg)
  have d0 := h.c0
  have D0 : ∀ m, (w.drewN m).cell? ⟨s, 0, none⟩ = some (.pointer (some ⟨r.p, 0, none⟩)) := fun m => h.c0
  have D1 : w.drew.cell? ⟨s, 0, none⟩ = some (.pointer (some ⟨r.p, 0, none⟩)) := h.c0
  have T0 : ∀ m, Turn NoBlock w (w.drewN m) := fun m => (Turn.refl _ _).drewN m
  have T1 : Turn NoBlock w w.drew := (Turn.refl _ _).drew
  have T2 : Turn NoBlock w w := Turn.refl _ _
  clear h hO hA hB hv hps hpg
  generalize lackN ⟨M.L, o.pgs, o.cnt⟩ ps = q at *
  generalize roomN M.L = rm at *
  go_enter Try.func55, Try.ntmps55
  go_wp2_with fail
  go_region_held3 (fun w' => w'.cell? ⟨s, 0, none⟩ = some (.pointer (some ⟨r.p, 0, none⟩)) ∧ Turn NoBlock w w') ((refine ⟨?_, ?_⟩ <;> (first | exact D1 | exact D0 _ | exact T1 | exact T0 _ | assumption)))
    (first
      | (go_at_call 80; (with_reducible refine (HL.out _ (by first | exact T1 | assumption | exact T0 _)).mono ?_); rintro e w5 ⟨rfl, T5, q5⟩)
      | (go_at_call 61; (with_reducible refine (HR.out _ (by first | exact T1 | assumption | exact T0 _)).mono ?_); rintro e w5 ⟨rfl, T5, q5⟩))
  all_goals
    go_wp2
    go_ret
    exact ⟨rfl, by assumption⟩

set_option maxRecDepth 20000 in
set_option maxHeartbeats 4000000 in
theorem commit_yes (h : SMem w s r M) {i : Int} {o : Ob} {a pb : Nat} (hO : M.O i = some o) (hA : r.A i = some a) (hB : r.B i = some pb) {v : Value} {ps : List Pt} (hv : Parts v ps w) (hps : ps.length ≤ 4096) (hpg : ∀ p ∈ ps, p.pg ≤ 4611686018427387904)
    (hl : (lackN ⟨M.L, o.pgs, o.cnt⟩ ps : Nat) ≤ roomN M.L) (hvf : ∀ j, Blk v j → ¬ SFoot s r j) (hf : Few M.L) (hc : o.cnt ≤ 1152921504606846976) :
    Calls Try.prog 55 #[.pointer (some ⟨s, 0, none⟩), .pointer (some ⟨a, 0, none⟩), v] w fun e w' => e = .returned (.int .i64 0) ∧ ∃ F, CIn w w' s r M i o v ps F (commitAll ⟨M.L, o.pgs, o.cnt⟩ ps) ps.length := by
  have HR := Lib.hid (room_turn h)
  have HL := Lib.hid (lack_turn h hO hA hB hv hps hpg)
  have HC := Lib.hid (fun w' (t : Turn NoBlock w w') => show CIn w w' s r M i o v ps r.FP ⟨M.L, o.pgs, o.cnt⟩ 0 from
    ⟨rfl, by rw [setM_start hO]; exact h.past t, (next_refl w s r).past t, hv.past t (fun _ _ h => h), hvf, hf, Nat.le_refl _⟩)
  obtain ⟨gp, cap, rfl⟩ := hv.shape
  have d0 := h.c0
  have D0 : ∀ m, (w.drewN m).cell? ⟨s, 0, none⟩ = some (.pointer (some ⟨r.p, 0, none⟩)) := fun m => h.c0
  have D1 : w.drew.cell? ⟨s, 0, none⟩ = some (.pointer (some ⟨r.p, 0, none⟩)) := h.c0
  have T0 : ∀ m, Turn NoBlock w (w.drewN m) := fun m => (Turn.refl _ _).drewN m
  have T1 : Turn NoBlock w w.drew := (Turn.refl _ _).drew
  have H := Lib.hid (And.intro hA (And.intro hB (And.intro hps (And.intro hpg hc))))
  have hps2 : (ps.length : Int) ≤ 4096 := by omega
  have hl2 : ¬ roomN M.L < (lackN ⟨M.L, o.pgs, o.cnt⟩ ps : Nat) := by omega
  clear h hO hA hB hv hps hpg hl hvf hf hc
  generalize lackN ⟨M.L, o.pgs, o.cnt⟩ ps = q at *
  generalize roomN M.L = rm at *
  go_enter Try.func55, Try.ntmps55
  go_wp2_with fail
  go_region_held3 (fun w' => w'.cell? ⟨s, 0, none⟩ = some (.pointer (some ⟨r.p, 0, none⟩)) ∧ Turn NoBlock w w') ((refine ⟨?_, ?_⟩ <;> (first | exact D1 | exact D0 _ | exact T1 | exact T0 _ | assumption)))
    (first
      | (go_at_call 80; (with_reducible refine (HL.out _ (by first | exact T1 | assumption | exact T0 _)).mono ?_); rintro e w5 ⟨rfl, T5, q5⟩)
      | (go_at_call 61; (with_reducible refine (HR.out _ (by first | exact T1 | assumption | exact T0 _)).mono ?_); rintro e w5 ⟨rfl, T5, q5⟩))
  all_goals
    go_wp2
    go_loopg [21] ps.length (fun g s21 wr => ∃ (k : Nat) (F : Nat → Prop) (S : PL), g = ps.length - k ∧ k ≤ ps.length ∧ s21 = .int .i64 k ∧ Hid (CIn w wr s r M i o (.slice gp ps.length cap) ps F S k))
    case atStart => exact ⟨0, r.FP, _, rfl, by omega, rfl, HC.out _ (by assumption)⟩
    case round =>
      obtain ⟨k, F, S, hg, hk, rfl, HA⟩ := hrel
      by_cases hlt : k < ps.length
      · obtain ⟨hA, hB, hps, hpg, hc⟩ := H.out
        obtain ⟨p, hp⟩ : ∃ p, ps[k]? = some p := ⟨_, List.getElem?_eq_getElem hlt⟩
        obtain ⟨gb, cb, he, hkl, e0, e1, e2⟩ := HA.out.parts.at hp
        simp only [Value.slice.injEq] at he
        obtain ⟨rfl, -, rfl⟩ := he
        have hpg1 := hpg p (List.mem_of_getElem? hp)
        obtain ⟨x, xt, hx1, hx2, hx3, hx4⟩ := HA.out.mem.live (i := i) (o := { o with pgs := S.g, cnt := S.c }) (updI_same _ _ _)
        simp only at hx1 hx2
        rw [hA] at hx1
        rw [hB] at hx2
        cases hx1
        cases hx2
        have d7 := (ocells hx3).c7
        have halt := lt_of_block hx3
        have hklI : (k : Int) < (ps.length : Int) := by omega
        have hab : a ≠ pb := HA.out.mem.aB hA hB
        have hpbs : wr.heap.size ≠ pb := fun e => by have := IMap.lt hx4; omega
        have hflt : ∀ j, F j → j < wr.heap.size := fun j hj => HA.out.mem.pool.lt hj
        obtain ⟨pg, pat, pn⟩ := p
        simp only at e0 e1 e2 hpg1
        obtain ⟨W1, hW1⟩ : ∃ W1, W1 = (wr.alloc (.cells #[.int .i64 (pg : Int), .int .i64 (pat : Int), .int .i64 (pn : Int)] 105)).drew := ⟨_, rfl⟩
        have tW : Turn NoBlock wr W1 := by rw [hW1]; exact ((Turn.refl _ _).alloc _).drew
        have E7 : W1.cell? ⟨a, 7, none⟩ = some (.map (some pb)) := tW.cell d7 (fun h => h)
        have E0 : W1.cell? ⟨wr.heap.size, 0, none⟩ = some (.int .i64 (pg : Int)) := by
          rw [hW1]
          exact cell_at (heap_alloc_new wr (.cells #[.int .i64 (pg : Int), .int .i64 (pat : Int), .int .i64 (pn : Int)] 105)) 0
        have HO := Lib.hid (show Calls Try.prog 81 #[.pointer (some ⟨s, 0, none⟩), .pointer (some ⟨a, 0, none⟩), .int .i64 pg] W1 fun e w5 => e = .returned (.int .i64 (pgV S pg)) ∧ w5.cell? ⟨a, 7, none⟩ = some (.map (some pb)) ∧ w5.cell? ⟨wr.heap.size, 0, none⟩ = some (.int .i64 (pg : Int)) ∧
            ∃ w6, Sem.run Try.prog (Instr.mapUpdate 94 (.map (some pb)) (.int .i64 pg) (.int .i64 (pgV S pg))) w5 = .ok () w6 ∧ w6.cell? ⟨a, 7, none⟩ = some (.map (some pb)) ∧ w6.cell? ⟨wr.heap.size, 0, none⟩ = some (.int .i64 (pg : Int)) ∧ Hid (∃ F', CIn w w6 s r M i o (.slice (some ⟨gb, 0, none⟩) ps.length cap) ps F' (commit1 S pg) (k + 1)) from by
          refine (own8_any (HA.out.mem.past tW) (i := i) (o := { o with pgs := S.g, cnt := S.c }) (updI_same _ _ _) hA hB HA.out.few pg hpg1).mono ?_
          rintro e w5 ⟨rfl, F', m5, t5, f5⟩
          obtain ⟨y7, w6, hrun, t6, hC⟩ := commit_step HA.out tW hA hB hp hpg1 (by omega) m5 t5 f5
          have z0 := t5.cell E0 (fun hF => absurd (hflt _ hF) (Nat.lt_irrefl _))
          exact ⟨rfl, y7, z0, w6, hrun, t6.cell y7 hab, t6.cell z0 hpbs, F', hC⟩)
        clear hA hB hps hpg hc hp hkl hx3 hx4 hpg1 hflt tW
        go_wp2_with fail
        go_region_held3 (fun w' => w'.cell? ⟨a, 7, none⟩ = some (.map (some pb)) ∧ w'.cell? ⟨wr.heap.size, 0, none⟩ = some (.int .i64 (pg : Int))) ((refine ⟨?_, ?_⟩ <;> (first | assumption | (rw [← hW1]; assumption))))
          (first
            | (go_at_call 81; rw [← hW1]; (with_reducible refine HO.out.mono ?_); rintro e w5 ⟨rfl, z7, z0, w6, hrun, y7, y0, K6⟩))
        all_goals
          go_wp2
          go_roundg (ps.length - (k + 1))
          case measure => omega
          case rel =>
            obtain ⟨F', hC⟩ := K6.out
            exact ⟨k + 1, F', _, rfl, by omega, by go_num, hC⟩
      · obtain rfl : k = ps.length := by omega
        go_wp2
        go_ret
        have hC := HA.out
        have e := hC.eq
        rw [List.take_of_length_le (Nat.le_refl _)] at e
        rw [← e]
        exact ⟨rfl, F, hC⟩
end
end Go.Proofs.Ytdddmjdlikjedaa

/-
  release and decommit. No conditions but that the set is one that calls can make.
-/
namespace Go.Proofs.Ytdddmjdlikjedaa
open Go.ChangeShapes Go.WideShapes Go.ChangeAt Go.RowKit

def rel1 (S : PL) (p : Int) : PL := match S.g p with | none => S | some f => ⟨relL S.L f, updI S.g p none, S.c - 1⟩
theorem rel1_none {S : PL} {p : Int} (h : S.g p = none) : rel1 S p = S := by unfold rel1; rw [h]
theorem rel1_some {S : PL} {p f : Int} (h : S.g p = some f) : rel1 S p = ⟨relL S.L f, updI S.g p none, S.c - 1⟩ := by unfold rel1; rw [h]
theorem few_rel {S : PL} (h : Few S.L) (p : Int) : Few (rel1 S p).L := by
  unfold rel1
  split
  · exact h
  · rename_i f hf
    show Few (relL S.L f)
    have := h.users f
    unfold relL
    split
    · exact h
    · split
      · exact few_set h _ _ (by simp [Pg.none])
      · exact few_set h _ _ (by simp; omega)
def relAll (S : PL) (ps : List Pt) : PL := ps.foldl (fun S p => rel1 S (p.pg : Int)) S
theorem relAll_succ (S : PL) (ps : List Pt) (k : Nat) (p : Pt) (hk : ps[k]? = some p) : relAll S (ps.take (k + 1)) = rel1 (relAll S (ps.take k)) (p.pg : Int) := by
  obtain ⟨hlt, he⟩ := List.getElem?_eq_some_iff.1 hk
  unfold relAll
  rw [List.take_succ_eq_append_getElem hlt, List.foldl_append, he]
  rfl

section
variable {w : World} {s : Nat} {r : Rep} {M : Mod}
set_option maxRecDepth 20000 in
theorem release_any (h : SMem w s r M) {i : Int} {o : Ob} {a pb : Nat} (hO : M.O i = some o) (hA : r.A i = some a) (hB : r.B i = some pb) (hf : Few M.L) (p : Int) (hp : fit p) :
    Calls Try.prog 87 #[.pointer (some ⟨s, 0, none⟩), .pointer (some ⟨a, 0, none⟩), .int .i64 p] w fun e w' => e = .returned (.tuple #[]) ∧
      ∃ F', SMem w' s { r with FP := F' } (setM M i o (rel1 ⟨M.L, o.pgs, o.cnt⟩ p)) ∧ VNext w s r w' { r with FP := F' } ∧ (∀ j, F' j → r.FP j ∨ w.heap.size ≤ j) ∧ Turn (fun k => r.FP k ∨ k = pb) w w' := by
  obtain ⟨x, xt, hx1, hx2, hx3, hx4⟩ := h.live hO
  rw [hA] at hx1
  rw [hB] at hx2
  cases hx1
  cases hx2
  have lk := PMap.look hx4 p hp
  have d7 := (ocells hx3).c7
  have d0 := h.c0
  cases hgp : o.pgs p with
  | none =>
    rw [rel1_none (S := ⟨M.L, o.pgs, o.cnt⟩) hgp, setM_start hO]
    rw [hgp] at lk
    simp only [Option.getD_none, Option.isSome_none] at lk
    have H := Lib.hid h
    clear h hx3 hx4 hA hB hO hp hf hgp
    go_enter Try.func87, Try.ntmps87
    go_wp2
    go_end0
    exact ⟨rfl, r.FP, H.out, next_refl _ _ _, fun j hj => .inl hj, Turn.refl _ _⟩
  | some f =>
    rw [rel1_some (S := ⟨M.L, o.pgs, o.cnt⟩) hgp]
    rw [hgp] at lk
    simp only [Option.getD_some, Option.isSome_some] at lk
    have c1 := Lib.hid (show Calls Try.prog 102 #[.pointer (some ⟨r.p, 0, none⟩), .int .i64 f] w fun e w5 => (∃ z, e = .returned (.int .i64 z)) ∧ w5.cell? ⟨a, 7, none⟩ = some (.map (some pb)) ∧
        ∃ w6, (∀ ty, Sem.run Try.prog (Builtin.delete_ #[94, 3] ty #[.map (some pb), .int .i64 p]) w5 = .ok (.tuple #[]) w6) ∧ Hid (∃ F', SMem w6 s { r with FP := F' } (setM M i o ⟨relL M.L f, updI o.pgs p none, o.cnt - 1⟩) ∧ VNext w s r w6 { r with FP := F' } ∧ (∀ j, F' j → r.FP j ∨ w.heap.size ≤ j) ∧ Turn (fun k => r.FP k ∨ k = pb) w w6) from by
      refine (rel_any h.pool f (hf.users f)).mono ?_
      rintro e w5 ⟨rfl, F', k1, k2, k3⟩
      have m5 := h.setPool k1 k2 k3
      have nx := pool_next (s := s) k2 k3
      obtain ⟨y, yt, hy1, hy2, hy3, hy4⟩ := m5.live (i := i) (o := o) hO
      simp only at hy1 hy2
      rw [hA] at hy1
      rw [hB] at hy2
      cases hy1
      cases hy2
      obtain ⟨w6, hrun, pm6, t6⟩ := hy4.drop p hp 0
      rw [hgp] at pm6
      have m6 := m5.setOb (o' := { o with pgs := updI o.pgs p none, cnt := o.cnt - 1 }) hA hB t6 (fun j hj => .inr hj) (t6.heap hy3 (fun e => m5.aB hA hB e)) pm6
      exact ⟨⟨_, rfl⟩, (ocells hy3).c7, w6, fun ty => hrun, F', m6, nx.trans ⟨t6.mono (fun j hj => .inl (.inr (.inr (.inr (.inr ⟨i, by subst hj; exact hB⟩))))), fun j hj => .inl hj⟩, k3, (k2.mono (fun j hj => .inl (.inl hj))).trans t6 (fun j hj => .inl (.inr hj))⟩)
    clear h hx3 hx4 hA hB hO hp hf hgp
    go_enter Try.func87, Try.ntmps87
    go_wp2_with (go_at_call 102; (with_reducible refine c1.out.mono ?_); rintro e w5 ⟨⟨z5, rfl⟩, y7, w6, hrun, K6⟩)
    go_end0
    exact ⟨rfl, K6.out⟩

/-- What the loop of decommit holds. -/
structure DIn (w wr : World) (s : Nat) (r : Rep) (M : Mod) (i : Int) (o : Ob) (v : Value) (ps : List Pt) (F : Nat → Prop) (S : PL) (k : Nat) : Prop where
  eq : S = relAll ⟨M.L, o.pgs, o.cnt⟩ (ps.take k)
  mem : SMem wr s { r with FP := F } (setM M i o S)
  next : VNext w s r wr { r with FP := F }
  parts : Parts v ps wr
  apart : ∀ j, Blk v j → ¬ SFoot s { r with FP := F } j
  few : Few S.L
theorem DIn.past {w wr wx : World} {i : Int} {o : Ob} {v : Value} {ps : List Pt} {F : Nat → Prop} {S : PL} {k : Nat} (h : DIn w wr s r M i o v ps F S k) (t : Turn NoBlock wr wx) : DIn w wx s r M i o v ps F S k :=
  ⟨h.eq, h.mem.past t, h.next.past t, h.parts.past t (fun _ _ h => h), h.apart, h.few⟩
theorem DIn.step {w wx w6 : World} {i : Int} {o : Ob} {v : Value} {ps : List Pt} {F F' : Nat → Prop} {S : PL} {k : Nat} {p : Pt} (h : DIn w wx s r M i o v ps F S k) (hp : ps[k]? = some p)
    (m6 : SMem w6 s { r with FP := F' } (setM (setM M i o S) i { o with pgs := S.g, cnt := S.c } (rel1 S (p.pg : Int)))) (nx : VNext wx s { r with FP := F } w6 { r with FP := F' }) : DIn w w6 s r M i o v ps F' (rel1 S (p.pg : Int)) (k + 1) := by
  have e : setM (setM M i o S) i { o with pgs := S.g, cnt := S.c } (rel1 S (p.pg : Int)) = setM M i o (rel1 S (p.pg : Int)) := by
    unfold setM
    simp only [updI_twice]
  rw [e] at m6
  refine ⟨?_, m6, h.next.trans nx, h.parts.past nx.turn h.apart, fun j hj hF => ?_, few_rel h.few _⟩
  · rw [h.eq, relAll_succ _ _ _ _ hp]
  · rcases nx.foot j hF with e | e
    · exact h.apart j hj e
    · obtain ⟨cur, hb⟩ := own_block h.parts hj
      have := lt_of_block hb
      omega

set_option maxRecDepth 20000 in
set_option maxHeartbeats 2000000 in
theorem decommit_any (h : SMem w s r M) {i : Int} {o : Ob} {a pb : Nat} (hO : M.O i = some o) (hA : r.A i = some a) (hB : r.B i = some pb) {v : Value} {ps : List Pt} (hv : Parts v ps w) (hps : ps.length ≤ 4096) (hpg : ∀ p ∈ ps, p.pg ≤ 4611686018427387904)
    (hvf : ∀ j, Blk v j → ¬ SFoot s r j) (hf : Few M.L) :
    Calls Try.prog 64 #[.pointer (some ⟨s, 0, none⟩), .pointer (some ⟨a, 0, none⟩), v] w fun e w' => e = .returned (.tuple #[]) ∧ ∃ F, DIn w w' s r M i o v ps F (relAll ⟨M.L, o.pgs, o.cnt⟩ ps) ps.length := by
  have HC := Lib.hid (show DIn w w s r M i o v ps r.FP ⟨M.L, o.pgs, o.cnt⟩ 0 from ⟨rfl, by rw [setM_start hO]; exact h, next_refl w s r, hv, hvf, hf⟩)
  obtain ⟨gp, cap, rfl⟩ := hv.shape
  have H := Lib.hid (And.intro hA (And.intro hB hpg))
  have hps2 : (ps.length : Int) ≤ 4096 := by omega
  clear h hO hA hB hv hps hpg hvf hf
  go_enter Try.func64, Try.ntmps64
  go_wp2_with fail
  go_loopg [10] ps.length (fun g s10 wr => ∃ (k : Nat) (F : Nat → Prop) (S : PL), g = ps.length - k ∧ k ≤ ps.length ∧ s10 = .int .i64 k ∧ Hid (DIn w wr s r M i o (.slice gp ps.length cap) ps F S k))
  case atStart => exact ⟨0, r.FP, _, rfl, by omega, rfl, HC.out⟩
  case round =>
    obtain ⟨k, F, S, hg, hk, rfl, HA⟩ := hrel
    by_cases hlt : k < ps.length
    · obtain ⟨hA, hB, hpg⟩ := H.out
      obtain ⟨p, hp⟩ : ∃ p, ps[k]? = some p := ⟨_, List.getElem?_eq_getElem hlt⟩
      obtain ⟨gb, cb, he, hkl, e0, e1, e2⟩ := HA.out.parts.at hp
      simp only [Value.slice.injEq] at he
      obtain ⟨rfl, -, rfl⟩ := he
      have hpg1 := hpg p (List.mem_of_getElem? hp)
      have hklI : (k : Int) < (ps.length : Int) := by omega
      have HR := Lib.hid (fun ob => by
        have hx := HA.out.past ((Turn.refl NoBlock wr).alloc ob)
        have c := release_any hx.mem (i := i) (o := { o with pgs := S.g, cnt := S.c }) (updI_same _ _ _) hA hB hx.few (p.pg : Int) (by unfold fit; omega)
        exact (c.mono fun e w6 hw => by
          obtain ⟨k1, F', k2, k3, -, -⟩ := hw
          exact (⟨k1, F', hx.step hp k2 k3⟩ : e = .returned (.tuple #[]) ∧ ∃ F', DIn w w6 s r M i o (.slice (some ⟨gb, 0, none⟩) ps.length cap) ps F' (rel1 S (p.pg : Int)) (k + 1))))
      obtain ⟨pg, pat, pn⟩ := p
      simp only at e0 e1 e2 hpg1
      clear hA hB hpg hp hkl hpg1
      go_wp2_with (go_at_call 87; (with_reducible refine (HR.out _).mono ?_); rintro e w6 ⟨rfl, F6, k6⟩; have K6 := Lib.hid k6; clear k6)
      go_roundg (ps.length - (k + 1))
      case measure => omega
      case rel => exact ⟨k + 1, F6, _, rfl, by omega, by go_num, K6.out⟩
    · obtain rfl : k = ps.length := by omega
      go_wp2
      go_end0
      have hC := HA.out
      have e := hC.eq
      rw [List.take_of_length_le (Nat.le_refl _)] at e
      rw [← e]
      exact ⟨rfl, F, hC⟩
end
end Go.Proofs.Ytdddmjdlikjedaa

/-
  Frames and who has them, as plain data: a frame has just as many users as pages have it; what stands in a page. No walk, no conditions.
-/
namespace Go.Proofs.Ytdddmjdlikjedaa
open Go.ChangeShapes Go.WideShapes Go.ChangeAt Go.RowKit

abbrev Key := Int × Int
def updK (A : Key → Option Int) (k : Key) (v : Option Int) : Key → Option Int := fun j => if j = k then v else A j
theorem updK_same (A : Key → Option Int) (k : Key) (v : Option Int) : updK A k v k = v := by simp [updK]
theorem updK_ne {A : Key → Option Int} {k j : Key} {v : Option Int} (h : j ≠ k) : updK A k v j = A j := by simp [updK, h]

theorem pg_set (L : List Pg) (n : Nat) (q : Pg) (g : Int) : pgAt (L.set n q) g = if g = (n : Int) ∧ n < L.length then q else pgAt L g := by
  unfold pgAt
  rw [List.length_set]
  by_cases hg : 0 ≤ g ∧ g < L.length
  · rw [if_pos hg, if_pos hg, List.getD_eq_getElem?_getD, List.getD_eq_getElem?_getD]
    by_cases e : g = (n : Int)
    · have e2 : g.toNat = n := by omega
      rw [if_pos ⟨e, by omega⟩, e2, List.getElem?_set_self (by omega)]
      rfl
    · rw [if_neg (fun h => e h.1), List.getElem?_set_ne (by omega)]
  · rw [if_neg hg, if_neg hg, if_neg (fun h => hg (by omega))]
theorem users_set (L : List Pg) (n : Nat) (q : Pg) (g : Int) : usersL (L.set n q) g = if g = (n : Int) ∧ n < L.length then q.users else usersL L g := by
  unfold usersL
  rw [pg_set]
  split <;> rfl
theorem low_free {L : List Pg} (h : lowOf L < L.length) : usersL L (lowOf L) = 0 := by
  unfold usersL
  rw [pgAt_nat, List.getD_eq_getElem?_getD, List.getElem?_eq_getElem h]
  have h2 : isFree (L[lowOf L]) = true := List.findIdx_getElem (w := h)
  show (L[lowOf L]).users = 0
  generalize L[lowOf L] = p at h2
  unfold isFree at h2
  simpa using h2
theorem users_range {L : List Pg} {f : Int} (h : usersL L f ≠ 0) : 0 ≤ f ∧ f.toNat < L.length ∧ f = ((f.toNat : Nat) : Int) := by
  unfold usersL pgAt at h
  split at h
  · omega
  · exact absurd rfl h

structure Good (L : List Pg) (A : Key → Option Int) : Prop where
  ex : ∀ f, ∃ ks : List Key, ks.Nodup ∧ (∀ k, k ∈ ks ↔ A k = some f) ∧ ks.length = usersL L f
theorem Good.start (n : Nat) : Good (List.replicate n Pg.none) (fun _ => none) := ⟨fun f => ⟨[], List.nodup_nil, fun k => by simp, by
  unfold usersL pgAt
  split
  · rw [List.getD_eq_getElem?_getD, List.getElem?_replicate]
    split <;> rfl
  · rfl⟩⟩
section
variable {L : List Pg} {A : Key → Option Int}
theorem Good.pos (h : Good L A) {k : Key} {f : Int} (hk : A k = some f) : usersL L f ≠ 0 := by
  obtain ⟨ks, _, h2, h3⟩ := h.ex f
  have := List.length_pos_of_mem ((h2 k).2 hk)
  omega
theorem Good.free (h : Good L A) {f : Int} (hf : usersL L f = 0) (k : Key) : A k ≠ some f := fun hk => h.pos hk hf
theorem Good.alone (h : Good L A) {k k' : Key} {f : Int} (hk : A k = some f) (h1 : usersL L f = 1) (hk' : A k' = some f) : k' = k := by
  obtain ⟨ks, _, h2, h3⟩ := h.ex f
  rw [h1] at h3
  obtain ⟨x, rfl⟩ := List.length_eq_one_iff.1 h3
  have a := (h2 k).2 hk
  have b := (h2 k').2 hk'
  simp at a b
  rw [a, b]
/-- One more key at a frame. -/
theorem Good.add (h : Good L A) {L' : List Pg} {k : Key} {f : Int} (hk : A k = none) (hf : usersL L' f = usersL L f + 1) (ho : ∀ g, g ≠ f → usersL L' g = usersL L g) : Good L' (updK A k (some f)) := by
  refine ⟨fun g => ?_⟩
  obtain ⟨ks, h1, h2, h3⟩ := h.ex g
  by_cases e : g = f
  · subst e
    refine ⟨k :: ks, List.nodup_cons.2 ⟨(fun hm => by rw [(h2 k).1 hm] at hk; cases hk), h1⟩, fun j => ?_, by rw [List.length_cons, h3, hf]⟩
    rw [List.mem_cons]
    by_cases ej : j = k
    · subst ej; simp [updK]
    · rw [updK_ne ej, h2 j]
      simp [ej]
  · refine ⟨ks, h1, fun j => ?_, by rw [h3, ho g e]⟩
    by_cases ej : j = k
    · subst ej
      rw [h2 j, hk, updK_same]
      simp
      omega
    · rw [updK_ne ej, h2 j]
/-- One key less at a frame. -/
theorem Good.sub (h : Good L A) {L' : List Pg} {k : Key} {f : Int} (hk : A k = some f) (hf : usersL L' f + 1 = usersL L f) (ho : ∀ g, g ≠ f → usersL L' g = usersL L g) : Good L' (updK A k none) := by
  refine ⟨fun g => ?_⟩
  obtain ⟨ks, h1, h2, h3⟩ := h.ex g
  by_cases e : g = f
  · subst e
    have hm := (h2 k).2 hk
    refine ⟨ks.erase k, h1.erase _, fun j => ?_, by rw [List.length_erase_of_mem hm, h3]; omega⟩
    rw [h1.mem_erase_iff, h2 j]
    by_cases ej : j = k
    · subst ej; simp [updK]
    · rw [updK_ne ej]
      simp [ej]
  · refine ⟨ks, h1, fun j => ?_, by rw [h3, ho g e]⟩
    by_cases ej : j = k
    · subst ej
      rw [h2 j, hk, updK_same]
      simp
      omega
    · rw [updK_ne ej, h2 j]
theorem Good.same (h : Good L A) {L' : List Pg} (ho : ∀ g, usersL L' g = usersL L g) : Good L' A := ⟨fun g => by
  obtain ⟨ks, h1, h2, h3⟩ := h.ex g
  exact ⟨ks, h1, h2, by rw [h3, ho g]⟩⟩
theorem Good.congr (h : Good L A) {B : Key → Option Int} (e : ∀ k, B k = A k) : Good L B := by
  have : B = A := funext e
  rw [this]; exact h

theorem alloc_users (hl : lowOf L < L.length) (g : Int) : usersL (allocL L) g = if g = (lowOf L : Int) then 1 else usersL L g := by
  unfold allocL
  rw [if_pos hl, users_set]
  by_cases e : g = (lowOf L : Int)
  · rw [if_pos ⟨e, hl⟩, if_pos e]
  · rw [if_neg (fun h => e h.1), if_neg e]
theorem alloc_bytes (hl : lowOf L < L.length) (g : Int) : (pgAt (allocL L) g).bytes = if g = (lowOf L : Int) then blank else (pgAt L g).bytes := by
  unfold allocL
  rw [if_pos hl, pg_set]
  by_cases e : g = (lowOf L : Int)
  · rw [if_pos ⟨e, hl⟩, if_pos e]
  · rw [if_neg (fun h => e h.1), if_neg e]
theorem alloc_val (hl : lowOf L < L.length) : allocV L = (lowOf L : Int) := by unfold allocV; rw [if_pos hl]
theorem Good.alloc (h : Good L A) {k : Key} (hk : A k = none) (hl : lowOf L < L.length) : Good (allocL L) (updK A k (some (allocV L))) := by
  rw [alloc_val hl]
  exact h.add hk (by rw [alloc_users hl, if_pos rfl, low_free hl]) (fun g hg => by rw [alloc_users hl, if_neg hg])
theorem own_users {f : Int} (hu : 1 < usersL L f) (hl : lowOf L < L.length) (g : Int) : usersL (ownL L f) g = if g = f then usersL L f - 1 else if g = (lowOf L : Int) then 1 else usersL L g := by
  obtain ⟨r1, r2, r3⟩ := users_range (show usersL L f ≠ 0 by omega)
  unfold ownL
  rw [if_neg (by omega), if_pos hl, users_set, users_set, List.length_set]
  by_cases e : g = f
  · rw [if_pos ⟨by omega, r2⟩, if_pos e]
  · rw [if_neg (fun h => e (by omega)), if_neg e]
    by_cases e2 : g = (lowOf L : Int)
    · rw [if_pos ⟨e2, hl⟩, if_pos e2]
    · rw [if_neg (fun h => e2 h.1), if_neg e2]
theorem own_bytes {f : Int} (hu : 1 < usersL L f) (hl : lowOf L < L.length) (g : Int) : (pgAt (ownL L f) g).bytes = if g = (lowOf L : Int) then (pgAt L f).bytes else (pgAt L g).bytes := by
  obtain ⟨r1, r2, r3⟩ := users_range (show usersL L f ≠ 0 by omega)
  have hne : f ≠ (lowOf L : Int) := fun e => by have := low_free hl; rw [← e] at this; omega
  unfold ownL
  rw [if_neg (by omega), if_pos hl, pg_set, pg_set, List.length_set]
  by_cases e : g = f
  · rw [if_pos ⟨by omega, r2⟩, e, if_neg hne]
  · rw [if_neg (fun h => e (by omega))]
    by_cases e2 : g = (lowOf L : Int)
    · rw [if_pos ⟨e2, hl⟩, if_pos e2]
    · rw [if_neg (fun h => e2 h.1), if_neg e2]
theorem own_val {f : Int} (hu : 1 < usersL L f) (hl : lowOf L < L.length) : ownV L f = (lowOf L : Int) := by
  unfold ownV
  rw [if_neg (by omega), if_neg (by omega), alloc_val hl]
theorem own_one {f : Int} (hu : usersL L f = 1) : ownV L f = f ∧ ownL L f = L := by
  unfold ownV ownL
  rw [if_neg (by omega), if_pos hu, if_pos (by omega)]
  exact ⟨rfl, rfl⟩
theorem Good.own (h : Good L A) {k : Key} {f : Int} (hk : A k = some f) (hu : 1 < usersL L f) (hl : lowOf L < L.length) : Good (ownL L f) (updK A k (some (ownV L f))) := by
  have hne : f ≠ (lowOf L : Int) := fun e => by have := low_free hl; rw [← e] at this; omega
  rw [own_val hu hl]
  -- first the key is taken off the frame, then put at the free one
  have h1 : Good (L.set f.toNat ⟨usersL L f - 1, (pgAt L f).bytes⟩) (updK A k none) := by
    obtain ⟨r1, r2, r3⟩ := users_range (show usersL L f ≠ 0 by omega)
    refine h.sub hk ?_ (fun g hg => ?_)
    · rw [users_set, if_pos ⟨r3, r2⟩]
      show usersL L f - 1 + 1 = _
      omega
    · rw [users_set, if_neg (fun h => hg (by omega))]
  have h2 := h1.add (L' := ownL L f) (k := k) (f := (lowOf L : Int)) (updK_same _ _ _) (by
    rw [own_users hu hl, if_neg (fun e => hne e.symm), if_pos rfl, users_set]
    obtain ⟨r1, r2, r3⟩ := users_range (show usersL L f ≠ 0 by omega)
    rw [if_neg (fun h => hne (by omega)), low_free hl]) (fun g hg => by
    obtain ⟨r1, r2, r3⟩ := users_range (show usersL L f ≠ 0 by omega)
    rw [own_users hu hl, users_set]
    by_cases e : g = f
    · rw [if_pos e, if_pos ⟨by omega, r2⟩]
    · rw [if_neg e, if_neg hg, if_neg (fun h => e (by omega))])
  refine h2.congr (fun j => ?_)
  unfold updK
  split <;> rfl
theorem rel_users {f : Int} (hu : usersL L f ≠ 0) (g : Int) : usersL (relL L f) g = if g = f then usersL L f - 1 else usersL L g := by
  obtain ⟨r1, r2, r3⟩ := users_range hu
  unfold relL
  rw [if_neg hu]
  by_cases h1 : usersL L f = 1
  · rw [if_pos h1, users_set]
    by_cases e : g = f
    · rw [if_pos ⟨by omega, r2⟩, if_pos e, h1]; rfl
    · rw [if_neg (fun h => e (by omega)), if_neg e]
  · rw [if_neg h1, users_set]
    by_cases e : g = f
    · rw [if_pos ⟨by omega, r2⟩, if_pos e]
    · rw [if_neg (fun h => e (by omega)), if_neg e]
theorem rel_bytes {f : Int} {g : Int} (hg : g ≠ f ∨ 1 < usersL L f) : (pgAt (relL L f) g).bytes = (pgAt L g).bytes := by
  unfold relL
  by_cases hu : usersL L f = 0
  · rw [if_pos hu]
  obtain ⟨r1, r2, r3⟩ := users_range hu
  rw [if_neg hu]
  by_cases h1 : usersL L f = 1
  · rw [if_pos h1, pg_set, if_neg]
    rintro ⟨e, _⟩
    rcases hg with h | h
    · exact h (by omega)
    · omega
  · rw [if_neg h1, pg_set]
    by_cases e : g = f
    · rw [if_pos ⟨by omega, r2⟩, e]
    · rw [if_neg (fun h => e (by omega))]
theorem Good.rel (h : Good L A) {k : Key} {f : Int} (hk : A k = some f) : Good (relL L f) (updK A k none) := by
  have hu := h.pos hk
  exact h.sub hk (by rw [rel_users hu, if_pos rfl]; omega) (fun g hg => by rw [rel_users hu, if_neg hg])
theorem share_users {f : Int} (hu : usersL L f ≠ 0) (g : Int) : usersL (shareL L f) g = if g = f then usersL L f + 1 else usersL L g := by
  obtain ⟨r1, r2, r3⟩ := users_range hu
  unfold shareL
  rw [if_neg hu, users_set]
  by_cases e : g = f
  · rw [if_pos ⟨by omega, r2⟩, if_pos e]
  · rw [if_neg (fun h => e (by omega)), if_neg e]
theorem share_bytes (f g : Int) : (pgAt (shareL L f) g).bytes = (pgAt L g).bytes := by
  unfold shareL
  by_cases hu : usersL L f = 0
  · rw [if_pos hu]
  obtain ⟨r1, r2, r3⟩ := users_range hu
  rw [if_neg hu, pg_set]
  by_cases e : g = f
  · rw [if_pos ⟨by omega, r2⟩, e]
  · rw [if_neg (fun h => e (by omega))]
theorem Good.share (h : Good L A) {k k' : Key} {f : Int} (hk : A k = some f) (hk' : A k' = none) : Good (shareL L f) (updK A k' (some f)) := by
  have hu := h.pos hk
  exact h.add hk' (by rw [share_users hu, if_pos rfl]) (fun g hg => by rw [share_users hu, if_neg hg])
theorem write_users (f b : Int) (bs : List UInt8) (g : Int) : usersL (writeL L f b bs) g = usersL L g := by
  unfold writeL
  split
  · rename_i hs
    have hu : usersL L f ≠ 0 := fun e => by
      unfold writeS withinS at hs
      rw [if_pos e] at hs
      simp at hs
    obtain ⟨r1, r2, r3⟩ := users_range hu
    rw [users_set]
    by_cases e : g = f
    · rw [if_pos ⟨by omega, r2⟩, e]
    · rw [if_neg (fun h => e (by omega))]
  · rfl
theorem write_bytes {f : Int} {b : Nat} {bs : List UInt8} (hu : usersL L f = 1) (hb : b + bs.length ≤ 64) (g : Int) : (pgAt (writeL L f b bs) g).bytes = if g = f then putB (pgAt L f).bytes b bs else (pgAt L g).bytes := by
  obtain ⟨r1, r2, r3⟩ := users_range (show usersL L f ≠ 0 by omega)
  have hs : writeS L f b bs.length = 0 := by
    unfold writeS withinS
    rw [hu]
    have : inB (b : Int) bs.length = true := by unfold inB; exact decide_eq_true (by omega)
    rw [this]
    rfl
  unfold writeL
  rw [if_pos hs, pg_set]
  by_cases e : g = f
  · rw [if_pos ⟨by omega, r2⟩, if_pos e, Int.toNat_natCast]
  · rw [if_neg (fun h => e (by omega)), if_neg e]
end
/-- What stands in a page. -/
def cont (L : List Pg) (x : Option Int) : List UInt8 := match x with | none => blank | some f => (pgAt L f).bytes
theorem cont_some (L : List Pg) (f : Int) : cont L (some f) = (pgAt L f).bytes := rfl
theorem cont_none (L : List Pg) : cont L none = blank := rfl
end Go.Proofs.Ytdddmjdlikjedaa

/-
  bytes: what stands in a part. No conditions but that the set is one that calls can make.
-/
namespace Go.Proofs.Ytdddmjdlikjedaa
open Go.ChangeShapes Go.WideShapes Go.ChangeAt Go.RowKit

def byteL (S : PL) (p : Pt) : List UInt8 := match S.g (p.pg : Int) with | none => List.replicate p.n 0 | some f => readB S.L f p.at' p.n
theorem byte_none {S : PL} {p : Pt} (h : S.g (p.pg : Int) = none) : byteL S p = List.replicate p.n 0 := by unfold byteL; rw [h]
theorem byte_some {S : PL} {p : Pt} {f : Int} (h : S.g (p.pg : Int) = some f) : byteL S p = readB S.L f p.at' p.n := by unfold byteL; rw [h]
def ptV (p : Pt) : Value := .agg #[.int .i64 (p.pg : Int), .int .i64 (p.at' : Int), .int .i64 (p.n : Int)]
theorem zeros_cells (n : Nat) : (madeCells (Value.int .u8 0).cells (n * 1)).toList = bcells (List.replicate n 0) := by
  rw [Nat.mul_one]
  unfold madeCells bcells
  apply List.ext_getElem?
  intro i
  by_cases h : i < n
  · simp [Value.cells, h, Nat.mod_one]
  · simp [h]
theorem zero_byts {w : World} {g n : Nat} (h : w.ownsRow 0 5 1 (.slice (some ⟨g, 0, none⟩) n n) n (madeCells (Value.int .u8 0).cells (n * 1)).toList) : Byts (.slice (some ⟨g, 0, none⟩) n n) (List.replicate n 0) w := by
  rw [zeros_cells] at h
  unfold Byts
  rw [List.length_replicate]
  exact h

section
variable {w : World} {s : Nat} {r : Rep} {M : Mod}
set_option maxRecDepth 20000 in
theorem bytes8_any (h : SMem w s r M) {i : Int} {o : Ob} {a pb : Nat} (hO : M.O i = some o) (hA : r.A i = some a) (hB : r.B i = some pb) (p : Pt) (hpg : p.pg ≤ 4611686018427387904) (hn : p.at' + p.n ≤ 64) (hu : ∀ q f, o.pgs q = some f → usersL M.L f ≠ 0) :
    Calls Try.prog 57 #[.pointer (some ⟨s, 0, none⟩), .pointer (some ⟨a, 0, none⟩), ptV p] w fun e w' => ∃ v, e = .returned v ∧ Byts v (byteL ⟨M.L, o.pgs, o.cnt⟩ p) w' ∧ (∀ j, Blk v j → w.heap.size ≤ j) ∧ Turn NoBlock w w' := by
  have hfit : fit (p.pg : Int) := by unfold fit; omega
  obtain ⟨iv, hi, hz0, hz1, hz2⟩ := info_parts info5
  obtain ⟨pg, pat, pn⟩ := p
  simp only at hn hpg hfit
  unfold ptV
  simp only
  obtain ⟨x, xt, hx1, hx2, hx3, hx4⟩ := h.live hO
  rw [hA] at hx1
  rw [hB] at hx2
  cases hx1
  cases hx2
  have halt := lt_of_block hx3
  have hslt := h.lt (.inl rfl)
  have d0 := h.c0
  have d7 := (ocells hx3).c7
  obtain ⟨W1, hW1⟩ : ∃ W1, W1 = (w.alloc (.cells #[.int .i64 (pg : Int), .int .i64 (pat : Int), .int .i64 (pn : Int)] 105)).drew := ⟨_, rfl⟩
  have tW : Turn NoBlock w W1 := by rw [hW1]; exact ((Turn.refl _ _).alloc _).drew
  have lk := PMap.look (IMap.past hx4 tW (fun h => h)) (pg : Int) hfit
  cases hgp : o.pgs (pg : Int) with
  | none =>
    rw [byte_none hgp]
    rw [hgp, hW1] at lk
    simp only [Option.getD_none, Option.isSome_none] at lk
    rw [hW1] at tW
    have q1 : iv.bytes * pn ≤ 281474976710656 := by rw [hz2]; omega
    have q2 : pn ≤ maxLen := by unfold maxLen; omega
    have HT := Lib.hid tW
    clear h hx3 hx4 hA hB hO hfit hgp hu tW hW1
    go_enter Try.func57, Try.ntmps57
    go_wp2
    go_region
    all_goals
      go_wp2_with (at_make; refine wpList_make_full _ rfl (.tmp 24) (.tmp 24) 22 rfl 0 5 iv _ 1 bytes31 hi hz0 hz1 .i64 .i64 _ _ pn rfl rfl rfl rfl q1 q2 (Nat.zero_le _) ?_; intro w2 hown hgrow; have K2 := Lib.hid (And.intro (zero_byts hown) (HT.out.grown hgrow (fun k e => by cases e))); clear hown hgrow)
      go_ret
      refine ⟨.slice (some ⟨w.heap.size + 1, 0, none⟩) pn pn, rfl, by have h := K2.out.1; simpa using h, fun j hj => ?_, K2.out.2⟩
      simp [Blk, Value.ownBlock] at hj
      omega
  | some f =>
    rw [byte_some hgp]
    rw [hgp] at lk
    simp only [Option.getD_some, Option.isSome_some] at lk
    rw [hW1] at lk
    have HR := Lib.hid (fun w' (t : Turn NoBlock w w') (q1 : w'.cell? ⟨w.heap.size, 1, none⟩ = some (.int .i64 (pat : Int))) (q2 : w'.cell? ⟨w.heap.size, 2, none⟩ = some (.int .i64 (pn : Int))) =>
      show Calls Try.prog 84 #[.pointer (some ⟨r.p, 0, none⟩), .int .i64 f, .int .i64 pat, .int .i64 pn] w' fun e w5 => ∃ v, e = .returned (.tuple #[v, .int .i64 0]) ∧ Hid (Byts v (readB M.L f pat pn) w5 ∧ (∀ j, Blk v j → w.heap.size ≤ j)) ∧ Turn NoBlock w w5 ∧
          w5.cell? ⟨s, 0, none⟩ = some (.pointer (some ⟨r.p, 0, none⟩)) ∧ w5.cell? ⟨w.heap.size, 1, none⟩ = some (.int .i64 (pat : Int)) ∧ w5.cell? ⟨w.heap.size, 2, none⟩ = some (.int .i64 (pn : Int)) from by
        refine (read_any ((h.past t).pool) f pat pn (by unfold withinS; rw [if_neg (hu _ _ hgp), if_pos (by unfold inB; exact decide_eq_true (by omega))])).mono ?_
        rintro e w5 ⟨v, rfl, k1, k2, k3⟩
        have t5 := t.trans k3 (fun _ h => .inl h)
        exact ⟨v, rfl, ⟨k1, fun j hj => Nat.le_trans t.size (k2 j hj)⟩, t5, (h.past t5).c0, k3.cell q1 (fun h => h), k3.cell q2 (fun h => h)⟩)
    have D0 : ∀ ob m, ((w.alloc ob).drewN m).cell? ⟨s, 0, none⟩ = some (.pointer (some ⟨r.p, 0, none⟩)) := fun ob m => (h.past (((Turn.refl NoBlock w).alloc ob).drewN m)).c0
    have D1 : ∀ c0 c1 c2 t m, ((w.alloc (.cells #[c0, c1, c2] t)).drewN m).cell? ⟨w.heap.size, 1, none⟩ = some c1 := fun c0 c1 c2 t m => by exact cell_at (heap_alloc_new w (.cells #[c0, c1, c2] t)) 1
    have D2 : ∀ c0 c1 c2 t m, ((w.alloc (.cells #[c0, c1, c2] t)).drewN m).cell? ⟨w.heap.size, 2, none⟩ = some c2 := fun c0 c1 c2 t m => by exact cell_at (heap_alloc_new w (.cells #[c0, c1, c2] t)) 2
    clear h hx3 hx4 hA hB hO hfit hgp hu tW hW1
    go_enter Try.func57, Try.ntmps57
    go_wp2
    go_region
    all_goals
      go_wp2_with fail
      go_region_held3 (fun w' => w'.cell? ⟨s, 0, none⟩ = some (.pointer (some ⟨r.p, 0, none⟩)) ∧ w'.cell? ⟨w.heap.size, 1, none⟩ = some (.int .i64 (pat : Int)) ∧ w'.cell? ⟨w.heap.size, 2, none⟩ = some (.int .i64 (pn : Int)) ∧ Turn NoBlock w w') ((refine ⟨?_, ?_, ?_, ?_⟩ <;> (first | assumption | exact D0 _ 2 | exact D1 _ _ _ _ 2 | exact D2 _ _ _ _ 2 | exact ((Turn.refl _ _).alloc _).drewN 2)))
        (first
          | (go_at_call 84; (with_reducible refine (HR.out _ ?_ ?_ ?_).mono ?_); (first | assumption | exact ((Turn.refl _ _).alloc _).drewN 2); (first | assumption | exact D1 _ _ _ _ 2); (first | assumption | exact D2 _ _ _ _ 2); rintro e w5 ⟨v5, rfl, K5, T5, y0, y1, y2⟩))
      all_goals
        go_wp2
        go_ret
        exact ⟨_, rfl, K5.out.1, K5.out.2, T5⟩
end
end Go.Proofs.Ytdddmjdlikjedaa

/-
  behind: the object whose pages stand behind a slice. No conditions but that a slice's parent is there.
-/
namespace Go.Proofs.Ytdddmjdlikjedaa
open Go.ChangeShapes Go.WideShapes Go.ChangeAt Go.RowKit

/-- What calls can make of parents, depths and places. -/
structure Chain (O : Int → Option Ob) : Prop where
  up : ∀ i o, O i = some o → 0 < o.depth → ∃ q, O (o.par : Int) = some q ∧ q.depth + 1 = o.depth
  small : ∀ i o, O i = some o → o.size ≤ 4294967296 ∧ o.frm ≤ 4294967296 ∧ o.depth ≤ 16
  pgs : ∀ i o, O i = some o → 0 < o.depth → o.pgs = fun _ => none

def rootI (O : Int → Option Ob) : Nat → Int → Int → Int × Int
  | 0, i, t => (i, t)
  | d + 1, i, t => match O i with | none => (i, t) | some o => rootI O d (o.par : Int) (t + (o.frm : Int))

theorem rootI_succ {O : Int → Option Ob} {d : Nat} {i t : Int} {o : Ob} (h : O i = some o) : rootI O (d + 1) i t = rootI O d (o.par : Int) (t + (o.frm : Int)) := by
  show (match O i with | none => (i, t) | some o => rootI O d (o.par : Int) (t + (o.frm : Int))) = _
  rw [h]

section
variable {w : World} {s : Nat} {r : Rep} {M : Mod}
set_option maxRecDepth 20000 in
theorem behind_any (h : SMem w s r M) (hc : Chain M.O) (hmd : M.made < 4611686018427387904) {i0 : Int} {o0 : Ob} {a0 : Nat} (hO0 : M.O i0 = some o0) (hA0 : r.A i0 = some a0) (t0 : Int) (ht0 : 0 ≤ t0) (ht1 : t0 + o0.depth * 4294967296 ≤ 4611686018427387904) :
    Calls Try.prog 53 #[.pointer (some ⟨s, 0, none⟩), .pointer (some ⟨a0, 0, none⟩), .int .i64 t0] w fun e w' => ∃ j o a, M.O j = some o ∧ r.A j = some a ∧ o.depth = 0 ∧ (rootI M.O o0.depth i0 t0).1 = j ∧
      e = .returned (.tuple #[.pointer (some ⟨a, 0, none⟩), .int .i64 (rootI M.O o0.depth i0 t0).2]) ∧ ∃ m, w' = w.drewN m := by
  have H := Lib.hid (And.intro h hc)
  have H0 := Lib.hid (And.intro hO0 (And.intro hA0 (And.intro ht0 ht1)))
  have d3 : w.cell? ⟨s, 3, none⟩ = some (.map (some r.mo)) := h.c3
  have Hmd := Lib.hid hmd
  clear h hc hmd hO0 hA0 ht0 ht1
  generalize hR : rootI M.O o0.depth i0 t0 = R at *
  have HR := Lib.hid hR
  clear hR
  go_enter Try.func53, Try.ntmps53
  go_wp2_with fail
  go_loopg [1, 2] o0.depth (fun g s1 s2 wr => ∃ (i : Int) (o : Ob) (a : Nat) (t : Int) (m : Nat), g = o.depth ∧ s1 = .pointer (some ⟨a, 0, none⟩) ∧ s2 = .int .i64 t ∧ wr = w.drewN m ∧ Hid (M.O i = some o ∧ r.A i = some a ∧ rootI M.O o.depth i t = R ∧ 0 ≤ t ∧ t + o.depth * 4294967296 ≤ 4611686018427387904))
  case atStart => exact ⟨i0, o0, a0, t0, 0, rfl, rfl, rfl, rfl, H0.out.1, H0.out.2.1, HR.out, H0.out.2.2.1, H0.out.2.2.2⟩
  case round =>
    obtain ⟨i, o, a, t, m, hg, rfl, rfl, rfl, HA⟩ := hrel
    obtain ⟨hO, hA, hR, ht0, ht1⟩ := HA.out
    obtain ⟨a', pb, hA', hB, hcell, hp⟩ := H.out.1.live hO
    rw [hA] at hA'
    cases hA'
    have g := ocells hcell
    have d4 : w.cell? ⟨a, 4, none⟩ = some (.int .i64 (o.depth : Int)) := g.c4
    by_cases hd : 0 < o.depth
    · obtain ⟨q, hq, hqd⟩ := H.out.2.up i o hO hd
      obtain ⟨b, pb', hA2, -, -, -⟩ := H.out.1.live hq
      have d5 : w.cell? ⟨a, 5, none⟩ = some (.int .i64 (o.frm : Int)) := g.c5
      have d1 : w.cell? ⟨a, 1, none⟩ = some (.int .i64 (o.par : Int)) := g.c1
      have hfit : fit (o.par : Int) := by
        have := H.out.1.ids _ _ hA2
        have := Hmd.out
        unfold fit
        omega
      have l1 := (H.out.1.past ((Turn.refl NoBlock w).drewN (m + 1))).omap.look (o.par : Int) hfit
      rw [hA2] at l1
      unfold ptrOf at l1
      have hfr := (H.out.2.small i o hO).2.1
      have hroot := hR
      rw [← hqd, rootI_succ hO] at hroot
      have hd2 : (0 : Int) < (o.depth : Int) := by omega
      have hsum : IntKind.i64.wrap (t + (o.frm : Int)) = t + (o.frm : Int) := by
        obtain ⟨n, rfl⟩ : ∃ n : Nat, t = n := ⟨t.toNat, by omega⟩
        exact wrap_nat (n + o.frm) (by omega)
      have HX := Lib.hid (And.intro hq (And.intro hA2 (And.intro hroot (And.intro hqd (And.intro hfr (And.intro ht0 ht1))))))
      clear hO hA hR ht0 ht1 hq hA2 hroot hfr hfit hB hcell hp g HA
      go_wp2
      go_region
      all_goals
        go_wp2
        go_roundg q.depth
        case measure => have := HX.out.2.2.2.1; omega
        case rel => exact ⟨(o.par : Int), q, b, t + (o.frm : Int), m + 1, rfl, rfl, rfl, rfl, HX.out.1, HX.out.2.1, HX.out.2.2.1, by have := HX.out.2.2.2.2; omega, by have := HX.out.2.2.2.2; have := HX.out.2.2.2.1; omega⟩
    · have h0 : o.depth = 0 := by omega
      rw [h0] at d4 hR
      have HX := Lib.hid (And.intro hO (And.intro hA (And.intro h0 hR)))
      clear hO hA hR ht0 ht1 hB hcell hp g HA
      go_wp2
      go_ret2
      obtain ⟨k1, k2, k3, k4⟩ := HX.out
      rw [← k4]
      exact ⟨i, o, a, k1, k2, k3, rfl, rfl, m, rfl⟩
end
end Go.Proofs.Ytdddmjdlikjedaa

