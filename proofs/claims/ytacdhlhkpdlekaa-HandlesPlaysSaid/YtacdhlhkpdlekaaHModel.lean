/-
  The table as plain data: places (a value and an entry), and the freed ones among them; the table in memory. No walk, no conditions.
-/
import Derived.Test.YtacdhlhkpdlekaaHPop
import Derived.Test.YtacdhlhkpdlekaaHThings
namespace Go.Proofs.Ytacdhlhkpdlekaa
open Go.RowKit

structure Ent where
  o : Int
  k : Int
  r : Int
deriving DecidableEq
structure Pl where
  value : Int
  e : Ent
deriving DecidableEq
def Ent.zero : Ent := ⟨0, 0, 0⟩
def Pl.none : Pl := ⟨0, Ent.zero⟩
def Ent.cells (e : Ent) : List Value := [.int .i64 e.o, .int .i64 e.k, .int .i64 e.r]
def Ent.agg (e : Ent) : Value := .agg #[.int .i64 e.o, .int .i64 e.k, .int .i64 e.r]
def Pl.cells (p : Pl) : List Value := [.int .i64 p.value, .int .i64 p.e.o, .int .i64 p.e.k, .int .i64 p.e.r]
def cellsOf (l : List Pl) : List Value := l.flatMap Pl.cells

theorem cells_len (l : List Pl) : (cellsOf l).length = l.length * 4 := by
  induction l with
  | nil => rfl
  | cons s l ih => simp only [cellsOf, List.flatMap_cons, List.length_append, List.length_cons] at ih ⊢; simp only [Pl.cells, List.length_cons, List.length_nil]; omega
theorem cells_cons (p : Pl) (l : List Pl) : cellsOf (p :: l) = .int .i64 p.value :: .int .i64 p.e.o :: .int .i64 p.e.k :: .int .i64 p.e.r :: cellsOf l := rfl
theorem cells_at (l : List Pl) (i : Nat) (p : Pl) (h : l[i]? = some p) :
    (cellsOf l)[i * 4]? = some (.int .i64 p.value) ∧ (cellsOf l)[i * 4 + 1]? = some (.int .i64 p.e.o) ∧ (cellsOf l)[i * 4 + 2]? = some (.int .i64 p.e.k) ∧ (cellsOf l)[i * 4 + 3]? = some (.int .i64 p.e.r) := by
  induction l generalizing i with
  | nil => simp at h
  | cons t l ih =>
    cases i with
    | zero => simp at h; subst h; simp [cells_cons]
    | succ i =>
      simp at h
      have h1 := ih i h
      have e : (i + 1) * 4 = i * 4 + 4 := by omega
      rw [e, cells_cons]
      exact h1
theorem cells_set (l : List Pl) (i : Nat) (p : Pl) (h : i < l.length) :
    cellsOf (l.set i p) = ((((cellsOf l).set (i * 4) (.int .i64 p.value)).set (i * 4 + 1) (.int .i64 p.e.o)).set (i * 4 + 2) (.int .i64 p.e.k)).set (i * 4 + 3) (.int .i64 p.e.r) := by
  induction l generalizing i with
  | nil => simp at h
  | cons t l ih =>
    cases i with
    | zero => simp [cells_cons]
    | succ i =>
      have h1 := ih i (by simpa using h)
      have e : (i + 1) * 4 = i * 4 + 4 := by omega
      rw [List.set_cons_succ, e, cells_cons, cells_cons, h1]
      rfl
theorem cells_push (l : List Pl) (p : Pl) : cellsOf (l ++ [p]) = cellsOf l ++ p.cells := by simp [cellsOf]

/-- The table at block a, in the world w. -/
structure TMem (w : World) (a : Nat) (vs vf : Value) (cap : Nat) (ps : List Pl) (fr : List Nat) : Prop where
  head : w.heap[a]? = some (.cells #[.int .i64 cap, vs, vf] 72 (0, 0))
  places : w.ownsRow 0 94 4 vs ps.length (cellsOf ps)
  freed : w.ownsRow 0 3 1 vf fr.length (natsOf fr)
def Foot (a : Nat) (vs vf : Value) (k : Nat) : Prop := k = a ∨ vs.ownBlock = some k ∨ vf.ownBlock = some k

/-- What calls can make of it. -/
structure TOK (cap : Nat) (ps : List Pl) (fr : List Nat) : Prop where
  top : cap ≤ 65536
  len : ps.length ≤ cap
  free : ∀ k, k ∈ fr ↔ ∃ p, ps[k]? = some p ∧ p.value = 0
  once : fr.Nodup
  heap : IsHeap fr
  vals : ∀ (k : Nat) (p : Pl), ps[k]? = some p → p = Pl.none ∨ ∃ d : Int, p.value = valS k d

theorem ne_own {w : World} {e : TypeId} {size : Nat} {v : Value} {n : Nat} {xs : List Value} (h : w.ownsRow 0 e size v n xs) {a : Nat} {cs : Array Value} {t : TypeId} {f : Nat × Nat}
    (ha : w.heap[a]? = some (.cells cs t f)) (hne : t ≠ e) : v.ownBlock ≠ some a := by
  intro hk
  obtain ⟨cur, hc⟩ := own_block h hk
  exact unlike ha hc hne rfl
theorem ne_own2 {w : World} {e e' : TypeId} {size size' : Nat} {v v' : Value} {n n' : Nat} {xs xs' : List Value} (h : w.ownsRow 0 e size v n xs) (h' : w.ownsRow 0 e' size' v' n' xs') (hne : e ≠ e') {k : Nat} (hk : v.ownBlock = some k) : v'.ownBlock ≠ some k := by
  obtain ⟨cur, hc⟩ := own_block h hk
  exact ne_own h' hc hne

section
variable {w : World} {a cap : Nat} {vs vf : Value} {ps : List Pl} {fr : List Nat}
theorem Foot.lt (h : TMem w a vs vf cap ps fr) {k : Nat} (hk : Foot a vs vf k) : k < w.heap.size := by
  rcases hk with rfl | hk | hk
  · exact lt_of_block h.head
  · obtain ⟨cur, hc⟩ := own_block h.places hk; exact lt_of_block hc
  · obtain ⟨cur, hc⟩ := own_block h.freed hk; exact lt_of_block hc
theorem TMem.kept {w' : World} {F : Nat → Prop} (h : TMem w a vs vf cap ps fr) (ht : Turn F w w') (hF : ∀ k, Foot a vs vf k → ¬ F k) : TMem w' a vs vf cap ps fr :=
  ⟨ht.heap h.head (hF a (.inl rfl)), ht.own h.places (fun k hk => hF k (.inr (.inl hk))), ht.own h.freed (fun k hk => hF k (.inr (.inr hk)))⟩
theorem TMem.past {w' : World} (h : TMem w a vs vf cap ps fr) (ht : Turn NoBlock w w') : TMem w' a vs vf cap ps fr := h.kept ht (fun _ _ h => h)
theorem TMem.drewN (h : TMem w a vs vf cap ps fr) (n : Nat) : TMem (w.drewN n) a vs vf cap ps fr := ⟨h.head, h.places, h.freed⟩
theorem TMem.c0 (h : TMem w a vs vf cap ps fr) : w.cell? ⟨a, 0, Option.none⟩ = some (.int .i64 cap) := by simpa using cell_at h.head 0
theorem TMem.c1 (h : TMem w a vs vf cap ps fr) : w.cell? ⟨a, 1, Option.none⟩ = some vs := by simpa using cell_at h.head 1
theorem TMem.c2 (h : TMem w a vs vf cap ps fr) : w.cell? ⟨a, 2, Option.none⟩ = some vf := by simpa using cell_at h.head 2
theorem TMem.f (h : TMem w a vs vf cap ps fr) (j : Nat) : w.frozen? ⟨a, j, Option.none⟩ = false := free_at h.head j
theorem TMem.low (h : TMem w a vs vf cap ps fr) : LowV w ⟨a, 2, Option.none⟩ vf fr := ⟨h.c2, h.f 2, h.freed, ne_own h.freed h.head (by decide)⟩

/-- One place's cells. -/
theorem TMem.place (h : TMem w a vs vf cap ps fr) {k : Nat} {p : Pl} (hk : ps[k]? = some p) :
    ∃ g c, vs = .slice (some ⟨g, 0, Option.none⟩) ps.length c ∧ k < ps.length ∧ ps.length ≤ c ∧ c ≤ 9223372036854775807 ∧ a ≠ g ∧ vf.ownBlock ≠ some g ∧
      w.cell? ⟨g, k * 4, Option.none⟩ = some (.int .i64 p.value) ∧ w.cell? ⟨g, k * 4 + 1, Option.none⟩ = some (.int .i64 p.e.o) ∧ w.cell? ⟨g, k * 4 + 2, Option.none⟩ = some (.int .i64 p.e.k) ∧ w.cell? ⟨g, k * 4 + 3, Option.none⟩ = some (.int .i64 p.e.r) ∧
      ∀ j, w.frozen? ⟨g, j, Option.none⟩ = false := by
  have hlt : k < ps.length := (List.getElem?_eq_some_iff.1 hk).1
  obtain ⟨g, c, rfl, hc, hc'⟩ := own_shape h.places (by omega)
  have hx := cells_at _ _ _ hk
  refine ⟨g, c, rfl, hlt, hc, hc', fun e => ne_own h.places h.head (by decide) (by simp [Value.ownBlock, e]), ne_own2 h.places h.freed (by decide) rfl, ?_, ?_, ?_, ?_, fun j => h.places.frozenAt j⟩
  · exact (h.places.cellAt (k * 4) (by omega)).trans hx.1
  · exact (h.places.cellAt (k * 4 + 1) (by omega)).trans hx.2.1
  · exact (h.places.cellAt (k * 4 + 2) (by omega)).trans hx.2.2.1
  · exact (h.places.cellAt (k * 4 + 3) (by omega)).trans hx.2.2.2

/-- One place is written. -/
theorem TMem.put {g n c k : Nat} (p : Pl) (h : TMem w a (.slice (some ⟨g, 0, Option.none⟩) n c) vf cap ps fr) (hk : k < ps.length) :
    TMem ((((w.setCell ⟨g, k * 4, Option.none⟩ (.int .i64 p.value)).setCell ⟨g, k * 4 + 1, Option.none⟩ (.int .i64 p.e.o)).setCell ⟨g, k * 4 + 2, Option.none⟩ (.int .i64 p.e.k)).setCell ⟨g, k * 4 + 3, Option.none⟩ (.int .i64 p.e.r)) a (.slice (some ⟨g, 0, Option.none⟩) n c) vf cap (ps.set k p) fr ∧
    Turn (fun b => b = g) w ((((w.setCell ⟨g, k * 4, Option.none⟩ (.int .i64 p.value)).setCell ⟨g, k * 4 + 1, Option.none⟩ (.int .i64 p.e.o)).setCell ⟨g, k * 4 + 2, Option.none⟩ (.int .i64 p.e.k)).setCell ⟨g, k * 4 + 3, Option.none⟩ (.int .i64 p.e.r)) := by
  have hso := h.places
  obtain ⟨_, _, he, _⟩ := own_shape hso (by omega)
  simp at he
  have hn := he.2.1
  rw [← hn] at hso
  have hag : a ≠ g := fun e => ne_own h.places h.head (by decide) (by simp [Value.ownBlock, e])
  have hgf : vf.ownBlock ≠ some g := ne_own2 h.places h.freed (by decide) rfl
  have s1 := (hso.stored (k * 4) (.int .i64 p.value)).1
  have s2 := (s1.stored (k * 4 + 1) (.int .i64 p.e.o)).1
  have s3 := (s2.stored (k * 4 + 2) (.int .i64 p.e.k)).1
  have s4 := (s3.stored (k * 4 + 3) (.int .i64 p.e.r)).1
  rw [← cells_set ps k p hk] at s4
  refine ⟨⟨?_, ?_, ?_⟩, ?_⟩
  · exact set_past (set_past (set_past (set_past h.head hag _) hag _) hag _) hag _
  · simpa [hn] using s4
  · exact own_past (own_past (own_past (own_past h.freed hgf _) hgf _) hgf _) hgf _
  · exact (((((Turn.refl (fun b => b = g) w).setCell (p := ⟨g, _, Option.none⟩) (.inl rfl) _).setCell (p := ⟨g, _, Option.none⟩) (.inl rfl) _).setCell (p := ⟨g, _, Option.none⟩) (.inl rfl) _).setCell (p := ⟨g, _, Option.none⟩) (.inl rfl) _)

/-- The freed places have become others, in the same block or another one. -/
theorem TMem.freedNew {w' : World} {g n c : Nat} {fr' : List Nat} {F : Nat → Prop} (h : TMem w a vs vf cap ps fr) (hL : LowW w' ⟨a, 2, Option.none⟩ g n c fr') (hT : Turn F w w') (hF : ∀ k, F k → k = a ∨ vf.ownBlock = some k ∨ k = g)
    (hg : vf.ownBlock = some g ∨ w.heap.size ≤ g) (ha : Keeps ⟨a, 2, Option.none⟩ w w') :
    TMem w' a vs (.slice (some ⟨g, 0, Option.none⟩) n c) cap ps fr' := by
  obtain ⟨v, h1⟩ := ha _ _ rfl h.head
  have h5 := hL.cell
  rw [cell_at h1 2] at h5
  simp at h5
  subst h5
  refine ⟨by simpa using h1, ?_, ?_⟩
  · refine hT.own h.places (fun k hk hFk => ?_)
    obtain ⟨cur, hc⟩ := own_block h.places hk
    rcases hF k hFk with rfl | h6 | rfl
    · exact ne_own h.places h.head (by decide) hk
    · exact ne_own2 h.places h.freed (by decide) hk h6
    · rcases hg with hg | hg
      · exact ne_own2 h.places h.freed (by decide) hk hg
      · have := lt_of_block hc; omega
  · have := hL.own
    rw [hL.len]
    exact this
end
end Go.Proofs.Ytacdhlhkpdlekaa
