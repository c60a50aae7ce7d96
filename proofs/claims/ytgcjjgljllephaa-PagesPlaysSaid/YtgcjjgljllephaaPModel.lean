/-
  The pool as plain data: frames (users and bytes), and the freed ones among them; the pool in memory. No walk, no conditions.
-/
import Derived.Test.YtgcjjgljllephaaPPop
import Derived.Test.YtgcjjgljllephaaPThings
import Derived.Deep.MidRow
namespace Go.Proofs.Ytgcjjgljllephaa
open Go.RowKit

structure Pg where
  users : Nat
  bytes : List UInt8
deriving DecidableEq
def blank : List UInt8 := List.replicate 64 0
def Pg.none : Pg := ⟨0, blank⟩
def bcells (l : List UInt8) : List Value := l.map fun b => .int .u8 (b.toNat : Int)
theorem bcells_len (l : List UInt8) : (bcells l).length = l.length := by simp [bcells]
theorem bcells_one (l : List UInt8) : ∀ v ∈ bcells l, v.oneCell' = true := by
  intro v hv
  obtain ⟨b, _, rfl⟩ := List.mem_map.1 hv
  rfl
def Pg.cells (p : Pg) : List Value := .int .i64 (p.users : Int) :: bcells p.bytes
theorem Pg.cells_len {p : Pg} (h : p.bytes.length = 64) : p.cells.length = 65 := by simp [Pg.cells, bcells_len, h]
theorem Pg.cells_one (p : Pg) : ∀ v ∈ p.cells, v.oneCell' = true := by
  intro v hv
  rcases List.mem_cons.1 hv with rfl | hv
  · rfl
  · exact bcells_one _ v hv
def pcells (l : List Pg) : List Value := l.flatMap Pg.cells
def Sized (l : List Pg) : Prop := ∀ (k : Nat) (p : Pg), l[k]? = some p → p.bytes.length = 64

theorem Sized.tail {p : Pg} {l : List Pg} (h : Sized (p :: l)) : Sized l := fun k q hk => h (k + 1) q (by simpa using hk)
theorem Sized.head {p : Pg} {l : List Pg} (h : Sized (p :: l)) : p.bytes.length = 64 := h 0 p rfl
theorem pcells_len {l : List Pg} (h : Sized l) : (pcells l).length = l.length * 65 := by
  induction l with
  | nil => rfl
  | cons p l ih =>
    have h1 := ih h.tail
    have h2 := Pg.cells_len h.head
    simp only [pcells, List.flatMap_cons, List.length_append, List.length_cons] at h1 ⊢
    omega
theorem pcells_cons (p : Pg) (l : List Pg) : pcells (p :: l) = p.cells ++ pcells l := rfl
theorem pcells_push (l : List Pg) (p : Pg) : pcells (l ++ [p]) = pcells l ++ p.cells := by simp [pcells]
theorem pcells_at {l : List Pg} (h : Sized l) (i : Nat) (p : Pg) (hp : l[i]? = some p) (j : Nat) (hj : j < 65) : (pcells l)[i * 65 + j]? = p.cells[j]? := by
  induction l generalizing i with
  | nil => simp at hp
  | cons t l ih =>
    have h2 := Pg.cells_len h.head
    cases i with
    | zero =>
      simp at hp
      subst hp
      rw [pcells_cons, Nat.zero_mul, Nat.zero_add, List.getElem?_append_left (by omega)]
    | succ i =>
      simp at hp
      have h1 := ih h.tail i hp
      rw [pcells_cons, List.getElem?_append_right (by omega), show (i + 1) * 65 + j - t.cells.length = i * 65 + j by omega]
      exact h1
/-- Some cells of a list are others. -/
def putAt (l : List Value) (o : Nat) (vs : List Value) : List Value := l.take o ++ (vs ++ l.drop (o + vs.length))
theorem putAt_len {l : List Value} {o : Nat} {vs : List Value} (h : o + vs.length ≤ l.length) : (putAt l o vs).length = l.length := by simp [putAt]; omega
theorem putAt_get {l : List Value} {o : Nat} {vs : List Value} (h : o + vs.length ≤ l.length) (i : Nat) : (putAt l o vs)[i]? = if o ≤ i ∧ i < o + vs.length then vs[i - o]? else l[i]? := by
  unfold putAt
  have h1 : (l.take o).length = o := by rw [List.length_take]; omega
  by_cases h2 : i < o
  · rw [List.getElem?_append_left (by omega), if_neg (by omega), List.getElem?_take, if_pos h2]
  · rw [List.getElem?_append_right (by omega), h1]
    by_cases h3 : i < o + vs.length
    · rw [List.getElem?_append_left (by omega), if_pos ⟨by omega, h3⟩]
    · rw [List.getElem?_append_right (by omega), if_neg (by omega), List.getElem?_drop, show o + vs.length + (i - o - vs.length) = i by omega]
theorem Sized.set {l : List Pg} (h : Sized l) {k : Nat} {q : Pg} (hq : q.bytes.length = 64) : Sized (l.set k q) := fun j r hr => by
  by_cases e : k = j
  · subst e
    rw [List.getElem?_set] at hr
    simp at hr
    rw [← hr.2]; exact hq
  · rw [List.getElem?_set_ne e] at hr
    exact h j r hr
theorem pcells_put {l : List Pg} (h : Sized l) {k o : Nat} {p q : Pg} {cs : List Value} (hk : l[k]? = some p) (hq : q.bytes.length = 64) (ho : o + cs.length ≤ 65) (hc : putAt p.cells o cs = q.cells) :
    putAt (pcells l) (k * 65 + o) cs = pcells (l.set k q) := by
  have hlt := (List.getElem?_eq_some_iff.1 hk).1
  have hl := pcells_len h
  have hs := h k p hk
  have hpc := Pg.cells_len hs
  have hqc := Pg.cells_len hq
  have h2 := h.set (k := k) hq
  have hl2 := pcells_len h2
  rw [List.length_set] at hl2
  apply List.ext_getElem?
  intro i
  rw [putAt_get (by omega)]
  obtain ⟨m, r, rfl, hr⟩ : ∃ m r, i = m * 65 + r ∧ r < 65 := ⟨i / 65, i % 65, by omega, by omega⟩
  by_cases hm : m < l.length
  · by_cases e : m = k
    · subst e
      rw [pcells_at h2 m q (by rw [List.getElem?_set_self hlt]) r hr, ← hc, putAt_get (by omega), pcells_at h m p hk r hr]
      by_cases c : o ≤ r ∧ r < o + cs.length
      · rw [if_pos (by omega), if_pos c, show m * 65 + r - (m * 65 + o) = r - o by omega]
      · rw [if_neg (by omega), if_neg c]
    · obtain ⟨t, ht⟩ : ∃ t, l[m]? = some t := ⟨_, List.getElem?_eq_getElem hm⟩
      rw [if_neg (by omega), pcells_at h m t ht r hr, pcells_at h2 m t (by rw [List.getElem?_set_ne (fun h => e h.symm)]; exact ht) r hr]
  · rw [if_neg (by omega), List.getElem?_eq_none (by omega), List.getElem?_eq_none (by omega)]
theorem own_putAt {g n c e size : Nat} : ∀ (vs : List Value) (o : Nat) (w : World) (xs : List Value), w.ownsRow 0 e size (.slice (some ⟨g, 0, none⟩) n c) n xs → o + vs.length ≤ xs.length → (w.setCells g o vs).ownsRow 0 e size (.slice (some ⟨g, 0, none⟩) n c) n (putAt xs o vs)
  | [], o, w, xs, h, _ => by
    have e : putAt xs o [] = xs := by simp [putAt]
    rw [e]
    exact h
  | v :: r, o, _, xs, h, hl => by
    simp only [List.length_cons] at hl
    have h1 := (h.stored o v).1
    have h2 := own_putAt r (o + 1) _ _ h1 (by simp; omega)
    have e : putAt (xs.set o v) (o + 1) r = putAt xs o (v :: r) := by
      unfold putAt
      rw [List.take_add_one, List.take_set_of_le (by omega), List.getElem?_set_self (by omega), List.drop_set_of_lt (by omega)]
      simp [show o + 1 + r.length = o + (r.length + 1) by omega]
    rw [e] at h2
    exact h2
theorem turn_setCells {g : Nat} {F : Nat → Prop} (hF : F g) : ∀ (vs : List Value) (o : Nat) (a w : World), Turn F a w → Turn F a (w.setCells g o vs)
  | [], _, _, _, h => h
  | v :: r, o, a, _, h => turn_setCells hF r (o + 1) a _ (h.setCell (p := ⟨g, o, none⟩) (.inl hF) v)

/-- The pool at block a, in the world w. -/
structure PMem (w : World) (a : Nat) (vs vf : Value) (cap : Nat) (ps : List Pg) (fr : List Nat) : Prop where
  head : w.heap[a]? = some (.cells #[.int .i64 cap, vs, vf] 83 (0, 0))
  frames : w.ownsRow 0 88 65 vs ps.length (pcells ps)
  freed : w.ownsRow 0 3 1 vf fr.length (natsOf fr)
  sized : Sized ps
def Foot (a : Nat) (vs vf : Value) (k : Nat) : Prop := k = a ∨ vs.ownBlock = some k ∨ vf.ownBlock = some k

/-- What calls can make of it. -/
structure POK (cap : Nat) (ps : List Pg) (fr : List Nat) : Prop where
  top : cap ≤ 65536
  len : ps.length ≤ cap
  free : ∀ k, k ∈ fr ↔ ∃ p, ps[k]? = some p ∧ p.users = 0
  once : fr.Nodup
  heap : IsHeap fr
  empty : ∀ (k : Nat) (p : Pg), ps[k]? = some p → p.users = 0 → p = Pg.none

theorem ne_own {w : World} {e : TypeId} {size : Nat} {v : Value} {n : Nat} {xs : List Value} (h : w.ownsRow 0 e size v n xs) {a : Nat} {cs : Array Value} {t : TypeId} {f : Nat × Nat}
    (ha : w.heap[a]? = some (.cells cs t f)) (hne : t ≠ e) : v.ownBlock ≠ some a := by
  intro hk
  obtain ⟨cur, hc⟩ := own_block h hk
  exact unlike ha hc hne rfl
theorem ne_own2 {w : World} {e e' : TypeId} {size size' : Nat} {v v' : Value} {n n' : Nat} {xs xs' : List Value} (h : w.ownsRow 0 e size v n xs) (h' : w.ownsRow 0 e' size' v' n' xs') (hne : e ≠ e') {k : Nat} (hk : v.ownBlock = some k) : v'.ownBlock ≠ some k := by
  obtain ⟨cur, hc⟩ := own_block h hk
  exact ne_own h' hc hne

section
variable {w : World} {a cap : Nat} {vs vf : Value} {ps : List Pg} {fr : List Nat}
theorem Foot.lt (h : PMem w a vs vf cap ps fr) {k : Nat} (hk : Foot a vs vf k) : k < w.heap.size := by
  rcases hk with rfl | hk | hk
  · exact lt_of_block h.head
  · obtain ⟨cur, hc⟩ := own_block h.frames hk; exact lt_of_block hc
  · obtain ⟨cur, hc⟩ := own_block h.freed hk; exact lt_of_block hc
theorem PMem.kept {w' : World} {F : Nat → Prop} (h : PMem w a vs vf cap ps fr) (ht : Turn F w w') (hF : ∀ k, Foot a vs vf k → ¬ F k) : PMem w' a vs vf cap ps fr :=
  ⟨ht.heap h.head (hF a (.inl rfl)), ht.own h.frames (fun k hk => hF k (.inr (.inl hk))), ht.own h.freed (fun k hk => hF k (.inr (.inr hk))), h.sized⟩
theorem PMem.past {w' : World} (h : PMem w a vs vf cap ps fr) (ht : Turn NoBlock w w') : PMem w' a vs vf cap ps fr := h.kept ht (fun _ _ h => h)
theorem PMem.drewN (h : PMem w a vs vf cap ps fr) (n : Nat) : PMem (w.drewN n) a vs vf cap ps fr := ⟨h.head, h.frames, h.freed, h.sized⟩
theorem PMem.c0 (h : PMem w a vs vf cap ps fr) : w.cell? ⟨a, 0, Option.none⟩ = some (.int .i64 cap) := by simpa using cell_at h.head 0
theorem PMem.c1 (h : PMem w a vs vf cap ps fr) : w.cell? ⟨a, 1, Option.none⟩ = some vs := by simpa using cell_at h.head 1
theorem PMem.c2 (h : PMem w a vs vf cap ps fr) : w.cell? ⟨a, 2, Option.none⟩ = some vf := by simpa using cell_at h.head 2
theorem PMem.f (h : PMem w a vs vf cap ps fr) (j : Nat) : w.frozen? ⟨a, j, Option.none⟩ = false := free_at h.head j
theorem PMem.low (h : PMem w a vs vf cap ps fr) : LowV w ⟨a, 2, Option.none⟩ vf fr := ⟨h.c2, h.f 2, h.freed, ne_own h.freed h.head (by decide)⟩

/-- One frame's cells. -/
theorem PMem.page (h : PMem w a vs vf cap ps fr) {k : Nat} {p : Pg} (hk : ps[k]? = some p) :
    ∃ g c, vs = .slice (some ⟨g, 0, Option.none⟩) ps.length c ∧ k < ps.length ∧ ps.length ≤ c ∧ c ≤ 9223372036854775807 ∧ a ≠ g ∧ vf.ownBlock ≠ some g ∧
      w.cell? ⟨g, k * 65, Option.none⟩ = some (.int .i64 (p.users : Int)) ∧ w.rangeAt g (k * 65) p.cells ∧ w.rangeAt g (k * 65 + 1) (bcells p.bytes) ∧
      (∀ j, j < 65 → (w.cell? ⟨g, k * 65 + j, Option.none⟩).isSome = true) ∧ ∀ j, w.frozen? ⟨g, j, Option.none⟩ = false := by
  have hlt : k < ps.length := (List.getElem?_eq_some_iff.1 hk).1
  obtain ⟨g, c, rfl, hc, hc'⟩ := own_shape h.frames (by omega)
  have hs := h.sized k p hk
  have hl := Pg.cells_len hs
  have hall : ∀ j, j < 65 → w.cell? ⟨g, k * 65 + j, Option.none⟩ = p.cells[j]? := fun j hj => (h.frames.cellAt (k * 65 + j) (by omega)).trans (pcells_at h.sized k p hk j hj)
  refine ⟨g, c, rfl, hlt, hc, hc', fun e => ne_own h.frames h.head (by decide) (by simp [Value.ownBlock, e]), ne_own2 h.frames h.freed (by decide) rfl, ?_, ?_, ?_, ?_, fun j => h.frames.frozenAt j⟩
  · exact (hall 0 (by omega)).trans rfl
  · intro j v hv
    have := (List.getElem?_eq_some_iff.1 hv).1
    rw [hall j (by omega)]; exact hv
  · intro j v hv
    have := (List.getElem?_eq_some_iff.1 hv).1
    rw [bcells_len, hs] at this
    have h1 := hall (1 + j) (by omega)
    rw [← Nat.add_assoc] at h1
    rw [h1, Nat.add_comm 1 j]
    exact hv
  · intro j hj
    rw [hall j hj, List.getElem?_eq_getElem (by omega)]; rfl
/-- Some cells of one frame are written. -/
theorem PMem.put {g n c k o : Nat} {p : Pg} {cs : List Value} (q : Pg) (h : PMem w a (.slice (some ⟨g, 0, Option.none⟩) n c) vf cap ps fr) (hk : ps[k]? = some p) (hq : q.bytes.length = 64) (ho : o + cs.length ≤ 65) (hc : putAt p.cells o cs = q.cells) :
    PMem (w.setCells g (k * 65 + o) cs) a (.slice (some ⟨g, 0, Option.none⟩) n c) vf cap (ps.set k q) fr ∧ Turn (fun b => b = g) w (w.setCells g (k * 65 + o) cs) := by
  have hlt : k < ps.length := (List.getElem?_eq_some_iff.1 hk).1
  have hso := h.frames
  obtain ⟨_, _, he, _⟩ := own_shape hso (by omega)
  simp at he
  have hn := he.2.1
  rw [← hn] at hso
  have hag : a ≠ g := fun e => ne_own h.frames h.head (by decide) (by simp [Value.ownBlock, e])
  have hgf : vf.ownBlock ≠ some g := ne_own2 h.frames h.freed (by decide) rfl
  have hpl := pcells_len h.sized
  have hs := h.sized k p hk
  have hpc := Pg.cells_len hs
  have t : Turn (fun b => b = g) w (w.setCells g (k * 65 + o) cs) := turn_setCells (F := fun b => b = g) rfl _ _ _ _ (Turn.refl _ _)
  have s1 := own_putAt cs (k * 65 + o) w (pcells ps) hso (by omega)
  rw [pcells_put h.sized hk hq ho hc] at s1
  refine ⟨⟨t.heap h.head hag, ?_, t.own h.freed (fun k hk e => hgf (by rw [hk, e])), h.sized.set hq⟩, t⟩
  simpa [hn] using s1
/-- The freed places have become others, in the same block or another one. -/
theorem PMem.freedNew {w' : World} {g n c : Nat} {fr' : List Nat} {F : Nat → Prop} (h : PMem w a vs vf cap ps fr) (hL : LowW w' ⟨a, 2, Option.none⟩ g n c fr') (hT : Turn F w w') (hF : ∀ k, F k → k = a ∨ vf.ownBlock = some k ∨ k = g)
    (hg : vf.ownBlock = some g ∨ w.heap.size ≤ g) (ha : Keeps ⟨a, 2, Option.none⟩ w w') :
    PMem w' a vs (.slice (some ⟨g, 0, Option.none⟩) n c) cap ps fr' := by
  obtain ⟨v, h1⟩ := ha _ _ rfl h.head
  have h5 := hL.cell
  rw [cell_at h1 2] at h5
  simp at h5
  subst h5
  refine ⟨by simpa using h1, ?_, ?_, h.sized⟩
  · refine hT.own h.frames (fun k hk hFk => ?_)
    obtain ⟨cur, hc⟩ := own_block h.frames hk
    rcases hF k hFk with rfl | h6 | rfl
    · exact ne_own h.frames h.head (by decide) hk
    · exact ne_own2 h.frames h.freed (by decide) hk h6
    · rcases hg with hg | hg
      · exact ne_own2 h.frames h.freed (by decide) hk hg
      · have := lt_of_block hc; omega
  · have := hL.own
    rw [hL.len]
    exact this
end
end Go.Proofs.Ytgcjjgljllephaa
