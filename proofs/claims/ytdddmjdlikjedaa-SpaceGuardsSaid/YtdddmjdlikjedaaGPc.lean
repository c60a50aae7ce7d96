/-
  Pieces as plain data, a row of them in memory, a region. No walk, no conditions.
-/
import Derived.Test.YtdddmjdlikjedaaPThings
namespace Go.Proofs.Ytdddmjdlikjedaa
open Go.RowKit

structure Pc where
  at' : Int
  len : Int
  vmo : Int
  from' : Int
  prot : Int
deriving DecidableEq
def Pc.cells (p : Pc) : List Value := [.int .i64 p.at', .int .i64 p.len, .int .i64 p.vmo, .int .i64 p.from', .int .i64 p.prot]
def Pc.agg (p : Pc) : Value := .agg #[.int .i64 p.at', .int .i64 p.len, .int .i64 p.vmo, .int .i64 p.from', .int .i64 p.prot]
def Pc.zero : Pc := ⟨0, 0, 0, 0, 0⟩
def Pc.fin (p : Pc) : Int := p.at' + p.len
theorem Pc.cells_len (p : Pc) : p.cells.length = 5 := rfl
theorem Pc.cells_one (p : Pc) : ∀ v ∈ p.cells, v.oneCell' = true := by
  intro v hv
  simp [Pc.cells] at hv
  rcases hv with rfl | rfl | rfl | rfl | rfl <;> rfl
def pcs (l : List Pc) : List Value := l.flatMap Pc.cells
theorem pcs_cons (p : Pc) (l : List Pc) : pcs (p :: l) = p.cells ++ pcs l := rfl
theorem pcs_app (l m : List Pc) : pcs (l ++ m) = pcs l ++ pcs m := by simp [pcs]
theorem pcs_len (l : List Pc) : (pcs l).length = l.length * 5 := by
  induction l with
  | nil => rfl
  | cons p l ih => rw [pcs_cons, List.length_append, ih, Pc.cells_len, List.length_cons]; omega
theorem pcs_one (l : List Pc) : ∀ v ∈ pcs l, v.oneCell' = true := by
  intro v hv
  obtain ⟨p, _, hv⟩ := List.mem_flatMap.1 hv
  exact p.cells_one v hv
theorem pcs_at (l : List Pc) (i : Nat) (p : Pc) (hp : l[i]? = some p) (j : Nat) (hj : j < 5) : (pcs l)[i * 5 + j]? = p.cells[j]? := by
  induction l generalizing i with
  | nil => simp at hp
  | cons t l ih =>
    cases i with
    | zero =>
      simp at hp
      subst hp
      rw [pcs_cons, Nat.zero_mul, Nat.zero_add, List.getElem?_append_left (by rw [Pc.cells_len]; exact hj)]
    | succ i =>
      simp at hp
      have h1 := ih i hp
      rw [pcs_cons, List.getElem?_append_right (by rw [Pc.cells_len]; omega), Pc.cells_len, show (i + 1) * 5 + j - 5 = i * 5 + j by omega]
      exact h1
theorem pcs_take (l : List Pc) (k : Nat) : (pcs l).take (k * 5) = pcs (l.take k) := by
  induction l generalizing k with
  | nil => simp [pcs]
  | cons p l ih =>
    cases k with
    | zero => simp [pcs]
    | succ k =>
      rw [pcs_cons, List.take_succ_cons, pcs_cons, List.take_append, Pc.cells_len, show (k + 1) * 5 - 5 = k * 5 by omega, ih, List.take_of_length_le (by rw [Pc.cells_len]; omega)]
theorem pcs_drop (l : List Pc) (k : Nat) : (pcs l).drop (k * 5) = pcs (l.drop k) := by
  induction l generalizing k with
  | nil => simp [pcs]
  | cons p l ih =>
    cases k with
    | zero => simp
    | succ k =>
      rw [pcs_cons, List.drop_succ_cons, List.drop_append, Pc.cells_len, show (k + 1) * 5 - 5 = k * 5 by omega, ih, List.drop_of_length_le (by rw [Pc.cells_len]; omega)]
      rfl

/-- A row of pieces of the call's own. -/
def PRow (v : Value) (l : List Pc) (w : World) : Prop := w.ownsRow 0 61 5 v l.length (pcs l)
theorem own_prow (v : Value) (l : List Pc) : Own (Blk v) (PRow v l) :=
  ⟨fun _ _ _ h ht hf => ht.own h (fun k hk => hf k hk), fun _ h k hk => by obtain ⟨cur, hc⟩ := own_block h hk; exact lt_of_block hc⟩
theorem prow_nil (w : World) : PRow (.slice none 0 0) [] w := World.ownsRow_nil _ _ _ _
theorem PRow.past {w w' : World} {v : Value} {l : List Pc} (h : PRow v l w) (t : Turn NoBlock w w') : PRow v l w' := t.own h (fun _ _ h => h)
theorem PRow.slice {w : World} {v : Value} {l : List Pc} (h : PRow v l w) : ∃ p c, v = .slice p l.length c := own_slice h
theorem PRow.shape {w : World} {v : Value} {l : List Pc} (h : PRow v l w) (hn : 0 < l.length) : ∃ g c, v = .slice (some ⟨g, 0, none⟩) l.length c ∧ l.length ≤ c ∧ c ≤ 9223372036854775807 := own_shape h hn
/-- One piece's cells. -/
theorem PRow.piece {w : World} {g n c : Nat} {l : List Pc} (h : PRow (.slice (some ⟨g, 0, none⟩) n c) l w) {i : Nat} {p : Pc} (hp : l[i]? = some p) (j : Nat) (hj : j < 5) : w.cell? ⟨g, i * 5 + j, none⟩ = p.cells[j]? := by
  have hlt := (List.getElem?_eq_some_iff.1 hp).1
  unfold PRow at h
  obtain ⟨_, _, he⟩ := own_slice h
  simp at he
  rw [he.2.1] at h
  rw [h.cellAt (i * 5 + j) (by omega)]
  exact pcs_at l i p hp j hj

theorem PRow.five {w : World} {g n c : Nat} {l : List Pc} (h : PRow (.slice (some ⟨g, 0, none⟩) n c) l w) {i : Nat} {p : Pc} (hp : l[i]? = some p) :
    w.cell? ⟨g, i * 5, none⟩ = some (.int .i64 p.at') ∧ w.cell? ⟨g, i * 5 + 1, none⟩ = some (.int .i64 p.len) ∧ w.cell? ⟨g, i * 5 + 2, none⟩ = some (.int .i64 p.vmo) ∧ w.cell? ⟨g, i * 5 + 3, none⟩ = some (.int .i64 p.from') ∧ w.cell? ⟨g, i * 5 + 4, none⟩ = some (.int .i64 p.prot) :=
  ⟨h.piece hp 0 (by decide), h.piece hp 1 (by decide), h.piece hp 2 (by decide), h.piece hp 3 (by decide), h.piece hp 4 (by decide)⟩

/-- A region in memory. -/
structure GMem (w : World) (a : Nat) (size most : Int) (v : Value) (l : List Pc) : Prop where
  head : w.heap[a]? = some (.cells #[.int .i64 size, .int .i64 most, v] 114 (0, 0))
  row : PRow v l w
def GFoot (a : Nat) (v : Value) (k : Nat) : Prop := k = a ∨ Blk v k
section
variable {w w' : World} {a : Nat} {size most : Int} {v : Value} {l : List Pc}
theorem GMem.lt (h : GMem w a size most v l) {k : Nat} (hk : GFoot a v k) : k < w.heap.size := by
  rcases hk with rfl | hk
  · exact lt_of_block h.head
  · exact (own_prow v l).lt w h.row k hk
theorem GMem.kept {F : Nat → Prop} (h : GMem w a size most v l) (ht : Turn F w w') (hF : ∀ k, GFoot a v k → ¬ F k) : GMem w' a size most v l :=
  ⟨ht.heap h.head (hF a (.inl rfl)), (own_prow v l).kept _ _ _ h.row ht (fun k hk => hF k (.inr hk))⟩
theorem GMem.past (h : GMem w a size most v l) (ht : Turn NoBlock w w') : GMem w' a size most v l := h.kept ht (fun _ _ h => h)
theorem GMem.c0 (h : GMem w a size most v l) : w.cell? ⟨a, 0, none⟩ = some (.int .i64 size) := by simpa using cell_at h.head 0
theorem GMem.c1 (h : GMem w a size most v l) : w.cell? ⟨a, 1, none⟩ = some (.int .i64 most) := by simpa using cell_at h.head 1
theorem GMem.c2 (h : GMem w a size most v l) : w.cell? ⟨a, 2, none⟩ = some v := by simpa using cell_at h.head 2
theorem GMem.f (h : GMem w a size most v l) (j : Nat) : w.frozen? ⟨a, j, none⟩ = false := free_at h.head j
end

/-- What is right of a region's pieces: they rise, lie in it, and none overlaps. -/
structure GOK (size : Int) (l : List Pc) : Prop where
  top : 0 ≤ size ∧ size ≤ 4294967296
  each : ∀ p ∈ l, (0 ≤ p.at' ∧ 0 < p.len ∧ p.fin ≤ size ∧ p.at' % 64 = 0 ∧ p.len % 64 = 0) ∧ 0 ≤ p.from' ∧ p.from' - p.at' ≤ 4294967296 ∧ p.from' % 64 = 0 ∧ 0 ≤ p.prot ∧ p.prot ≤ 3
  rise : l.Pairwise (fun p q => p.fin ≤ q.at')
theorem rise_at {l : List Pc} (h : l.Pairwise (fun p q => p.fin ≤ q.at')) {i j : Nat} {p q : Pc} (hij : i < j) (hi : l[i]? = some p) (hj : l[j]? = some q) : p.fin ≤ q.at' := by
  obtain ⟨h1, rfl⟩ := List.getElem?_eq_some_iff.1 hi
  obtain ⟨h2, rfl⟩ := List.getElem?_eq_some_iff.1 hj
  exact List.pairwise_iff_getElem.1 h i j h1 h2 hij
end Go.Proofs.Ytdddmjdlikjedaa
