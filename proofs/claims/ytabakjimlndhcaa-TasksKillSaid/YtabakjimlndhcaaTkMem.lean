/-
  A tree of tasks in memory: a slice of pointers to tasks, each with the row of the numbers of those below it. No walk, no conditions.
-/
import Derived.Test.YtabakjimlndhcaaQBase
import Derived.Test.YtabakjimlndhcaaTkDie
namespace Go.Proofs.Ytabakjimlndhcaa
open Go.ChangeShapes Go.WideShapes Go.ChangeAt Go.RowKit

def tp (b : Nat) : Value := .pointer (some ⟨b, 0, none⟩)
def numL (l : List Nat) : List Int := l.map (fun (i : Nat) => (i : Int) + 1)
theorem numL_len (l : List Nat) : (numL l).length = l.length := by simp [numL]
theorem numL_app (l m : List Nat) : numL (l ++ m) = numL l ++ numL m := by simp [numL]
def tkc (t : Tk) (v : Value) (g a : Nat) : Array Value := #[.int .i64 t.kind, .int .i64 t.par, .int .i64 t.st, .int .i64 t.code, .int .i64 t.pol, .int .i64 t.crit, v, .int .i64 (g : Int), .int .i64 (a : Int)]
def bcells (B : Nat → Nat) (n : Nat) : List Value := (List.range n).map (fun j => tp (B j))
structure KMem (w : World) (c : Nat) (most : Int) (n : Nat) (T : Nat → Tk) (sv : Value) (B : Nat → Nat) (V : Nat → Value) (G : Nat → Nat) : Prop where
  head : w.heap[c]? = some (.cells #[.int .i64 most, .int .i64 (liveN T n : Int), sv] 125 (0, 0))
  row : WRow w 132 1 sv n (bcells B n)
  obj : ∀ j, j < n → w.heap[B j]? = some (.cells (tkc (T j) (V j) (G j) (liveK T n j)) 136 (0, 0))
  kid : ∀ j, j < n → Nums (V j) (numL (kidL T n j)) w
  inj : ∀ i j, i < n → j < n → B i = B j → i = j
  vs : ∀ i j, i < n → j < n → i ≠ j → ∀ k, Blk (V i) k → ¬ Blk (V j) k
  gone : ∀ j, j < n → G j ≤ (kidL T n j).length ∧ ∀ (i q : Nat), i < G j → (kidL T n j)[i]? = some q → (T q).st = 2
def KCore (c n : Nat) (B : Nat → Nat) (k : Nat) : Prop := k = c ∨ ∃ j, j < n ∧ k = B j
def KFoot (c n : Nat) (sv : Value) (B : Nat → Nat) (V : Nat → Value) (k : Nat) : Prop := k = c ∨ Blk sv k ∨ ∃ j, j < n ∧ (k = B j ∨ Blk (V j) k)
section
variable {w w' : World} {c n p q j : Nat} {most code : Int} {T T' : Nat → Tk} {sv : Value} {B : Nat → Nat} {V : Nat → Value} {G G' : Nat → Nat}
theorem core_foot {k : Nat} (h : KCore c n B k) : KFoot c n sv B V k := by
  rcases h with rfl | ⟨j, hj, rfl⟩
  · exact .inl rfl
  · exact .inr (.inr ⟨j, hj, .inl rfl⟩)
theorem KMem.ct (h : KMem w c most n T sv B V G) : TBlk w c 125 := ⟨_, h.head⟩
theorem KMem.bt (h : KMem w c most n T sv B V G) (hj : j < n) : TBlk w (B j) 136 := ⟨_, h.obj j hj⟩
theorem KMem.lt (h : KMem w c most n T sv B V G) {k : Nat} (hk : KFoot c n sv B V k) : k < w.heap.size := by
  rcases hk with rfl | hk | ⟨j, hj, rfl | hk⟩
  · exact h.ct.lt
  · exact h.row.lt hk
  · exact (h.bt hj).lt
  · exact WRow.lt (h.kid j hj) hk
theorem KMem.kept {F : Nat → Prop} (h : KMem w c most n T sv B V G) (t : Turn F w w') (hF : ∀ k, KFoot c n sv B V k → ¬ F k) : KMem w' c most n T sv B V G :=
  ⟨t.heap h.head (hF _ (.inl rfl)), h.row.kept t (fun k hk => hF k (.inr (.inl hk))), fun j hj => t.heap (h.obj j hj) (hF _ (.inr (.inr ⟨j, hj, .inl rfl⟩))), fun j hj => (h.kid j hj).kept t (fun k hk => hF k (.inr (.inr ⟨j, hj, .inr hk⟩))), h.inj, h.vs, h.gone⟩
theorem KMem.past (h : KMem w c most n T sv B V G) (t : Turn NoBlock w w') : KMem w' c most n T sv B V G := h.kept t (fun _ _ h => h)
/-- The tree's head and tasks are others, its rows are as they were. -/
theorem KMem.turned (h : KMem w c most n T sv B V G) (t : Turn (KCore c n B) w w') (hp : ∀ j, (T' j).par = (T j).par)
    (hc : w'.heap[c]? = some (.cells #[.int .i64 most, .int .i64 (liveN T' n : Int), sv] 125 (0, 0))) (ho : ∀ j, j < n → w'.heap[B j]? = some (.cells (tkc (T' j) (V j) (G' j) (liveK T' n j)) 136 (0, 0)))
    (hg : ∀ j, j < n → G' j ≤ (kidL T n j).length ∧ ∀ (i q : Nat), i < G' j → (kidL T n j)[i]? = some q → (T' q).st = 2) : KMem w' c most n T' sv B V G' := by
  refine ⟨hc, h.row.kept t ?_, ho, fun j hj => ?_, h.inj, h.vs, fun j hj => ?_⟩
  · rintro k hk (rfl | ⟨i, hi, rfl⟩)
    · exact blk_typed h.row h.ct (by decide) hk
    · exact blk_typed h.row (h.bt hi) (by decide) hk
  · rw [kidL_congr hp]
    refine (h.kid j hj).kept t ?_
    rintro k hk (rfl | ⟨i, hi, rfl⟩)
    · exact blk_typed (h.kid j hj) h.ct (by decide) hk
    · exact blk_typed (h.kid j hj) (h.bt hi) (by decide) hk
  · rw [kidL_congr hp]
    exact hg j hj
theorem KMem.c0 (h : KMem w c most n T sv B V G) : w.cell? ⟨c, 0, none⟩ = some (.int .i64 most) := by simpa using cell_at h.head 0
theorem KMem.c1 (h : KMem w c most n T sv B V G) : w.cell? ⟨c, 1, none⟩ = some (.int .i64 (liveN T n : Int)) := by simpa using cell_at h.head 1
theorem KMem.c2 (h : KMem w c most n T sv B V G) : w.cell? ⟨c, 2, none⟩ = some sv := by simpa using cell_at h.head 2
theorem KMem.o0 (h : KMem w c most n T sv B V G) (hj : j < n) : w.cell? ⟨B j, 0, none⟩ = some (.int .i64 (T j).kind) := by simpa [tkc] using cell_at (h.obj j hj) 0
theorem KMem.o1 (h : KMem w c most n T sv B V G) (hj : j < n) : w.cell? ⟨B j, 1, none⟩ = some (.int .i64 (T j).par) := by simpa [tkc] using cell_at (h.obj j hj) 1
theorem KMem.o2 (h : KMem w c most n T sv B V G) (hj : j < n) : w.cell? ⟨B j, 2, none⟩ = some (.int .i64 (T j).st) := by simpa [tkc] using cell_at (h.obj j hj) 2
theorem KMem.o3 (h : KMem w c most n T sv B V G) (hj : j < n) : w.cell? ⟨B j, 3, none⟩ = some (.int .i64 (T j).code) := by simpa [tkc] using cell_at (h.obj j hj) 3
theorem KMem.o4 (h : KMem w c most n T sv B V G) (hj : j < n) : w.cell? ⟨B j, 4, none⟩ = some (.int .i64 (T j).pol) := by simpa [tkc] using cell_at (h.obj j hj) 4
theorem KMem.o5 (h : KMem w c most n T sv B V G) (hj : j < n) : w.cell? ⟨B j, 5, none⟩ = some (.int .i64 (T j).crit) := by simpa [tkc] using cell_at (h.obj j hj) 5
theorem KMem.o6 (h : KMem w c most n T sv B V G) (hj : j < n) : w.cell? ⟨B j, 6, none⟩ = some (V j) := by simpa [tkc] using cell_at (h.obj j hj) 6
theorem KMem.o7 (h : KMem w c most n T sv B V G) (hj : j < n) : w.cell? ⟨B j, 7, none⟩ = some (.int .i64 (G j : Int)) := by simpa [tkc] using cell_at (h.obj j hj) 7
theorem KMem.o8 (h : KMem w c most n T sv B V G) (hj : j < n) : w.cell? ⟨B j, 8, none⟩ = some (.int .i64 (liveK T n j : Int)) := by simpa [tkc] using cell_at (h.obj j hj) 8
theorem bcells_at (B : Nat → Nat) (hj : j < n) : (bcells B n)[j]? = some (tp (B j)) := by simp [bcells, hj]
/-- The slice of tasks, where there are some. -/
theorem KMem.slice (h : KMem w c most n T sv B V G) (hn : 0 < n) : ∃ g o cap, sv = .slice (some ⟨g, o, none⟩) n cap ∧ n ≤ cap ∧ cap ≤ maxLen ∧ ∀ j, j < n → w.cell? ⟨g, o + j, none⟩ = some (tp (B j)) := by
  obtain ⟨g, o, cap, h1, h2, h3, -, h5, -⟩ := h.row.shape hn
  exact ⟨g, o, cap, h1, h2, h3, fun j hj => (h5 j (by omega)).trans (bcells_at B hj)⟩
theorem KMem.kids (h : KMem w c most n T sv B V G) (hj : j < n) (hl : 0 < (kidL T n j).length) : ∃ g o cap, V j = .slice (some ⟨g, o, none⟩) (kidL T n j).length cap ∧ (kidL T n j).length ≤ cap ∧ cap ≤ maxLen ∧ ∀ (i q : Nat), (kidL T n j)[i]? = some q → w.cell? ⟨g, o + i, none⟩ = some (.int .i64 ((q : Int) + 1)) := by
  obtain ⟨g, o, cap, h1, h2, h3, -, h5, -⟩ := WRow.shape (h.kid j hj) (by rw [numL_len]; exact hl)
  rw [numL_len] at h1 h2 h5
  refine ⟨g, o, cap, h1, h2, h3, fun i q hq => ?_⟩
  have hi := (List.getElem?_eq_some_iff.1 hq).1
  rw [h5 i (by omega)]
  simp [icells, numL, hq]
end
end Go.Proofs.Ytabakjimlndhcaa
