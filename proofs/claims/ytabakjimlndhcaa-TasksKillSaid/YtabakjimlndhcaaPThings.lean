/-
  Up to three things that a call owns, apart from each other and from all that was there when it began. No walk, no conditions.
-/
import Derived.Test.YtabakjimlndhcaaPHeap
import Derived.Deep.AppendLies
namespace Go.Proofs.Ytabakjimlndhcaa
open Go.RowKit

/-- What A says of a world hangs on the blocks of F alone. -/
structure Own (F : Nat → Prop) (A : World → Prop) : Prop where
  kept : ∀ w w' G, A w → Turn G w w' → (∀ k, F k → ¬ G k) → A w'
  lt : ∀ w, A w → ∀ k, F k → k < w.heap.size

/-- Three things, apart from each other and from what was there in w0. -/
structure St (w0 w : World) (F1 : Nat → Prop) (A1 : World → Prop) (F2 : Nat → Prop) (A2 : World → Prop) (F3 : Nat → Prop) (A3 : World → Prop) : Prop where
  o1 : Own F1 A1
  o2 : Own F2 A2
  o3 : Own F3 A3
  n1 : A1 w
  n2 : A2 w
  n3 : A3 w
  l1 : ∀ k, F1 k → w0.heap.size ≤ k
  l2 : ∀ k, F2 k → w0.heap.size ≤ k
  l3 : ∀ k, F3 k → w0.heap.size ≤ k
  a12 : ∀ k, F1 k → ¬ F2 k
  a13 : ∀ k, F1 k → ¬ F3 k
  a23 : ∀ k, F2 k → ¬ F3 k
  turn : Turn NoBlock w0 w

def Nothing (_ : World) : Prop := True
theorem own_nothing : Own NoBlock Nothing := ⟨fun _ _ _ _ _ _ => trivial, fun _ _ _ h => h.elim⟩

section
variable {w0 w w' : World} {F1 F2 F3 F1' F2' F3' : Nat → Prop} {A1 A2 A3 A1' A2' A3' : World → Prop}

theorem St.begin (w0 : World) : St w0 w0 NoBlock Nothing NoBlock Nothing NoBlock Nothing :=
  ⟨own_nothing, own_nothing, own_nothing, trivial, trivial, trivial, fun _ h => h.elim, fun _ h => h.elim, fun _ h => h.elim, fun _ h => h.elim, fun _ h => h.elim, fun _ h => h.elim, Turn.refl _ _⟩

theorem St.rot (h : St w0 w F1 A1 F2 A2 F3 A3) : St w0 w F2 A2 F3 A3 F1 A1 :=
  ⟨h.o2, h.o3, h.o1, h.n2, h.n3, h.n1, h.l2, h.l3, h.l1, h.a23, fun k h2 h1 => h.a12 k h1 h2, fun k h3 h1 => h.a13 k h1 h3, h.turn⟩

/-- The first thing has become another one; what is turned is its own, and new blocks. -/
theorem St.step1 (h : St w0 w F1 A1 F2 A2 F3 A3) (o : Own F1' A1') (n : A1' w') (ht : Turn F1 w w') (hf : ∀ k, F1' k → F1 k ∨ w.heap.size ≤ k) : St w0 w' F1' A1' F2 A2 F3 A3 := by
  have hs := h.turn.size
  refine ⟨o, h.o2, h.o3, n, h.o2.kept w w' F1 h.n2 ht (fun k h2 h1 => h.a12 k h1 h2), h.o3.kept w w' F1 h.n3 ht (fun k h3 h1 => h.a13 k h1 h3), ?_, h.l2, h.l3, ?_, ?_, h.a23, ?_⟩
  · intro k hk
    rcases hf k hk with h1 | h1
    · exact h.l1 k h1
    · omega
  · intro k hk h2
    rcases hf k hk with h1 | h1
    · exact h.a12 k h1 h2
    · have := h.o2.lt w h.n2 k h2
      omega
  · intro k hk h3
    rcases hf k hk with h1 | h1
    · exact h.a13 k h1 h3
    · have := h.o3.lt w h.n3 k h3
      omega
  · exact h.turn.trans ht (fun k hk => .inr (h.l1 k hk))

theorem St.step2 (h : St w0 w F1 A1 F2 A2 F3 A3) (o : Own F2' A2') (n : A2' w') (ht : Turn F2 w w') (hf : ∀ k, F2' k → F2 k ∨ w.heap.size ≤ k) : St w0 w' F1 A1 F2' A2' F3 A3 :=
  (h.rot.step1 o n ht hf).rot.rot
theorem St.step3 (h : St w0 w F1 A1 F2 A2 F3 A3) (o : Own F3' A3') (n : A3' w') (ht : Turn F3 w w') (hf : ∀ k, F3' k → F3 k ∨ w.heap.size ≤ k) : St w0 w' F1 A1 F2 A2 F3' A3' :=
  (h.rot.rot.step1 o n ht hf).rot

/-- Something that owns nothing of these was done: a draw, new blocks, a call that turns nothing. -/
theorem St.past (h : St w0 w F1 A1 F2 A2 F3 A3) (ht : Turn NoBlock w w') : St w0 w' F1 A1 F2 A2 F3 A3 :=
  ⟨h.o1, h.o2, h.o3, h.o1.kept w w' _ h.n1 ht (fun _ _ h => h), h.o2.kept w w' _ h.n2 ht (fun _ _ h => h), h.o3.kept w w' _ h.n3 ht (fun _ _ h => h), h.l1, h.l2, h.l3, h.a12, h.a13, h.a23, h.turn.trans ht (fun _ h => .inl h)⟩
theorem St.drewN (h : St w0 w F1 A1 F2 A2 F3 A3) (n : Nat) : St w0 (w.drewN n) F1 A1 F2 A2 F3 A3 := h.past ((Turn.refl _ w).drewN n)
theorem St.drew (h : St w0 w F1 A1 F2 A2 F3 A3) : St w0 w.drew F1 A1 F2 A2 F3 A3 := h.past ((Turn.refl _ w).drew)
theorem St.alloc (h : St w0 w F1 A1 F2 A2 F3 A3) (o : Obj) : St w0 (w.alloc o) F1 A1 F2 A2 F3 A3 := h.past ((Turn.refl _ w).alloc o)

/-- An argument's cell. -/
theorem St.cell (h : St w0 w F1 A1 F2 A2 F3 A3) {p : Addr} {v : Value} (hc : w0.cell? p = some v) : w.cell? p = some v := h.turn.cell hc (fun h => h)
end

/-- Integers in a slice of the call's own. -/
def Ints (v : Value) (xs : List Int) (w : World) : Prop := w.ownsRow 0 3 1 v xs.length (xs.map (Value.int .i64))
def Blk (v : Value) (k : Nat) : Prop := v.ownBlock = some k

theorem own_ints (v : Value) (xs : List Int) : Own (Blk v) (Ints v xs) :=
  ⟨fun _ _ _ h ht hf => ht.own h hf, fun _ h k hk => by obtain ⟨cur, hc⟩ := own_block h hk; exact lt_of_block hc⟩

theorem ints_nil (w : World) : Ints (.slice none 0 0) [] w := World.ownsRow_nil _ _ _ _
theorem blk_nil : ∀ k, Blk (.slice none 0 0) k → False := fun k h => by simp [Blk, Value.ownBlock] at h

/-- 'xs = append(xs, x)': what the law on append leaves, told of the slice alone. -/
theorem ints_push {w w1 : World} {o : Obj} {v : Value} {xs : List Int} {x : Int} {n g c : Nat} (hn : xs.length = n)
    (hown : w1.ownsRow 0 3 1 (.slice (some ⟨g, 0, none⟩) (n + 1) c) (n + 1) (xs.map (Value.int .i64) ++ [.int .i64 x]))
    (hgrow : (w.alloc o).grownBy w1 v.ownBlock) (hat : v.ownBlock = some g ∨ g = w.heap.size + 1) :
    Ints (.slice (some ⟨g, 0, none⟩) (n + 1) c) (xs ++ [x]) w1 ∧ Turn (Blk v) w w1 ∧ ∀ k, Blk (.slice (some ⟨g, 0, none⟩) (n + 1) c) k → Blk v k ∨ w.heap.size ≤ k := by
  refine ⟨?_, ((Turn.refl _ w).alloc o).grown hgrow (fun k hk => .inl hk), ?_⟩
  · unfold Ints
    simpa [hn] using hown
  · intro k hk
    simp [Blk, Value.ownBlock] at hk
    subst hk
    rcases hat with h | h
    · exact .inl h
    · right; omega

theorem ints_shape {w : World} {v : Value} {xs : List Int} (h : Ints v xs w) (hn : 0 < xs.length) : ∃ g c, v = .slice (some ⟨g, 0, none⟩) xs.length c ∧ xs.length ≤ c ∧ c ≤ 9223372036854775807 := own_shape h hn
theorem ints_slice {w : World} {v : Value} {xs : List Int} (h : Ints v xs w) : ∃ p c, v = .slice p xs.length c := own_slice h
theorem ints_cell {w : World} {g n c : Nat} {xs : List Int} (h : Ints (.slice (some ⟨g, 0, none⟩) n c) xs w) (j : Nat) (hj : j < xs.length) : w.cell? ⟨g, j, none⟩ = some (.int .i64 (xs.getD j 0)) := by
  obtain ⟨_, _, he, _⟩ := ints_shape h (by omega)
  simp at he
  have h' := h
  unfold Ints at h'
  rw [← he.2.1] at h'
  rw [h'.cellAt j (by omega)]
  simp [List.getD, List.getElem?_eq_getElem hj]

theorem turn_of_below {w w' : World} (h : Below w.heap.size w w') : Turn NoBlock w w' := ⟨h.os, h.tape, h.output, h.size, fun k hk _ => h.block k hk⟩
theorem own_base {w : World} {base : Nat} {e : TypeId} {size : Nat} {v : Value} {n : Nat} {xs : List Value} (h : w.ownsRow base e size v n xs) : w.ownsRow 0 e size v n xs := by
  refine ⟨h.1, ?_⟩
  rcases h.2 with h1 | ⟨g, cap, cur, hv, _, rest⟩
  · exact .inl h1
  · exact .inr ⟨g, cap, cur, hv, Nat.zero_le _, rest⟩
theorem Ints.past {w w' : World} {v : Value} {xs : List Int} (h : Ints v xs w) (ht : Turn NoBlock w w') : Ints v xs w' := ht.own h (fun _ _ h => h)

end Go.Proofs.Ytabakjimlndhcaa
