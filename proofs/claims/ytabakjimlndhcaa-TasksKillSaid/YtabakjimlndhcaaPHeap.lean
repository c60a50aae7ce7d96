/-
  Worlds that differ in some blocks alone: 'Turn F w w1': but for the blocks of F, and new ones, w1 is w. No conditions.
-/
import Derived.WalkKit
import Derived.ProofKit
import Derived.OpenShut
import Derived.Deep.QuietTactic
import Derived.Deep.Draws
namespace Go.Proofs.Ytabakjimlndhcaa
open Go.RowKit

structure Turn (F : Nat → Prop) (w w' : World) : Prop where
  os : w'.os = w.os
  tape : w'.tape = w.tape
  output : w'.output = w.output
  size : w.heap.size ≤ w'.heap.size
  block : ∀ k, k < w.heap.size → ¬ F k → w'.heap[k]? = w.heap[k]?

def NoBlock (_ : Nat) : Prop := False

theorem Turn.refl (F : Nat → Prop) (w : World) : Turn F w w := ⟨rfl, rfl, rfl, Nat.le_refl _, fun _ _ _ => rfl⟩

theorem Turn.trans {F G : Nat → Prop} {a b c : World} (h : Turn F a b) (k : Turn G b c) (hF : ∀ k, G k → F k ∨ a.heap.size ≤ k) : Turn F a c :=
  ⟨k.os.trans h.os, k.tape.trans h.tape, k.output.trans h.output, Nat.le_trans h.size k.size,
    fun i hi hn => (k.block i (Nat.lt_of_lt_of_le hi h.size) (fun hg => by exact (hF i hg).elim hn (fun h1 => by omega))).trans (h.block i hi hn)⟩

theorem Turn.mono {F G : Nat → Prop} {a b : World} (h : Turn F a b) (hF : ∀ k, F k → G k ∨ a.heap.size ≤ k) : Turn G a b :=
  (Turn.refl G a).trans h hF

theorem Turn.drew {F : Nat → Prop} {a w : World} (h : Turn F a w) : Turn F a w.drew := ⟨h.os, h.tape, h.output, h.size, h.block⟩

theorem Turn.drewN {F : Nat → Prop} {a w : World} (h : Turn F a w) (n : Nat) : Turn F a (w.drewN n) := ⟨h.os, h.tape, h.output, h.size, h.block⟩

theorem Turn.alloc {F : Nat → Prop} {a w : World} (h : Turn F a w) (o : Obj) : Turn F a (w.alloc o) :=
  h.trans (G := NoBlock) ⟨rfl, rfl, rfl, by simp, fun k hk _ => Below.heap_alloc _ _ _ hk⟩ (fun _ h => h.elim)

theorem Turn.setCell {F : Nat → Prop} {a w : World} (h : Turn F a w) {p : Addr} (hp : F p.block ∨ a.heap.size ≤ p.block) (u : Value) : Turn F a (w.setCell p u) :=
  h.trans (G := fun k => k = p.block) ⟨rfl, rfl, rfl, by simp [World.setCell], fun k _ hk => Below.heap_setCell _ _ _ _ hk⟩ (fun k h => by subst h; exact hp)

theorem Turn.grown {F : Nat → Prop} {a w w' : World} {row : Option Nat} (h : Turn F a w) (hg : w.grownBy w' row) (hr : ∀ k, row = some k → F k ∨ a.heap.size ≤ k) : Turn F a w' :=
  h.trans (G := fun k => row = some k) ⟨hg.os, hg.tape, hg.output, hg.size, fun k hk hn => hg.block k hk (fun e => hn e.symm)⟩ hr

theorem Turn.below {F : Nat → Prop} {w w' : World} (h : Turn F w w') {B : Nat} (hF : ∀ k, F k → B ≤ k) (hB : B ≤ w.heap.size) : Below B w w' :=
  ⟨h.os, h.tape, h.output, h.size, fun k hk => h.block k (Nat.lt_of_lt_of_le hk hB) (fun hf => by have := hF k hf; omega)⟩

theorem Turn.heap {F : Nat → Prop} {w w' : World} (h : Turn F w w') {a : Nat} {o : Obj} (ha : w.heap[a]? = some o) (hF : ¬ F a) : w'.heap[a]? = some o :=
  (h.block a (lt_of_block ha) hF).trans ha

theorem Turn.own {F : Nat → Prop} {w w' : World} (h : Turn F w w') {e : TypeId} {size : Nat} {v : Value} {n : Nat} {xs : List Value}
    (ho : w.ownsRow 0 e size v n xs) (hF : ∀ k, v.ownBlock = some k → ¬ F k) : w'.ownsRow 0 e size v n xs := by
  refine ⟨ho.1, ?_⟩
  rcases ho.2 with h1 | ⟨g, cap, cur, rfl, hb, hg, rest⟩
  · exact .inl h1
  · exact .inr ⟨g, cap, cur, rfl, hb, h.heap hg (hF g rfl), rest⟩

theorem Turn.cell {F : Nat → Prop} {w w' : World} (h : Turn F w w') {p : Addr} {v : Value} (hc : w.cell? p = some v) (hF : ¬ F p.block) : w'.cell? p = some v := by
  have hl := World.block_lt_of_cell? w p hc
  rw [← hc]
  exact World.cell?_of_block (h.block p.block hl hF)

/-- Cells of a block that is whole. -/
theorem cell_at {w : World} {a : Nat} {cur : Array Value} {t : TypeId} (h : w.heap[a]? = some (.cells cur t (0, 0))) (j : Nat) : w.cell? ⟨a, j, none⟩ = cur[j]? := cell_of_row w a j cur t (0, 0) h
theorem free_at {w : World} {a : Nat} {cur : Array Value} {t : TypeId} (h : w.heap[a]? = some (.cells cur t (0, 0))) (j : Nat) : w.frozen? ⟨a, j, none⟩ = false := frozen_of_row w a j cur t h
theorem set_at {w : World} {a : Nat} {cur : Array Value} {t : TypeId} (h : w.heap[a]? = some (.cells cur t (0, 0))) (j : Nat) (u : Value) :
    (w.setCell ⟨a, j, none⟩ u).heap[a]? = some (.cells (cur.setIfInBounds j u) t (0, 0)) := heap_setCell_same w a j cur t u h
theorem set_past {w : World} {a : Nat} {o : Option Obj} (h : w.heap[a]? = o) {p : Addr} (hp : a ≠ p.block) (u : Value) :
    (w.setCell p u).heap[a]? = o := (Below.heap_setCell _ _ _ _ hp).trans h

/-- Two blocks of unlike element types are unlike. -/
theorem unlike {w : World} {a b : Nat} {c d : Array Value} {s t : TypeId} {f g : Nat × Nat} (ha : w.heap[a]? = some (.cells c s f)) (hb : w.heap[b]? = some (.cells d t g)) (h : s ≠ t) : a ≠ b := by
  intro e
  subst e
  rw [ha] at hb
  simp at hb
  exact h hb.2.1

theorem own_block {w : World} {e : TypeId} {size : Nat} {v : Value} {n : Nat} {xs : List Value} (h : w.ownsRow 0 e size v n xs) {k : Nat} (hk : v.ownBlock = some k) :
    ∃ cur, w.heap[k]? = some (.cells cur e (0, 0)) := by
  rcases h.2 with ⟨rfl, _⟩ | ⟨g, cap, cur, rfl, hb, hg, rest⟩
  · simp [Value.ownBlock] at hk
  · simp [Value.ownBlock] at hk
    subst hk
    exact ⟨cur, hg⟩

/-- What is owned stays so behind a store into a block of another element type, or another block. -/
theorem own_past {w : World} {e : TypeId} {size : Nat} {v : Value} {n : Nat} {xs : List Value} (h : w.ownsRow 0 e size v n xs) {a : Addr} (ha : v.ownBlock ≠ some a.block) (u : Value) :
    (w.setCell a u).ownsRow 0 e size v n xs := ownsRow_setCell_other h ha u

/-- The head of what is owned: a shorter slice of the same block. -/
theorem own_head {w : World} {e : TypeId} {size : Nat} {g n cap : Nat} {xs : List Value} (h : w.ownsRow 0 e size (.slice (some ⟨g, 0, none⟩) n cap) n xs) {m : Nat} (hm : m ≤ n) :
    w.ownsRow 0 e size (.slice (some ⟨g, 0, none⟩) m cap) m (xs.take (m * size)) := by
  have hl := h.1
  have hms : m * size ≤ n * size := Nat.mul_le_mul_right _ hm
  rcases h.2 with ⟨h', _⟩ | ⟨g', cap', cur, h', hb, hg, hnc, hcm, hcs, htake⟩
  · simp at h'
  · simp only [Value.slice.injEq, Option.some.injEq, Addr.mk.injEq, and_true, true_and] at h'
    obtain ⟨rfl, rfl⟩ := h'
    refine ⟨by rw [List.length_take]; omega, .inr ⟨g, cap, cur, rfl, hb, hg, by omega, hcm, hcs, ?_⟩⟩
    rw [← htake, List.take_take, Nat.min_eq_left hms]

theorem own_shape {w : World} {e : TypeId} {size : Nat} {v : Value} {n : Nat} {xs : List Value} (h : w.ownsRow 0 e size v n xs) (hn : 0 < n) :
    ∃ g cap, v = .slice (some ⟨g, 0, none⟩) n cap ∧ n ≤ cap ∧ cap ≤ 9223372036854775807 := by
  rcases h.2 with ⟨rfl, h0⟩ | ⟨g, cap, cur, rfl, hb, hg, hnc, hcm, rest⟩
  · omega
  · exact ⟨g, cap, rfl, hnc, hcm⟩

/-- Whatever is owned shows its length. -/
theorem own_slice {w : World} {e : TypeId} {size : Nat} {v : Value} {n : Nat} {xs : List Value} (h : w.ownsRow 0 e size v n xs) :
    ∃ p cap, v = .slice p n cap := by
  rcases h.2 with ⟨rfl, h0⟩ | ⟨g, cap, cur, rfl, _⟩
  · exact ⟨none, 0, by rw [h0]⟩
  · exact ⟨_, cap, rfl⟩

end Go.Proofs.Ytabakjimlndhcaa
