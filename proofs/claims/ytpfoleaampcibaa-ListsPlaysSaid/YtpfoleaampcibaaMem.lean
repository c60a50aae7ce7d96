/-
  Lists in memory: three blocks of the call's own. No walk, no conditions.
-/
import Derived.Test.YtpfoleaampcibaaRing
import Derived.Test.YtpfoleaampcibaaThings
namespace Go.Proofs.Ytpfoleaampcibaa
open Go.RowKit

structure Mem (w : World) (a p c : Nat) (r : Raw) : Prop where
  head : w.heap[a]? = some (.cells #[.int .i64 r.items, .slice (some ⟨p, 0, none⟩) (r.items + r.queues) (r.items + r.queues), .slice (some ⟨c, 0, none⟩) r.queues r.queues] 51 (0, 0))
  places : ∃ cur, w.heap[p]? = some (.cells cur 53 (0, 0)) ∧ ∀ i, i < r.items + r.queues → cur[i * 3]? = some (.int .i64 (r.Q i)) ∧ cur[i * 3 + 1]? = some (.int .i64 (r.A i)) ∧ cur[i * 3 + 2]? = some (.int .i64 (r.B i))
  counts : ∃ cur, w.heap[c]? = some (.cells cur 3 (0, 0)) ∧ ∀ q, q < r.queues → cur[q]? = some (.int .i64 (r.C q))

def Foot (a p c k : Nat) : Prop := k = a ∨ k = p ∨ k = c

section
variable {w w' : World} {a p c : Nat} {r : Raw}

theorem Mem.ap (h : Mem w a p c r) : a ≠ p := by obtain ⟨_, h2, _⟩ := h.places; exact unlike h.head h2 (by decide)
theorem Mem.ac (h : Mem w a p c r) : a ≠ c := by obtain ⟨_, h2, _⟩ := h.counts; exact unlike h.head h2 (by decide)
theorem Mem.pc (h : Mem w a p c r) : p ≠ c := by obtain ⟨_, h1, _⟩ := h.places; obtain ⟨_, h2, _⟩ := h.counts; exact unlike h1 h2 (by decide)
theorem Mem.lt (h : Mem w a p c r) {k : Nat} (hk : Foot a p c k) : k < w.heap.size := by
  obtain ⟨_, h1, _⟩ := h.places; obtain ⟨_, h2, _⟩ := h.counts
  rcases hk with rfl | rfl | rfl
  · exact lt_of_block h.head
  · exact lt_of_block h1
  · exact lt_of_block h2
theorem Mem.kept {G : Nat → Prop} (h : Mem w a p c r) (ht : Turn G w w') (hF : ∀ k, Foot a p c k → ¬ G k) : Mem w' a p c r := by
  obtain ⟨h0, ⟨c1, h1, k1⟩, ⟨c2, h2, k2⟩⟩ := h
  exact ⟨ht.heap h0 (hF _ (.inl rfl)), ⟨c1, ht.heap h1 (hF _ (.inr (.inl rfl))), k1⟩, ⟨c2, ht.heap h2 (hF _ (.inr (.inr rfl))), k2⟩⟩

theorem Mem.drewN (h : Mem w a p c r) (d : Nat) : Mem (w.drewN d) a p c r := h.kept (G := NoBlock) ((Turn.refl _ _).drewN d) (fun _ _ h => h)

theorem Mem.drew (h : Mem w a p c r) : Mem w.drew a p c r := h.kept (G := NoBlock) ((Turn.refl _ _).drew) (fun _ _ h => h)
theorem Mem.c0 (h : Mem w a p c r) : w.cell? ⟨a, 0, none⟩ = some (.int .i64 r.items) := by simpa using cell_at h.head 0
theorem Mem.c1 (h : Mem w a p c r) : w.cell? ⟨a, 1, none⟩ = some (.slice (some ⟨p, 0, none⟩) (r.items + r.queues) (r.items + r.queues)) := by simpa using cell_at h.head 1
theorem Mem.c2 (h : Mem w a p c r) : w.cell? ⟨a, 2, none⟩ = some (.slice (some ⟨c, 0, none⟩) r.queues r.queues) := by simpa using cell_at h.head 2
theorem Mem.q (h : Mem w a p c r) {i : Nat} (hi : i < r.items + r.queues) : w.cell? ⟨p, i * 3, none⟩ = some (.int .i64 (r.Q i)) := by
  obtain ⟨cur, h1, k⟩ := h.places
  rw [cell_at h1]; exact (k i hi).1
theorem Mem.a' (h : Mem w a p c r) {i : Nat} (hi : i < r.items + r.queues) : w.cell? ⟨p, i * 3 + 1, none⟩ = some (.int .i64 (r.A i)) := by
  obtain ⟨cur, h1, k⟩ := h.places
  rw [cell_at h1]; exact (k i hi).2.1
theorem Mem.b (h : Mem w a p c r) {i : Nat} (hi : i < r.items + r.queues) : w.cell? ⟨p, i * 3 + 2, none⟩ = some (.int .i64 (r.B i)) := by
  obtain ⟨cur, h1, k⟩ := h.places
  rw [cell_at h1]; exact (k i hi).2.2
theorem Mem.n (h : Mem w a p c r) {i : Nat} (hi : i < r.queues) : w.cell? ⟨c, i, none⟩ = some (.int .i64 (r.C i)) := by
  obtain ⟨cur, h1, k⟩ := h.counts
  rw [cell_at h1]; exact k i hi
theorem Mem.fp (h : Mem w a p c r) (i : Nat) : w.frozen? ⟨p, i, none⟩ = false := by
  obtain ⟨cur, h1, k⟩ := h.places
  exact free_at h1 i
theorem Mem.fc (h : Mem w a p c r) (i : Nat) : w.frozen? ⟨c, i, none⟩ = false := by
  obtain ⟨cur, h1, k⟩ := h.counts
  exact free_at h1 i

theorem Mem.setB (h : Mem w a p c r) {i : Nat} (hi : i < r.items + r.queues) (v : Nat) : Mem (w.setCell ⟨p, i * 3 + 2, none⟩ (.int .i64 v)) a p c { r with B := upd r.B i v } := by
  have hap := h.ap
  have hpc := h.pc
  obtain ⟨h0, ⟨c1, h1, k1⟩, ⟨c2, h2, k2⟩⟩ := h
  refine ⟨set_past h0 hap _, ⟨_, set_at h1 _ _, fun j hj => ?_⟩, ⟨c2, set_past h2 (Ne.symm hpc) _, k2⟩⟩
  have hs := (k1 i hi).2.2
  have hlt := (Array.getElem?_eq_some_iff.1 hs).1
  have := k1 j hj
  refine ⟨?_, ?_, ?_⟩
  · rw [Array.getElem?_setIfInBounds_ne (by omega)]; exact this.1
  · rw [Array.getElem?_setIfInBounds_ne (by omega)]; exact this.2.1
  · by_cases e : j = i
    · subst e
      rw [Array.getElem?_setIfInBounds_self_of_lt hlt]
      simp [upd_same]
    · rw [Array.getElem?_setIfInBounds_ne (by omega)]
      simp only [upd_other _ _ e]
      exact this.2.2
theorem Mem.setA (h : Mem w a p c r) {i : Nat} (hi : i < r.items + r.queues) (v : Nat) : Mem (w.setCell ⟨p, i * 3 + 1, none⟩ (.int .i64 v)) a p c { r with A := upd r.A i v } := by
  have hap := h.ap
  have hpc := h.pc
  obtain ⟨h0, ⟨c1, h1, k1⟩, ⟨c2, h2, k2⟩⟩ := h
  refine ⟨set_past h0 hap _, ⟨_, set_at h1 _ _, fun j hj => ?_⟩, ⟨c2, set_past h2 (Ne.symm hpc) _, k2⟩⟩
  have hs := (k1 i hi).2.1
  have hlt := (Array.getElem?_eq_some_iff.1 hs).1
  have := k1 j hj
  refine ⟨?_, ?_, ?_⟩
  · rw [Array.getElem?_setIfInBounds_ne (by omega)]; exact this.1
  · by_cases e : j = i
    · subst e
      rw [Array.getElem?_setIfInBounds_self_of_lt hlt]
      simp [upd_same]
    · rw [Array.getElem?_setIfInBounds_ne (by omega)]
      simp only [upd_other _ _ e]
      exact this.2.1
  · rw [Array.getElem?_setIfInBounds_ne (by omega)]; exact this.2.2
theorem Mem.setQ (h : Mem w a p c r) {i : Nat} (hi : i < r.items + r.queues) (v : Int) : Mem (w.setCell ⟨p, i * 3, none⟩ (.int .i64 v)) a p c { r with Q := upd r.Q i v } := by
  have hap := h.ap
  have hpc := h.pc
  obtain ⟨h0, ⟨c1, h1, k1⟩, ⟨c2, h2, k2⟩⟩ := h
  refine ⟨set_past h0 hap _, ⟨_, set_at h1 _ _, fun j hj => ?_⟩, ⟨c2, set_past h2 (Ne.symm hpc) _, k2⟩⟩
  have hs := (k1 i hi).1
  have hlt := (Array.getElem?_eq_some_iff.1 hs).1
  have := k1 j hj
  refine ⟨?_, ?_, ?_⟩
  · by_cases e : j = i
    · subst e
      rw [Array.getElem?_setIfInBounds_self_of_lt hlt]
      simp [upd_same]
    · rw [Array.getElem?_setIfInBounds_ne (by omega)]
      simp only [upd_other _ _ e]
      exact this.1
  · rw [Array.getElem?_setIfInBounds_ne (by omega)]; exact this.2.1
  · rw [Array.getElem?_setIfInBounds_ne (by omega)]; exact this.2.2
theorem Mem.setC (h : Mem w a p c r) {i : Nat} (hi : i < r.queues) (v : Nat) : Mem (w.setCell ⟨c, i, none⟩ (.int .i64 v)) a p c { r with C := upd r.C i v } := by
  have hac := h.ac
  have hpc := h.pc
  obtain ⟨h0, ⟨c1, h1, k1⟩, ⟨c2, h2, k2⟩⟩ := h
  refine ⟨set_past h0 hac _, ⟨c1, set_past h1 hpc _, k1⟩, ⟨_, set_at h2 _ _, fun j hj => ?_⟩⟩
  have hs := k2 i hi
  have hlt := (Array.getElem?_eq_some_iff.1 hs).1
  by_cases e : j = i
  · subst e
    rw [Array.getElem?_setIfInBounds_self_of_lt hlt]
    simp [upd_same]
  · rw [Array.getElem?_setIfInBounds_ne (by omega)]
    simp only [upd_other _ _ e]
    exact k2 j hj

theorem foot_setP {i : Nat} (v : Value) (a p c : Nat) (w : World) : Turn (Foot a p c) w (w.setCell ⟨p, i, none⟩ v) := (Turn.refl _ _).setCell (.inl (.inr (.inl rfl))) _
theorem foot_setC {i : Nat} (v : Value) (a p c : Nat) (w : World) : Turn (Foot a p c) w (w.setCell ⟨c, i, none⟩ v) := (Turn.refl _ _).setCell (.inl (.inr (.inr rfl))) _
theorem Turn.then {F : Nat → Prop} {x y z : World} (h : Turn F x y) (k : Turn F y z) : Turn F x z := h.trans k (fun _ h => .inl h)

/-- Lists whose queues are L. -/
def ListsAt (w : World) (a : Nat) (F : Nat → Prop) (n k : Nat) (L : Nat → List Nat) : Prop := ∃ p c r, Mem w a p c r ∧ Rep r L ∧ r.items = n ∧ r.queues = k ∧ F = Foot a p c
theorem lists_own (a : Nat) (F : Nat → Prop) (n k : Nat) (L : Nat → List Nat) : Own F (fun w => ListsAt w a F n k L) := by
  refine ⟨fun w w' G h ht hf => ?_, fun w h j hj => ?_⟩
  · obtain ⟨p, c, r, h1, h2, h3, h4, rfl⟩ := h
    exact ⟨p, c, r, h1.kept ht hf, h2, h3, h4, rfl⟩
  · obtain ⟨p, c, r, h1, h2, h3, h4, rfl⟩ := h
    exact h1.lt hj
theorem ListsAt.drew {F : Nat → Prop} {n k : Nat} {L : Nat → List Nat} (h : ListsAt w a F n k L) : ListsAt w.drew a F n k L :=
  (lists_own a F n k L).kept w _ NoBlock h ((Turn.refl _ _).drew) (fun _ _ h => h)
theorem ListsAt.past {F : Nat → Prop} {n k : Nat} {L : Nat → List Nat} (h : ListsAt w a F n k L) (ht : Turn NoBlock w w') : ListsAt w' a F n k L :=
  (lists_own a F n k L).kept w _ NoBlock h ht (fun _ _ h => h)
theorem ListsAt.drewN {F : Nat → Prop} {n k : Nat} {L : Nat → List Nat} (h : ListsAt w a F n k L) (d : Nat) : ListsAt (w.drewN d) a F n k L :=
  (lists_own a F n k L).kept w _ NoBlock h ((Turn.refl _ _).drewN d) (fun _ _ h => h)
end

end Go.Proofs.Ytpfoleaampcibaa
