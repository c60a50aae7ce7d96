/-
  The reference's lists in memory: a slice of slices behind a pointer; what a store makes of it. No walk, no conditions.
-/
import Derived.Test.YtpfoleaampcibaaAppendInts
import Derived.Test.YtpfoleaampcibaaWholeModel
import Derived.Test.YtpfoleaampcibaaCastL
namespace Go.Proofs.Ytpfoleaampcibaa
open Go.RowKit

structure RefMem (w : World) (x qb n k : Nat) (vs : Nat → Value) (L : Nat → List Nat) : Prop where
  head : w.heap[x]? = some (.cells #[.slice (some ⟨qb, 0, none⟩) k k, .int .i64 n] 29 (0, 0))
  rows : ∃ cur, w.heap[qb]? = some (.cells cur 41 (0, 0)) ∧ ∀ q, q < k → cur[q]? = some (vs q)
  each : ∀ q, q < k → Ints (vs q) (castL (L q)) w

def RFoot (x qb k : Nat) (vs : Nat → Value) (j : Nat) : Prop := j = x ∨ j = qb ∨ ∃ q, q < k ∧ Blk (vs q) j

section
variable {w w' : World} {x qb n k : Nat} {vs : Nat → Value} {L : Nat → List Nat}
theorem RefMem.xq (h : RefMem w x qb n k vs L) : x ≠ qb := by obtain ⟨_, h2, _⟩ := h.rows; exact unlike h.head h2 (by decide)
theorem RefMem.lt (h : RefMem w x qb n k vs L) {j : Nat} (hj : RFoot x qb k vs j) : j < w.heap.size := by
  rcases hj with rfl | rfl | ⟨q, hq, hb⟩
  · exact lt_of_block h.head
  · obtain ⟨_, h2, _⟩ := h.rows; exact lt_of_block h2
  · exact (own_ints _ _).lt w (h.each q hq) j hb
theorem RefMem.kept {G : Nat → Prop} (h : RefMem w x qb n k vs L) (ht : Turn G w w') (hG : ∀ j, RFoot x qb k vs j → ¬ G j) : RefMem w' x qb n k vs L := by
  obtain ⟨h0, ⟨cur, h1, h2⟩, h3⟩ := h
  exact ⟨ht.heap h0 (hG _ (.inl rfl)), ⟨cur, ht.heap h1 (hG _ (.inr (.inl rfl))), h2⟩, fun q hq => (own_ints _ _).kept w w' G (h3 q hq) ht (fun j hj => hG j (.inr (.inr ⟨q, hq, hj⟩)))⟩
theorem RefMem.past (h : RefMem w x qb n k vs L) (ht : Turn NoBlock w w') : RefMem w' x qb n k vs L := h.kept ht (fun _ _ h => h)
theorem RefMem.c0 (h : RefMem w x qb n k vs L) : w.cell? ⟨x, 0, none⟩ = some (.slice (some ⟨qb, 0, none⟩) k k) := by simpa using cell_at h.head 0
theorem RefMem.c1 (h : RefMem w x qb n k vs L) : w.cell? ⟨x, 1, none⟩ = some (.int .i64 n) := by simpa using cell_at h.head 1
theorem RefMem.row (h : RefMem w x qb n k vs L) {q : Nat} (hq : q < k) : w.cell? ⟨qb, q, none⟩ = some (vs q) := by
  obtain ⟨cur, h1, h2⟩ := h.rows
  rw [cell_at h1]; exact h2 q hq
theorem RefMem.free (h : RefMem w x qb n k vs L) (q : Nat) : w.frozen? ⟨qb, q, none⟩ = false := by
  obtain ⟨cur, h1, h2⟩ := h.rows
  exact free_at h1 q
/-- A queue is written anew, as numbers of its own. -/
theorem RefMem.set (h : RefMem w x qb n k vs L) {q : Nat} (hq : q < k) {v : Value} {l : List Nat} (hv : Ints v (castL l) w) :
    RefMem (w.setCell ⟨qb, q, none⟩ v) x qb n k (upd vs q v) (upd L q l) ∧ Turn (RFoot x qb k vs) w (w.setCell ⟨qb, q, none⟩ v) := by
  have hne : ∀ {u : Value} {ys : List Int}, Ints u ys w → u.ownBlock ≠ some qb := fun hu e => by
    obtain ⟨cur, h1, _⟩ := h.rows
    obtain ⟨c2, h2⟩ := own_block hu e
    exact unlike h1 h2 (by decide) rfl
  have hT : Turn (fun j => j = qb) w (w.setCell ⟨qb, q, none⟩ v) := (Turn.refl (fun j => j = qb) w).setCell (p := ⟨qb, q, none⟩) (.inl rfl) _
  have hi : ∀ {u : Value} {ys : List Int}, Ints u ys w → Ints u ys (w.setCell ⟨qb, q, none⟩ v) := fun hu => (own_ints _ _).kept _ _ _ hu hT (fun j hj e => hne hu (by rw [← e]; exact hj))
  refine ⟨⟨?_, ?_, ?_⟩, hT.mono (fun j hj => .inl (.inr (.inl hj)))⟩
  · exact set_past h.head h.xq _
  · obtain ⟨cur, h1, h2⟩ := h.rows
    refine ⟨_, set_at h1 _ _, fun p hp => ?_⟩
    have hlt := (Array.getElem?_eq_some_iff.1 (h2 q hq)).1
    by_cases e : p = q
    · subst e
      rw [Array.getElem?_setIfInBounds_self_of_lt hlt, upd_same]
    · rw [Array.getElem?_setIfInBounds_ne (fun h => e h.symm), upd_other _ _ e]; exact h2 p hp
  · intro p hp
    by_cases e : p = q
    · subst e; rw [upd_same, upd_same]; exact hi hv
    · rw [upd_other _ _ e, upd_other _ _ e]; exact hi (h.each p hp)

/-- The reference's lists, whose queues are L. -/
def RefAt (w : World) (x : Nat) (R : Nat → Prop) (n k : Nat) (L : Nat → List Nat) : Prop := ∃ qb vs, RefMem w x qb n k vs L ∧ R = RFoot x qb k vs
theorem ref_own (x : Nat) (R : Nat → Prop) (n k : Nat) (L : Nat → List Nat) : Own R (fun w => RefAt w x R n k L) := by
  refine ⟨fun w w' G h ht hf => ?_, fun w h j hj => ?_⟩
  · obtain ⟨qb, vs, h1, rfl⟩ := h
    exact ⟨qb, vs, h1.kept ht hf, rfl⟩
  · obtain ⟨qb, vs, h1, rfl⟩ := h
    exact h1.lt hj
theorem RefAt.past {R : Nat → Prop} (h : RefAt w x R n k L) (ht : Turn NoBlock w w') : RefAt w' x R n k L := (ref_own x R n k L).kept _ _ _ h ht (fun _ _ h => h)

/-- One queue is written anew, out of new blocks. -/
theorem ref_done {W : World} {q : Nat} {v : Value} {l : List Nat} (h : RefMem W x qb n k vs L) (hq : q < k) (hT : Turn NoBlock W w) (hv : Ints v (castL l) w) (hb : ∀ j, Blk v j → W.heap.size ≤ j) :
    RefAt (w.setCell ⟨qb, q, none⟩ v) x (RFoot x qb k (upd vs q v)) n k (upd L q l) ∧ Turn (RFoot x qb k vs) W (w.setCell ⟨qb, q, none⟩ v) ∧ ∀ j, RFoot x qb k (upd vs q v) j → RFoot x qb k vs j ∨ W.heap.size ≤ j := by
  obtain ⟨h1, h2⟩ := (h.past hT).set hq hv
  refine ⟨⟨qb, _, h1, rfl⟩, (hT.mono (fun _ h => h.elim)).then h2, fun j hj => ?_⟩
  rcases hj with hj | hj | ⟨p, hp, hj⟩
  · exact .inl (.inl hj)
  · exact .inl (.inr (.inl hj))
  · by_cases e : p = q
    · subst e; rw [upd_same] at hj; exact .inr (hb j hj)
    · rw [upd_other _ _ e] at hj; exact .inl (.inr (.inr ⟨p, hp, hj⟩))
end

/-- An append onto nothing; another one behind it. -/
theorem nil_join {W Wd w1 : World} {v1 : Value} {ys : List Int} (hT : Turn NoBlock W Wd) (J : Joined (.slice none 0 0) [] ys Wd v1 w1) :
    Ints v1 ys w1 ∧ Turn NoBlock W w1 ∧ ∀ j, Blk v1 j → W.heap.size ≤ j := by
  have hs := hT.size
  refine ⟨by have := J.1; rw [List.nil_append] at this; exact this, hT.trans J.2.1 (fun j hj => (blk_nil j hj).elim), fun j hj => ?_⟩
  rcases J.2.2.1 j hj with h | h
  · exact (blk_nil j h).elim
  · omega
theorem next_join {W w1 Wd w2 : World} {v1 v2 : Value} {xs ys : List Int} (h : Turn NoBlock W w1 ∧ ∀ j, Blk v1 j → W.heap.size ≤ j) (hT : Turn NoBlock w1 Wd) (J : Joined v1 xs ys Wd v2 w2) :
    Ints v2 (xs ++ ys) w2 ∧ Turn NoBlock W w2 ∧ ∀ j, Blk v2 j → W.heap.size ≤ j := by
  have h1 := h.1.trans hT (fun _ h => .inl h)
  have hs := h1.size
  refine ⟨J.1, h1.trans J.2.1 (fun j hj => .inr (h.2 j hj)), fun j hj => ?_⟩
  rcases J.2.2.1 j hj with h2 | h2
  · exact h.2 j h2
  · omega

theorem next_join' {W w1 Wd w2 : World} {v1 v2 : Value} {xs ys : List Int} (h : Turn NoBlock W w1 ∧ ∀ j, Blk v1 j → W.heap.size ≤ j) (hT : Turn NoBlock w1 Wd) (J : Joined v1 xs ys Wd v2 w2) :
    ∃ pv n2 cv, v2 = .slice pv n2 cv ∧ Ints (.slice pv n2 cv) (xs ++ ys) w2 ∧ Turn NoBlock W w2 ∧ ∀ j, Blk (.slice pv n2 cv) j → W.heap.size ≤ j := by
  have h1 := next_join h hT J
  obtain ⟨pv, cv, hv⟩ := ints_slice h1.1
  obtain ⟨n2, hn2⟩ : ∃ n2, (xs ++ ys).length = n2 := ⟨_, rfl⟩
  rw [hn2] at hv
  subst hv
  exact ⟨pv, n2, cv, rfl, h1⟩

/-- An append onto numbers that were laid just now. -/
theorem new_join' {W Wd w1 : World} {v1 : Value} {xs ys : List Int} {n c : Nat} (hT : Turn NoBlock W Wd) (J : Joined (.slice (some ⟨W.heap.size, 0, none⟩) n c) xs ys Wd v1 w1) :
    ∃ pv n2 cv, v1 = .slice pv n2 cv ∧ Ints (.slice pv n2 cv) (xs ++ ys) w1 ∧ Turn NoBlock W w1 ∧ ∀ j, Blk (.slice pv n2 cv) j → W.heap.size ≤ j := by
  have hs := hT.size
  have h1 : Turn NoBlock W w1 := hT.trans J.2.1 (fun k hk => .inr (by simp [Blk, Value.ownBlock] at hk; omega))
  have h2 : ∀ j, Blk v1 j → W.heap.size ≤ j := fun k hk => by
    rcases J.2.2.1 k hk with h | h
    · simp [Blk, Value.ownBlock] at h; omega
    · omega
  obtain ⟨pv, cv, hv⟩ := ints_slice J.1
  obtain ⟨n2, hn2⟩ : ∃ n2, (xs ++ ys).length = n2 := ⟨_, rfl⟩
  rw [hn2] at hv
  subst hv
  exact ⟨pv, n2, cv, rfl, J.1, h1, h2⟩

end Go.Proofs.Ytpfoleaampcibaa
