/-
  A pool and the reference's, alike and apart. No walk, no conditions.
-/
import Derived.Test.YtgcjjgljllephaaPRef6
import Derived.Test.YtgcjjgljllephaaPOps
import Derived.Test.YtgcjjgljllephaaPAwake
namespace Go.Proofs.Ytgcjjgljllephaa
open Go.RowKit

structure PSt (w wr : World) (a x : Nat) (F G : Nat → Prop) (L1 L2 : List Pg) : Prop where
  pool : PoolAt wr a F L1
  ref : RefAt wr x G L2
  ap : ∀ j, F j → ¬ G j
  turn : Turn NoBlock w wr
  lf : ∀ j, F j → w.heap.size ≤ j
  lg : ∀ j, G j → w.heap.size ≤ j
section
variable {w wr w2 : World} {a x : Nat} {F G F2 G2 : Nat → Prop} {L1 L2 L3 : List Pg}
theorem PSt.past (h : PSt w wr a x F G L1 L2) (t : Turn NoBlock wr w2) : PSt w w2 a x F G L1 L2 :=
  ⟨h.pool.past t, h.ref.past t, h.ap, h.turn.trans t (fun _ h => .inl h), h.lf, h.lg⟩
theorem PSt.step1 (h : PSt w wr a x F G L1 L2) (h2 : PoolAt w2 a F2 L3) (t : Turn F wr w2) (l : ∀ j, F2 j → F j ∨ wr.heap.size ≤ j) : PSt w w2 a x F2 G L3 L2 := by
  have hs := h.turn.size
  refine ⟨h2, (ref_own x G L2).kept _ _ _ h.ref t (fun j hj hf => h.ap j hf hj), fun j hj hg => ?_, h.turn.trans t (fun j hj => .inr (h.lf j hj)), fun j hj => ?_, h.lg⟩
  · rcases l j hj with h3 | h3
    · exact h.ap j h3 hg
    · have := h.ref.lt hg; omega
  · rcases l j hj with h3 | h3
    · exact h.lf j h3
    · omega
theorem PSt.step2 (h : PSt w wr a x F G L1 L2) (h2 : RefAt w2 x G2 L3) (t : Turn G wr w2) (l : ∀ j, G2 j → G j ∨ wr.heap.size ≤ j) : PSt w w2 a x F G2 L1 L3 := by
  have hs := h.turn.size
  refine ⟨(pool_own a F L1).kept _ _ _ h.pool t (fun j hj hg => h.ap j hj hg), h2, fun j hj hg => ?_, h.turn.trans t (fun j hj => .inr (h.lg j hj)), h.lf, fun j hj => ?_⟩
  · rcases l j hg with h3 | h3
    · exact h.ap j hj h3
    · have := h.pool.lt hj; omega
  · rcases l j hj with h3 | h3
    · exact h.lg j h3
    · omega
/-- What is written elsewhere. -/
theorem PSt.aside (h : PSt w wr a x F G L1 L2) {H : Nat → Prop} (t : Turn H wr w2) (l : ∀ j, H j → w.heap.size ≤ j ∧ ¬ F j ∧ ¬ G j) : PSt w w2 a x F G L1 L2 :=
  ⟨(pool_own a F L1).kept _ _ _ h.pool t (fun j hj hf => (l j hf).2.1 hj), (ref_own x G L2).kept _ _ _ h.ref t (fun j hj hf => (l j hf).2.2 hj), h.ap, h.turn.trans t (fun j hj => .inr (l j hj).1), h.lf, h.lg⟩
/-- A block that was not there is in neither. -/
theorem PSt.news (h : PSt w wr a x F G L1 L2) {j : Nat} (hj : wr.heap.size ≤ j) : w.heap.size ≤ j ∧ ¬ F j ∧ ¬ G j := by
  have hs := h.turn.size
  exact ⟨by omega, fun hf => by have := h.pool.lt hf; omega, fun hg => by have := h.ref.lt hg; omega⟩
end

/-- What the loop holds. -/
structure DSt (w wr : World) (a x n i : Nat) (F G : Nat → Prop) (L : List Pg) : Prop where
  st : PSt w wr a x F G L L
  inv : Inv i L
  len : L.length = n
theorem writeL_len (L : List Pg) (f b : Int) (zs : List UInt8) : (writeL L f b zs).length = L.length := by unfold writeL; split <;> simp
theorem Inv.write {i : Nat} {L : List Pg} (h : Inv i L) (f b : Int) (zs : List UInt8) : Inv (i + 1) (writeL L f b zs) := by
  unfold writeL
  split
  · rename_i hs
    rcases write_cases (L := L) (f := f) (b := b) (n := zs.length) with ⟨h1, h2⟩ | ⟨h1, h2, h3⟩ | ⟨h1, h2, h3⟩ | ⟨h1, h2, h3⟩
    · omega
    · omega
    · omega
    · have hu := h.used (f := f) (by omega)
      exact h.mono.set f.toNat _ (by omega) (by rw [h1]; simp)
  · exact h.mono
theorem Inv.bound2 {i : Nat} {L : List Pg} (h : Inv i L) (hi : i ≤ 120) (f : Int) : usersL L f < 4611686018427387904 := by
  by_cases hu : usersL L f = 0
  · omega
  · have := h.used hu; omega

/-- Bytes of the call's own, one of them counted up. -/
theorem byts_up {w : World} {g n c i : Nat} {bs : List UInt8} (h : Byts (.slice (some ⟨g, 0, none⟩) n c) bs w) (hl : bs.length = n) (hi : i < n) :
    ∃ y : UInt8, w.cell? ⟨g, i, none⟩ = some (.int .u8 (y.toNat : Int)) ∧ w.frozen? ⟨g, i, none⟩ = false ∧ IntKind.u8.wrap ((y.toNat : Int) + 1) = (((y + 1 : UInt8).toNat : Nat) : Int) ∧
      ∃ bs', bs'.length = n ∧ Byts (.slice (some ⟨g, 0, none⟩) n c) bs' (w.setCell ⟨g, i, none⟩ (.int .u8 (((y + 1 : UInt8).toNat : Nat) : Int))) := by
  unfold Byts at h ⊢
  rw [hl] at h
  obtain ⟨y, hy⟩ := get_some (show i < bs.length by omega)
  refine ⟨y, ?_, h.frozenAt i, ?_, bs.set i (y + 1), by simpa using hl, ?_⟩
  · rw [h.cellAt i (by omega)]
    simp [bcells, hy]
  · have h1 : ∀ y : UInt8, ((y + 1 : UInt8).toNat : Int) = ((y.toNat : Int) + 1) % 256 := fun y => by
      rw [UInt8.toNat_add]
      simp
    rw [h1]
    simp [IntKind.wrap, IntKind.bits, IntKind.signed]
  · rw [List.length_set, hl, show bcells (bs.set i (y + 1)) = (bcells bs).set i (.int .u8 (((y + 1 : UInt8).toNat : Nat) : Int)) by simp [bcells, List.map_set]]
    exact (h.stored i _).1
/-- Two pools begin. -/
theorem ref_new (w : World) (n : Nat) (hn : n ≤ 65536) : RefAt (w.alloc (.cells #[.slice none 0 0, .slice none 0 0, .int .i64 n] 30)) w.heap.size (RFoot w.heap.size (.slice none 0 0) (.slice none 0 0) []) (List.replicate n Pg.none) := by
  refine ⟨_, _, n, [], [], [], ⟨heap_alloc_new w _, World.ownsRow_nil _ _ _ _, World.ownsRow_nil _ _ _ _, rfl, fun k v b h => by simp at h, fun j k v u h => by simp at h⟩, ⟨rfl, Nat.zero_le _, hn, by simp⟩, rfl, by simp [padP, rP]⟩
end Go.Proofs.Ytgcjjgljllephaa
