/-
  The reference's pool in memory: bytes and users of frames in two slices; what stores make of it. No walk, no conditions.
-/
import Derived.Test.YtgcjjgljllephaaPRead
import Derived.Test.YtgcjjgljllephaaPCount
import Derived.Test.YtgcjjgljllephaaPRel
namespace Go.Proofs.Ytgcjjgljllephaa
open Go.RowKit

structure RMem (w : World) (x : Nat) (vd vu : Value) (cap : Nat) (ds : List Value) (bs : List (List UInt8)) (us : List Nat) : Prop where
  head : w.heap[x]? = some (.cells #[vd, vu, .int .i64 cap] 30 (0, 0))
  data : w.ownsRow 0 31 1 vd ds.length ds
  users : w.ownsRow 0 3 1 vu us.length (natsOf us)
  len : ds.length = bs.length
  each : ∀ (k : Nat) (v : Value) (b : List UInt8), ds[k]? = some v → bs[k]? = some b → Byts v b w
  apart : ∀ (j k : Nat) (v u : Value), ds[j]? = some v → ds[k]? = some u → j ≠ k → ∀ b, v.ownBlock = some b → u.ownBlock ≠ some b
def RFoot (x : Nat) (vd vu : Value) (ds : List Value) (j : Nat) : Prop := j = x ∨ Blk vd j ∨ Blk vu j ∨ ∃ (k : Nat) (v : Value), ds[k]? = some v ∧ Blk v j

section
variable {w w' : World} {x cap : Nat} {vd vu : Value} {ds : List Value} {bs : List (List UInt8)} {us : List Nat}
theorem RMem.at (h : RMem w x vd vu cap ds bs us) {k : Nat} {v : Value} (hv : ds[k]? = some v) : ∃ b, bs[k]? = some b ∧ Byts v b w := by
  have hlt := (List.getElem?_eq_some_iff.1 hv).1
  obtain ⟨b, hb⟩ : ∃ b, bs[k]? = some b := ⟨_, List.getElem?_eq_getElem (by rw [← h.len]; exact hlt)⟩
  exact ⟨_, hb, h.each k v _ hv hb⟩
theorem RMem.lt (h : RMem w x vd vu cap ds bs us) {j : Nat} (hj : RFoot x vd vu ds j) : j < w.heap.size := by
  rcases hj with rfl | hj | hj | ⟨k, v, hv, hj⟩
  · exact lt_of_block h.head
  · obtain ⟨cur, hc⟩ := own_block h.data hj; exact lt_of_block hc
  · obtain ⟨cur, hc⟩ := own_block h.users hj; exact lt_of_block hc
  · obtain ⟨b, -, hb⟩ := h.at hv
    exact (own_byts v b).lt w hb j hj
theorem RMem.kept {G : Nat → Prop} (h : RMem w x vd vu cap ds bs us) (ht : Turn G w w') (hG : ∀ j, RFoot x vd vu ds j → ¬ G j) : RMem w' x vd vu cap ds bs us :=
  ⟨ht.heap h.head (hG x (.inl rfl)), ht.own h.data (fun k hk => hG k (.inr (.inl hk))), ht.own h.users (fun k hk => hG k (.inr (.inr (.inl hk)))), h.len,
    fun k v b hv hb => (own_byts v b).kept w w' G (h.each k v b hv hb) ht (fun j hj => hG j (.inr (.inr (.inr ⟨k, v, hv, hj⟩)))), h.apart⟩
theorem RMem.past (h : RMem w x vd vu cap ds bs us) (ht : Turn NoBlock w w') : RMem w' x vd vu cap ds bs us := h.kept ht (fun _ _ h => h)
theorem RMem.c0 (h : RMem w x vd vu cap ds bs us) : w.cell? ⟨x, 0, none⟩ = some vd := by simpa using cell_at h.head 0
theorem RMem.c1 (h : RMem w x vd vu cap ds bs us) : w.cell? ⟨x, 1, none⟩ = some vu := by simpa using cell_at h.head 1
theorem RMem.c2 (h : RMem w x vd vu cap ds bs us) : w.cell? ⟨x, 2, none⟩ = some (.int .i64 cap) := by simpa using cell_at h.head 2
theorem RMem.f (h : RMem w x vd vu cap ds bs us) (j : Nat) : w.frozen? ⟨x, j, none⟩ = false := free_at h.head j
theorem RMem.sliceU (h : RMem w x vd vu cap ds bs us) : ∃ p c, vu = .slice p us.length c := own_slice h.users
theorem RMem.sliceD (h : RMem w x vd vu cap ds bs us) : ∃ p c, vd = .slice p ds.length c := own_slice h.data
/-- The users of one frame. -/
theorem RMem.user (h : RMem w x vd vu cap ds bs us) {k : Nat} (hk : k < us.length) : ∃ g c, vu = .slice (some ⟨g, 0, none⟩) us.length c ∧ x ≠ g ∧ w.cell? ⟨g, k, none⟩ = some (.int .i64 ((us.getD k 0 : Nat) : Int)) ∧ (∀ j, w.frozen? ⟨g, j, none⟩ = false) ∧
    ∀ u : Nat, RMem (w.setCell ⟨g, k, none⟩ (.int .i64 (u : Int))) x vd vu cap ds bs (us.set k u) ∧ Turn (fun j => j = g) w (w.setCell ⟨g, k, none⟩ (.int .i64 (u : Int))) := by
  have hso := h.users
  obtain ⟨g, c, hv, hc, hc'⟩ := own_shape hso (by omega)
  rw [hv] at hso
  refine ⟨g, c, hv, fun e => ne_own h.users h.head (by decide) (by rw [hv]; simp [Value.ownBlock, e]), (hso.cellAt k (by omega)).trans (natsOf_at us k hk), fun j => hso.frozenAt j, fun u => ?_⟩
  have t : Turn (fun j => j = g) w (w.setCell ⟨g, k, none⟩ (.int .i64 (u : Int))) := (Turn.refl (fun j => j = g) w).setCell (p := ⟨g, k, none⟩) (.inl rfl) _
  refine ⟨⟨t.heap h.head (fun e => ne_own h.users h.head (by decide) (by rw [hv]; simp [Value.ownBlock, e])), t.own h.data (fun j hj e => ?_), ?_, h.len, fun j v b hv' hb => ?_, h.apart⟩, t⟩
  · exact ne_own2 h.users h.data (by decide) (k := g) (by rw [hv]; rfl) (by rw [hj, e])
  · rw [natsOf_set, List.length_set, hv]
    exact (hso.stored k _).1
  · have hB := h.each j v b hv' hb
    exact (own_byts v b).kept _ _ _ hB t (fun i hi e => ne_own2 h.users hB (by decide) (k := g) (by rw [hv]; rfl) (by rw [show v.ownBlock = some i from hi, e]))
/-- The bytes of one frame. -/
theorem RMem.bytes (h : RMem w x vd vu cap ds bs us) {k : Nat} {v : Value} (hk : ds[k]? = some v) : ∃ g c, vd = .slice (some ⟨g, 0, none⟩) ds.length c ∧ x ≠ g ∧ w.cell? ⟨g, k, none⟩ = some v ∧ (∀ j, w.frozen? ⟨g, j, none⟩ = false) ∧ ∀ (W : World) (v' : Value) (b' : List UInt8), RMem W x vd vu cap ds bs us → Byts v' b' W →
    (∀ j, Blk v' j → ¬ RFoot x vd vu ds j) → RMem (W.setCell ⟨g, k, none⟩ v') x vd vu cap (ds.set k v') (bs.set k b') us ∧ Turn (fun j => j = g) W (W.setCell ⟨g, k, none⟩ v') := by
  have hlt := (List.getElem?_eq_some_iff.1 hk).1
  have hso0 := h.data
  obtain ⟨g, c, hv, hc, hc'⟩ := own_shape hso0 (by omega)
  rw [hv] at hso0
  refine ⟨g, c, hv, fun e => ne_own h.data h.head (by decide) (by rw [hv]; simp [Value.ownBlock, e]), (hso0.cellAt k (by omega)).trans hk, fun j => hso0.frozenAt j, fun W v' b' hW hB hf => ?_⟩
  have hso := hW.data
  rw [hv] at hso
  have t : Turn (fun j => j = g) W (W.setCell ⟨g, k, none⟩ v') := (Turn.refl (fun j => j = g) W).setCell (p := ⟨g, k, none⟩) (.inl rfl) _
  have keep : ∀ {u : Value} {b : List UInt8}, Byts u b W → Byts u b (W.setCell ⟨g, k, none⟩ v') := fun {u b} hu => (own_byts u b).kept _ _ _ hu t (fun i hi e => ne_own2 hW.data hu (by decide) (k := g) (by rw [hv]; rfl) (by rw [show u.ownBlock = some i from hi, e]))
  refine ⟨⟨t.heap hW.head (fun e => ne_own hW.data hW.head (by decide) (by rw [hv]; simp [Value.ownBlock, e])), ?_, t.own hW.users (fun j hj e => ?_), by simpa using h.len, fun j u b hu hb => ?_, fun i j u1 u2 h1 h2 hne b hb => ?_⟩, t⟩
  · rw [List.length_set, hv]
    exact (hso.stored k _).1
  · exact ne_own2 hW.data hW.users (by decide) (k := g) (by rw [hv]; rfl) (by rw [hj, e])
  · by_cases e : k = j
    · subst e
      rw [List.getElem?_set_self hlt] at hu
      rw [List.getElem?_set_self (by rw [← h.len]; exact hlt)] at hb
      simp at hu hb
      subst hu; subst hb
      exact keep hB
    · rw [List.getElem?_set_ne e] at hu hb
      exact keep (hW.each j u b hu hb)
  · by_cases e : k = i
    · subst e
      rw [List.getElem?_set_self hlt] at h1
      simp at h1
      subst h1
      rw [List.getElem?_set_ne hne] at h2
      intro h3
      exact hf b hb (.inr (.inr (.inr ⟨j, u2, h2, h3⟩)))
    · rw [List.getElem?_set_ne e] at h1
      by_cases e2 : k = j
      · subst e2
        rw [List.getElem?_set_self hlt] at h2
        simp at h2
        subst h2
        intro h3
        exact hf b h3 (.inr (.inr (.inr ⟨i, u1, h1, hb⟩)))
      · rw [List.getElem?_set_ne e2] at h2
        exact h.apart i j u1 u2 h1 h2 hne b hb
/-- One byte of one frame is written. -/
theorem RMem.byte (h : RMem w x vd vu cap ds bs us) {k g n c i : Nat} {b : List UInt8} (hk : ds[k]? = some (.slice (some ⟨g, 0, none⟩) n c)) (hb : bs[k]? = some b) (y : UInt8) :
    RMem (w.setCell ⟨g, i, none⟩ (.int .u8 (y.toNat : Int))) x vd vu cap ds (bs.set k (b.set i y)) us ∧ Turn (fun j => j = g) w (w.setCell ⟨g, i, none⟩ (.int .u8 (y.toNat : Int))) := by
  have hB := h.each k _ b hk hb
  have hkl := (List.getElem?_eq_some_iff.1 hb).1
  have t : Turn (fun j => j = g) w (w.setCell ⟨g, i, none⟩ (.int .u8 (y.toNat : Int))) := (Turn.refl (fun j => j = g) w).setCell (p := ⟨g, i, none⟩) (.inl rfl) _
  have hg : (Value.slice (some ⟨g, 0, none⟩) n c).ownBlock = some g := rfl
  refine ⟨⟨t.heap h.head (fun e => ne_own hB h.head (by decide) (by rw [hg, e])), t.own h.data (fun j hj e => ne_own2 hB h.data (by decide) hg (by rw [hj, e])), t.own h.users (fun j hj e => ne_own2 hB h.users (by decide) hg (by rw [hj, e])), by simpa using h.len, fun j v b' hv hb' => ?_, h.apart⟩, t⟩
  by_cases e : k = j
  · subst e
    rw [hk] at hv
    simp at hv
    subst hv
    rw [List.getElem?_set_self hkl] at hb'
    simp at hb'
    subst hb'
    unfold Byts at hB ⊢
    obtain ⟨_, _, he⟩ := own_slice hB
    simp at he
    rw [← he.2.1] at hB
    rw [List.length_set, ← he.2.1, show bcells (b.set i y) = (bcells b).set i (.int .u8 (y.toNat : Int)) by simp [bcells, List.map_set]]
    exact (hB.stored i _).1
  · rw [List.getElem?_set_ne e] at hb'
    have hB' := h.each j v b' hv hb'
    exact (own_byts v b').kept _ _ _ hB' t (fun m hm e2 => h.apart k j _ v hk hv e g hg (by rw [show v.ownBlock = some m from hm, e2]))
end
end Go.Proofs.Ytgcjjgljllephaa
