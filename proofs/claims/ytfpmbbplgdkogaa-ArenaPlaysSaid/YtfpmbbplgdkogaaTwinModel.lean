/-
  An arena of another type that is used alike: the same slots and generations, "x" in the place of each value. No walk, no conditions.
-/
import Derived.Test.YtfpmbbplgdkogaaOnceModel
import Derived.Test.YtfpmbbplgdkogaaIterModel
namespace Go.Proofs.Ytfpmbbplgdkogaa
open Go.RowKit

def theX : ByteArray := { data := #[120] }
def noX : ByteArray := { data := #[] }
def Slot.tw (s : Slot) : Slot := ⟨s.gen, s.taken, if s.taken then .string theX else .string noX⟩
def Mod.tw (m : Mod) : Mod := ⟨m.cap, m.slots.map Slot.tw, m.freed⟩

theorem tw_at (m : Mod) (k : Nat) : m.tw.slots[k]? = (m.slots[k]?).map Slot.tw := by simp [Mod.tw]
theorem tw_find (m : Mod) (id : Int) : m.tw.find id = m.find id := by
  unfold Mod.find
  rw [tw_at]
  cases m.slots[(id % 65536).toNat]? <;> rfl
theorem tw_gen (m : Mod) (k : Nat) : m.tw.genAt k = m.genAt k := by
  unfold Mod.genAt
  rw [tw_at]
  cases m.slots[k]? <;> rfl

theorem tw_take (m : Mod) (z : Value) : m.tw.take (.string noX) = (m.take z).map fun p => (p.1, p.2.tw) := by
  rcases List.eq_nil_or_concat m.freed with hf | ⟨init, x, hf⟩
  · simp only [Mod.take, Mod.tw, hf, List.getLast?_nil, List.length_map]
    split
    · rfl
    · simp [Slot.tw]
  · rw [List.concat_eq_append] at hf
    simp [Mod.take, Mod.tw, hf]

theorem tw_put (m : Mod) (k g : Nat) (v : Value) : (m.put k ⟨g, true, v⟩).tw = m.tw.put k ⟨g, true, .string theX⟩ := by
  simp [Mod.put, Mod.tw, Slot.tw, List.map_set]

theorem tw_alloc (m : Mod) (z v : Value) : m.tw.alloc (.string noX) (.string theX) = (m.alloc z v).map fun p => (p.1, p.2.tw) := by
  unfold Mod.alloc
  rw [tw_take m z]
  cases m.take z with
  | none => rfl
  | some p =>
    simp only [Option.map_some]
    rw [tw_gen, tw_put]

theorem tw_free (m : Mod) (k : Nat) (z : Value) : m.tw.free (.string noX) k = (m.free z k).tw := by
  unfold Mod.free
  rw [tw_gen]
  simp only [Mod.tw, List.map_set]
  rfl

theorem tw_ids (m : Mod) : m.tw.ids = m.ids := by
  have key : ∀ k, k ≤ m.slots.length → idsUpto m.tw.slots k = idsUpto m.slots k := by
    intro k
    induction k with
    | zero => intro _; rfl
    | succ k ih =>
      intro hk
      have h1 := ih (by omega)
      have hs : m.slots[k]? = some (m.slots[k]'(by omega)) := List.getElem?_eq_getElem (by omega)
      have ht : m.tw.slots[k]? = some (Slot.tw (m.slots[k]'(by omega))) := by rw [tw_at, hs]; rfl
      cases hb : (m.slots[k]'(by omega)).taken with
      | true =>
        rw [idsUpto_yes _ _ _ hs hb, idsUpto_yes _ _ _ ht hb, h1]
        rfl
      | false => rw [idsUpto_no _ _ _ hs hb, idsUpto_no _ _ _ ht hb, h1]
  unfold Mod.ids
  have hl : m.tw.slots.length = m.slots.length := by simp [Mod.tw]
  rw [hl]
  exact key _ (Nat.le_refl _)

/-- An id that Alloc tells is a number of 64 bits. -/
theorem alloc_fits {m m' : Mod} {z v : Value} {id : Int} (ok : m.OK) (hz : z.oneCell' = true) (h : m.alloc z v = some (id, m')) : 0 ≤ id ∧ id ≤ 9223372036854775807 := by
  cases hn : m.take z with
  | none => simp [Mod.alloc, hn] at h
  | some p =>
    obtain ⟨k, m1⟩ := p
    obtain ⟨t, hm⟩ := ok.mid hz hn
    simp only [Mod.alloc, hn, Option.some.injEq, Prod.mk.injEq, hm.genAt] at h
    obtain ⟨rfl, _⟩ := h
    have hk : k < m1.slots.length := (List.getElem?_eq_some_iff.1 hm.at').1
    have := hm.len
    have := hm.cap
    have := hm.low
    omega

theorem tw_val {m : Mod} {id : Int} {k : Nat} (h : m.find id = some k) : ∃ s, m.tw.slots[k]? = some s ∧ s.val = .string theX := by
  obtain ⟨_, _, s, hs, ht, _⟩ := Mod.find_some h
  exact ⟨s.tw, by rw [tw_at, hs]; rfl, by simp [Slot.tw, ht]⟩

end Go.Proofs.Ytfpmbbplgdkogaa
