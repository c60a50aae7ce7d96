/-
  What holds of every arena as a plain value: it stays behind Alloc, Free and Set. No walk, no conditions.
-/
import Derived.Test.YtfpmbbplgdkogaaSteps
namespace Go.Proofs.Ytfpmbbplgdkogaa
open Go.RowKit

theorem Mod.take_cases {m m1 : Mod} {z : Value} {k : Nat} (h : m.take z = some (k, m1)) :
    (∃ init, m.freed = init ++ [k] ∧ m1 = { m with freed := init }) ∨
    (m.freed = [] ∧ m.slots.length ≠ m.cap ∧ k = m.slots.length ∧ m1 = { m with slots := m.slots ++ [⟨0, false, z⟩] }) := by
  rcases List.eq_nil_or_concat m.freed with hf | ⟨init, x, hf⟩
  · right
    simp only [Mod.take, hf, List.getLast?_nil] at h
    split at h
    · simp at h
    · rename_i hne
      simp only [Option.some.injEq, Prod.mk.injEq] at h
      exact ⟨hf, hne, h.1.symm, by rw [hf]; exact h.2.symm⟩
  · left
    rw [List.concat_eq_append] at hf
    simp only [Mod.take, hf, List.getLast?_concat, Option.some.injEq, Prod.mk.injEq, List.dropLast_concat] at h
    exact ⟨init, by rw [hf, h.1], h.2.symm⟩

theorem Mod.take_none {m : Mod} {z : Value} (h : m.take z = none) : m.freed = [] ∧ m.slots.length = m.cap := by
  rcases List.eq_nil_or_concat m.freed with hf | ⟨init, x, hf⟩
  · simp only [Mod.take, hf, List.getLast?_nil] at h
    split at h
    · rename_i he; exact ⟨hf, he⟩
    · simp at h
  · rw [List.concat_eq_append] at hf
    simp [Mod.take, hf] at h

/-- What is so between take and the stores behind it. -/
structure Mod.Mid (m1 : Mod) (k : Nat) (t : Slot) : Prop where
  at' : m1.slots[k]? = some t
  taken : t.taken = false
  low : t.gen < 1073741824
  cap : m1.cap ≤ 65536
  len : m1.slots.length ≤ m1.cap
  gen : ∀ (i : Nat) (s : Slot), m1.slots[i]? = some s → s.gen ≤ 1073741824 ∧ s.val.oneCell' = true
  free : ∀ x ∈ m1.freed, x ≠ k ∧ ∃ s, m1.slots[x]? = some s ∧ s.taken = false ∧ s.gen < 1073741824
  once : m1.freed.Nodup
  room : m1.freed.length + m1.count + 1 ≤ m1.slots.length

theorem Mod.OK.mid {m m1 : Mod} {z : Value} {k : Nat} (h : m.OK) (hz : z.oneCell' = true) (ht : m.take z = some (k, m1)) : ∃ t, m1.Mid k t := by
  rcases Mod.take_cases ht with ⟨init, hf, rfl⟩ | ⟨hf, hne, rfl, rfl⟩
  · obtain ⟨t, h1, h2, h3⟩ := h.free k (by rw [hf]; simp)
    have hn := h.once
    rw [hf] at hn
    have hr := h.room
    rw [hf] at hr
    simp only [List.length_append, List.length_cons, List.length_nil] at hr
    rw [List.nodup_append] at hn
    refine ⟨t, h1, h2, h3, h.cap, h.len, h.gen, fun x hx => ⟨?_, h.free x (by rw [hf]; simp [hx])⟩, hn.1, ?_⟩
    · rintro rfl
      exact hn.2.2 x hx x (by simp) rfl
    · simp only [Mod.count] at hr ⊢
      omega
  · have hl := h.len
    have hr := h.room
    refine ⟨⟨0, false, z⟩, by simp, rfl, by simp, h.cap, by simp; omega, ?_, by simp [hf], by simp [hf], ?_⟩
    · intro i s hs
      rw [List.getElem?_append] at hs
      split at hs
      · exact h.gen i s hs
      · rcases Nat.eq_zero_or_pos (i - m.slots.length) with h0 | h0
        · rw [h0] at hs
          simp only [List.getElem?_cons_zero, Option.some.injEq] at hs
          subst hs
          exact ⟨by simp, hz⟩
        · rw [List.getElem?_cons, if_neg (by omega)] at hs
          simp at hs
    · simp only [Mod.count, hf, List.length_nil, List.countP_append, List.length_append, List.length_cons] at hr ⊢
      simp
      omega

theorem Mod.Mid.ok {m1 : Mod} {k : Nat} {t : Slot} {v : Value} (h : m1.Mid k t) (hv : v.oneCell' = true) : (m1.put k ⟨t.gen + 1, true, v⟩).OK := by
  have hk : k < m1.slots.length := (List.getElem?_eq_some_iff.1 h.at').1
  refine ⟨h.cap, by simpa [Mod.put] using h.len, ?_, ?_, h.once, ?_⟩
  · intro i s hs
    simp only [Mod.put, List.getElem?_set] at hs
    have := h.low
    split at hs
    · simp at hs
      subst hs
      exact ⟨by simp; omega, hv⟩
    · exact h.gen i s hs
  · intro x hx
    obtain ⟨h1, s, h2, h3, h4⟩ := h.free x hx
    refine ⟨s, ?_, h3, h4⟩
    simp only [Mod.put]
    rw [List.getElem?_set, if_neg (fun e => h1 e.symm)]
    exact h2
  · have := count_set m1.slots k ⟨t.gen + 1, true, v⟩ t h.at'
    have hr := h.room
    simp only [h.taken] at this
    simp only [Mod.count, Mod.put, List.length_set] at hr this ⊢
    simp at this
    omega

theorem Mod.Mid.genAt {m1 : Mod} {k : Nat} {t : Slot} (h : m1.Mid k t) : m1.genAt k = t.gen := by simp [Mod.genAt, h.at']

/-- What a held slot is. -/
theorem Mod.find_some {m : Mod} {id : Int} {k : Nat} (h : m.find id = some k) :
    0 ≤ id ∧ id % 65536 = k ∧ ∃ s, m.slots[k]? = some s ∧ s.taken = true ∧ (s.gen : Int) = id / 65536 := by
  unfold Mod.find at h
  split at h
  · rename_i h0
    split at h
    · rename_i s hs
      split at h
      · rename_i hc
        simp only [Option.some.injEq] at h
        subst h
        exact ⟨h0, by omega, s, hs, hc.1, hc.2⟩
      · simp at h
    · simp at h
  · simp at h

theorem Mod.find_none {m : Mod} {id : Int} (h : m.find id = none) (h0 : 0 ≤ id) {s : Slot} (hs : m.slots[(id % 65536).toNat]? = some s) (ht : s.taken = true) : (s.gen : Int) ≠ id / 65536 := by
  intro hg
  simp [Mod.find, h0, hs, ht, hg] at h

theorem Mod.find_at {m : Mod} {k : Nat} {s : Slot} (hs : m.slots[k]? = some s) (ht : s.taken = true) (hk : k < 65536) : m.find ((s.gen : Int) * 65536 + k) = some k := by
  have h1 : ((s.gen : Int) * 65536 + k) % 65536 = k := by omega
  have h2 : ((s.gen : Int) * 65536 + k) / 65536 = s.gen := by omega
  have h3 : (0 : Int) ≤ (s.gen : Int) * 65536 + k := by omega
  unfold Mod.find
  rw [if_pos h3, h1, h2]
  simp [hs, ht]

theorem Mod.OK.free' {m : Mod} {k : Nat} {t : Slot} {z : Value} (h : m.OK) (hz : z.oneCell' = true) (ht : m.slots[k]? = some t) (htk : t.taken = true) : (m.free z k).OK := by
  have hk : k < m.slots.length := (List.getElem?_eq_some_iff.1 ht).1
  have hg : m.genAt k = t.gen := by simp [Mod.genAt, ht]
  have hc := count_set m.slots k ⟨t.gen, false, z⟩ t ht
  simp [htk] at hc
  have hr := h.room
  have hnk : k ∉ m.freed := by
    intro hm
    obtain ⟨s, h1, h2, _⟩ := h.free k hm
    rw [ht] at h1
    simp only [Option.some.injEq] at h1
    subst h1
    simp [htk] at h2
  refine ⟨h.cap, by simpa [Mod.free] using h.len, ?_, ?_, ?_, ?_⟩
  · intro i s hs
    simp only [Mod.free, List.getElem?_set] at hs
    split at hs
    · simp at hs
      subst hs
      rw [hg]
      exact ⟨(h.gen k t ht).1, hz⟩
    · exact h.gen i s hs
  · intro x hx
    simp only [Mod.free, hg] at hx ⊢
    have hold : ∀ y ∈ m.freed, ∃ s, (m.slots.set k ⟨t.gen, false, z⟩)[y]? = some s ∧ s.taken = false ∧ s.gen < 1073741824 := by
      intro y hy
      obtain ⟨s, h1, h2, h3⟩ := h.free y hy
      refine ⟨s, ?_, h2, h3⟩
      rw [List.getElem?_set, if_neg (by rintro rfl; exact hnk hy)]
      exact h1
    split at hx
    · rename_i hlt
      rcases List.mem_append.1 hx with hx | hx
      · exact hold x hx
      · simp at hx
        subst hx
        exact ⟨⟨t.gen, false, z⟩, by rw [List.getElem?_set]; simp [hk], rfl, hlt⟩
    · exact hold x hx
  · simp only [Mod.free]
    split
    · rw [List.nodup_append]
      exact ⟨h.once, by simp, fun x hx y hy => by simp at hy; subst hy; intro e; subst e; exact hnk hx⟩
    · exact h.once
  · simp only [Mod.free, Mod.count, hg, List.length_set] at hr ⊢
    split
    · simp
      omega
    · omega

theorem Mod.OK.store {m : Mod} {k : Nat} {t : Slot} {v : Value} (h : m.OK) (hv : v.oneCell' = true) (ht : m.slots[k]? = some t) (htk : t.taken = true) : (m.store k v).OK := by
  have hk : k < m.slots.length := (List.getElem?_eq_some_iff.1 ht).1
  have hg : m.genAt k = t.gen := by simp [Mod.genAt, ht]
  have hc := count_set m.slots k ⟨t.gen, true, v⟩ t ht
  simp [htk] at hc
  refine ⟨h.cap, by simpa [Mod.store, Mod.put] using h.len, ?_, ?_, h.once, ?_⟩
  · intro i s hs
    simp only [Mod.store, Mod.put, List.getElem?_set] at hs
    split at hs
    · simp at hs
      subst hs
      rw [hg]
      exact ⟨(h.gen k t ht).1, hv⟩
    · exact h.gen i s hs
  · intro x hx
    obtain ⟨s, h1, h2, h3⟩ := h.free x hx
    refine ⟨s, ?_, h2, h3⟩
    simp only [Mod.store, Mod.put]
    rw [List.getElem?_set, if_neg]
    · exact h1
    · rintro rfl
      rw [ht] at h1
      simp only [Option.some.injEq] at h1
      subst h1
      simp [htk] at h2
  · have hr := h.room
    simp only [Mod.store, Mod.put, Mod.count, hg, List.length_set, hc] at hr ⊢
    exact hr

end Go.Proofs.Ytfpmbbplgdkogaa
