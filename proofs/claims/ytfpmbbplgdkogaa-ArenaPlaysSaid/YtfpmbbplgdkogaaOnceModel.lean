/-
  What stays true of an arena, the ids that it told, and what each holds. No walk, no conditions.
-/
import Derived.Test.YtfpmbbplgdkogaaModelOK
namespace Go.Proofs.Ytfpmbbplgdkogaa
open Go.RowKit

def Mod.look (m : Mod) (id : Int) : Option Value := (m.find id).bind fun k => (m.slots[k]?).map (·.val)

theorem Mod.find_iff (m : Mod) (id : Int) (k : Nat) : m.find id = some k ↔ 0 ≤ id ∧ id % 65536 = k ∧ ∃ s, m.slots[k]? = some s ∧ s.taken = true ∧ (s.gen : Int) = id / 65536 := by
  constructor
  · exact Mod.find_some
  · rintro ⟨h0, hk, s, hs, ht, hg⟩
    unfold Mod.find
    rw [if_pos h0]
    have e : (id % 65536).toNat = k := by omega
    rw [e, hs]
    simp [ht, hg]

theorem Mod.look_iff (m : Mod) (id : Int) (v : Value) : m.look id = some v ↔ ∃ (k : Nat) (s : Slot), 0 ≤ id ∧ id % 65536 = (k : Int) ∧ m.slots[k]? = some s ∧ s.taken = true ∧ (s.gen : Int) = id / 65536 ∧ s.val = v := by
  unfold Mod.look
  constructor
  · intro h
    cases hf : m.find id with
    | none => simp [hf] at h
    | some k =>
      simp only [hf, Option.bind_some] at h
      obtain ⟨h0, hk, s, hs, ht, hg⟩ := Mod.find_some hf
      rw [hs] at h
      simp at h
      exact ⟨k, s, h0, hk, hs, ht, hg, h⟩
  · rintro ⟨k, s, h0, hk, hs, ht, hg, hv⟩
    rw [(Mod.find_iff m id k).2 ⟨h0, hk, s, hs, ht, hg⟩]
    simp [hs, hv]

/-- A slot is written: what other ids hold stays. -/
theorem look_put (m m' : Mod) (k : Nat) (s : Slot) (hlen : k < 65536) (hs : m'.slots[k]? = some s) (ho : ∀ j, j ≠ k → m'.slots[j]? = m.slots[j]?) (hold : ∀ t, m.slots[k]? = some t → t.taken = false) (ht : s.taken = true) (id : Int) :
    m'.look id = if id = (s.gen : Int) * 65536 + k then some s.val else m.look id := by
  split
  · rename_i h
    rw [Mod.look_iff]
    exact ⟨k, s, by omega, by omega, hs, ht, by omega, rfl⟩
  · rename_i h
    apply Option.ext
    intro v
    rw [Mod.look_iff, Mod.look_iff]
    constructor
    · rintro ⟨j, t, h0, hj, hjs, htk, hg, hv⟩
      by_cases hjk : j = k
      · subst hjk
        rw [hs] at hjs
        simp only [Option.some.injEq] at hjs
        subst hjs
        exact absurd (by omega) h
      · exact ⟨j, t, h0, hj, by rw [← ho j hjk]; exact hjs, htk, hg, hv⟩
    · rintro ⟨j, t, h0, hj, hjs, htk, hg, hv⟩
      by_cases hjk : j = k
      · subst hjk
        have := hold t hjs
        rw [htk] at this
        simp at this
      · exact ⟨j, t, h0, hj, by rw [ho j hjk]; exact hjs, htk, hg, hv⟩

/-- A slot is freed: its id holds nothing any more, others stay. -/
theorem look_drop (m m' : Mod) (k : Nat) (s t : Slot) (hlen : k < 65536) (hs : m'.slots[k]? = some s) (ho : ∀ j, j ≠ k → m'.slots[j]? = m.slots[j]?) (ht : s.taken = false) (hold : m.slots[k]? = some t) (id : Int) :
    m'.look id = if id = (t.gen : Int) * 65536 + k then none else m.look id := by
  split
  · rename_i h
    apply Option.ext
    intro v
    rw [Mod.look_iff]
    constructor
    · rintro ⟨j, u, h0, hj, hjs, htk, hg, hv⟩
      have hjk : j = k := by omega
      subst hjk
      rw [hs] at hjs
      simp only [Option.some.injEq] at hjs
      subst hjs
      rw [ht] at htk
      simp at htk
    · intro h; simp at h
  · rename_i h
    apply Option.ext
    intro v
    rw [Mod.look_iff, Mod.look_iff]
    constructor
    · rintro ⟨j, u, h0, hj, hjs, htk, hg, hv⟩
      by_cases hjk : j = k
      · subst hjk
        rw [hs] at hjs
        simp only [Option.some.injEq] at hjs
        subst hjs
        rw [ht] at htk
        simp at htk
      · exact ⟨j, u, h0, hj, by rw [← ho j hjk]; exact hjs, htk, hg, hv⟩
    · rintro ⟨j, u, h0, hj, hjs, htk, hg, hv⟩
      by_cases hjk : j = k
      · subst hjk
        rw [hold] at hjs
        simp only [Option.some.injEq] at hjs
        subst hjs
        exact absurd (by omega) h
      · exact ⟨j, u, h0, hj, by rw [ho j hjk]; exact hjs, htk, hg, hv⟩

/-- Behind so many calls: told: the ids so far; L: what each id holds; n: how many hold something. -/
structure Once (m : Mod) (told : List Int) (L : Int → Option Int) (n t : Nat) : Prop where
  ok : m.OK
  old : ∀ id ∈ told, ∃ (k : Nat) (s : Slot), m.slots[k]? = some s ∧ ∃ g : Nat, id = (g : Int) * 65536 + (k : Int) ∧ g ≤ s.gen
  live : ∀ id, m.look id = (L id).map (Value.int .i64)
  full : m.freed.length + m.count = m.slots.length
  gens : ∀ (k : Nat) (s : Slot), m.slots[k]? = some s → s.gen ≤ t
  size : n = m.count

theorem Once.start (C : Nat) (h : C ≤ 65536) : Once ⟨C, [], []⟩ [] (fun _ => none) 0 0 := by
  refine ⟨⟨h, Nat.zero_le _, by simp, by simp, by simp, by simp [Mod.count]⟩, by simp, ?_, by simp [Mod.count], by simp, by simp [Mod.count]⟩
  intro id
  cases hl : (⟨C, [], []⟩ : Mod).look id with
  | none => rfl
  | some v =>
    rw [Mod.look_iff] at hl
    obtain ⟨k, s, _, _, h, _⟩ := hl
    simp at h

theorem Once.later {m : Mod} {told : List Int} {L : Int → Option Int} {n t : Nat} (h : Once m told L n t) : Once m told L n (t + 1) :=
  ⟨h.ok, h.old, h.live, h.full, fun k s hs => Nat.le_succ_of_le (h.gens k s hs), h.size⟩

theorem Once.bound {m : Mod} {told : List Int} {L : Int → Option Int} {n t : Nat} (h : Once m told L n t) (ht : t ≤ 200) : ∀ id ∈ told, 0 ≤ id ∧ id ≤ 9223372036854775807 := by
  intro id hid
  obtain ⟨k, s, hs, g, rfl, hg⟩ := h.old id hid
  have := h.gens k s hs
  have h1 : k < m.slots.length := (List.getElem?_eq_some_iff.1 hs).1
  have := h.ok.len
  have := h.ok.cap
  omega

/-- What take leaves, slot by slot. -/
theorem take_slots {m m1 : Mod} {z : Value} {k : Nat} (ht : m.take z = some (k, m1)) (ok : m.OK) : m1.cap = m.cap ∧ (∀ j, j ≠ k → m1.slots[j]? = m.slots[j]?) ∧ (∀ t, m.slots[k]? = some t → t.taken = false) ∧
    (m1.freed.length + m1.count + 1 = m1.slots.length ↔ m.freed.length + m.count = m.slots.length) ∧ m1.count = m.count ∧ (∀ (j : Nat) (s : Slot), m1.slots[j]? = some s → (m.slots[j]? = some s ∨ s.gen = 0)) := by
  rcases Mod.take_cases ht with ⟨init, hf, rfl⟩ | ⟨hf, hne, rfl, rfl⟩
  · obtain ⟨t, h1, h2, _⟩ := ok.free k (by rw [hf]; simp)
    refine ⟨rfl, fun _ _ => rfl, fun u hu => ?_, ?_, rfl, fun j s hs => .inl hs⟩
    · rw [h1] at hu; simp only [Option.some.injEq] at hu; subst hu; exact h2
    · rw [hf]; simp [Mod.count]; omega
  · refine ⟨rfl, fun j hj => ?_, fun u hu => ?_, ?_, ?_, fun j s hs => ?_⟩
    · rcases Nat.lt_or_ge j m.slots.length with h | h
      · simp [List.getElem?_append, h]
      · have h1 : ¬ j < m.slots.length := by omega
        have h2 : j - m.slots.length ≠ 0 := by omega
        have h3 : m.slots[j]? = none := List.getElem?_eq_none h
        rw [h3, List.getElem?_append, if_neg h1]
        obtain ⟨d, hd⟩ : ∃ d, j - m.slots.length = d + 1 := ⟨j - m.slots.length - 1, by omega⟩
        rw [hd]
        rfl
    · simp at hu
    · simp [Mod.count, hf]
    · simp [Mod.count]
    · rw [List.getElem?_append] at hs
      split at hs
      · exact .inl hs
      · rcases Nat.eq_zero_or_pos (j - m.slots.length) with h0 | h0
        · rw [h0] at hs
          simp only [List.getElem?_cons_zero, Option.some.injEq] at hs
          subst hs
          exact .inr rfl
        · rw [List.getElem?_cons, if_neg (by omega)] at hs
          simp at hs

/-- No slot can be taken: as many hold something as there are. -/
theorem Once.none {m : Mod} {told : List Int} {L : Int → Option Int} {n t : Nat} {z v : Value} (h : Once m told L n t) (ha : m.alloc z v = Option.none) : n = m.cap := by
  have ht : m.take z = Option.none := by
    unfold Mod.alloc at ha
    split at ha
    · assumption
    · simp at ha
  have ⟨hf, hl⟩ := Mod.take_none ht
  have := h.full
  rw [hf] at this
  simp at this
  rw [h.size, this, hl]

theorem Once.alloc {m m' : Mod} {told : List Int} {L : Int → Option Int} {n t : Nat} {z : Value} {v id : Int} (h : Once m told L n t) (hz : z.oneCell' = true) (ha : m.alloc z (.int .i64 v) = some (id, m')) :
    id ∉ told ∧ L id = Option.none ∧ m'.cap = m.cap ∧ Once m' (told ++ [id]) (fun j => if j = id then some v else L j) (n + 1) (t + 1) := by
  cases hn : m.take z with
  | none => simp [Mod.alloc, hn] at ha
  | some p =>
    obtain ⟨k, m1⟩ := p
    obtain ⟨s, hm⟩ := h.ok.mid hz hn
    simp only [Mod.alloc, hn, Option.some.injEq, Prod.mk.injEq, hm.genAt] at ha
    obtain ⟨rfl, rfl⟩ := ha
    obtain ⟨p1, p2, p3, p4, p5, p6⟩ := take_slots hn h.ok
    have hk : k < m1.slots.length := (List.getElem?_eq_some_iff.1 hm.at').1
    have hk' : k < 65536 := by have := hm.len; have := hm.cap; omega
    have hput : (m1.put k ⟨s.gen + 1, true, .int .i64 v⟩).slots[k]? = some ⟨s.gen + 1, true, .int .i64 v⟩ := by simp [Mod.put, hk]
    have hoth : ∀ j, j ≠ k → (m1.put k ⟨s.gen + 1, true, .int .i64 v⟩).slots[j]? = m.slots[j]? := fun j hj => by
      simp only [Mod.put]
      rw [List.getElem?_set, if_neg (fun e => hj e.symm), p2 j hj]
    have hlook := fun id => look_put m _ k _ hk' hput hoth p3 rfl id
    have hcnt : (m1.put k ⟨s.gen + 1, true, .int .i64 v⟩).count = m.count + 1 := by
      have := count_set m1.slots k ⟨s.gen + 1, true, .int .i64 v⟩ s hm.at'
      simp [hm.taken] at this
      simp only [Mod.count, Mod.put] at p5 ⊢
      omega
    have hsg : ∀ u, m.slots[k]? = some u → u.gen = s.gen := by
      intro u hu
      rcases Mod.take_cases hn with ⟨init, hf, rfl⟩ | ⟨hf, hne, rfl, rfl⟩
      · have := hm.at'
        simp only at this
        rw [hu] at this
        simp only [Option.some.injEq] at this
        rw [this]
      · simp at hu
    refine ⟨?_, ?_, p1, ?_, ?_, ?_, ?_, ?_, ?_⟩
    · intro hid
      obtain ⟨j, u, hu, g, he, hg⟩ := h.old _ hid
      have hj : j < m.slots.length := (List.getElem?_eq_some_iff.1 hu).1
      have := h.ok.len
      have := h.ok.cap
      have hjk : j = k := by omega
      subst hjk
      have := hsg u hu
      omega
    · have h1 := h.live (((s.gen + 1 : Nat) : Int) * 65536 + k)
      cases hL : L (((s.gen + 1 : Nat) : Int) * 65536 + k) with
      | none => rfl
      | some x =>
        rw [hL] at h1
        simp only [Option.map_some] at h1
        rw [Mod.look_iff] at h1
        obtain ⟨j, u, h0, hj, hu, htk, _⟩ := h1
        have hjk : j = k := by omega
        subst hjk
        rw [p3 u hu] at htk
        simp at htk
    · exact hm.ok rfl
    · intro x hx
      rcases List.mem_append.1 hx with hx | hx
      · obtain ⟨j, u, hu, g, he, hg⟩ := h.old x hx
        by_cases hjk : j = k
        · subst hjk
          have := hsg u hu
          exact ⟨j, _, hput, g, he, by simp; omega⟩
        · exact ⟨j, u, by rw [hoth j hjk]; exact hu, g, he, hg⟩
      · simp only [List.mem_singleton] at hx
        subst hx
        exact ⟨k, _, hput, s.gen + 1, rfl, Nat.le_refl _⟩
    · intro x
      rw [hlook x]
      simp only
      split
      · rfl
      · exact h.live x
    · have h1 := p4.2 h.full
      simp only [Mod.put, List.length_set] at hcnt ⊢
      have h2 : (m1.put k ⟨s.gen + 1, true, .int .i64 v⟩).count = m.count + 1 := hcnt
      simp only [Mod.put] at h2
      omega
    · intro j u hu
      by_cases hjk : j = k
      · subst hjk
        rw [hput] at hu
        simp only [Option.some.injEq] at hu
        subst hu
        rcases p6 j s hm.at' with h2 | h2
        · have := h.gens j s h2
          simp
          omega
        · simp
          omega
      · rw [hoth j hjk] at hu
        have := h.gens j u hu
        omega
    · rw [hcnt, h.size]

theorem Once.free {m : Mod} {told : List Int} {L : Int → Option Int} {n t k : Nat} {z : Value} {id : Int} (h : Once m told L n t) (ht : t ≤ 200) (hz : z.oneCell' = true) (hf : m.find id = some k) :
    (L id).isSome = true ∧ Once (m.free z k) told (fun j => if j = id then Option.none else L j) (n - 1) (t + 1) ∧ 1 ≤ n := by
  obtain ⟨h0, hk, s, hs, htk, hg⟩ := Mod.find_some hf
  have hlt : k < m.slots.length := (List.getElem?_eq_some_iff.1 hs).1
  have hk' : k < 65536 := by have := h.ok.len; have := h.ok.cap; omega
  have hga : m.genAt k = s.gen := by simp [Mod.genAt, hs]
  have hlow : s.gen < 1073741824 := by have := h.gens k s hs; omega
  have hid : id = (s.gen : Int) * 65536 + k := by omega
  have hput : (m.free z k).slots[k]? = some ⟨s.gen, false, z⟩ := by simp [Mod.free, hga, hlt]
  have hoth : ∀ j, j ≠ k → (m.free z k).slots[j]? = m.slots[j]? := fun j hj => by
    simp only [Mod.free]
    rw [List.getElem?_set, if_neg (fun e => hj e.symm)]
  have hlook := fun x => look_drop m (m.free z k) k _ s hk' hput hoth rfl hs x
  have hcnt : (m.free z k).count + 1 = m.count := by
    have := count_set m.slots k ⟨s.gen, false, z⟩ s hs
    simp [htk] at this
    simp only [Mod.count, Mod.free, hga]
    omega
  have hsz := h.size
  refine ⟨?_, ⟨h.ok.free' hz hs htk, ?_, ?_, ?_, ?_, ?_⟩, by omega⟩
  · have h1 := h.live id
    have h2 : m.look id = some s.val := (Mod.look_iff _ _ _).2 ⟨k, s, h0, hk, hs, htk, hg, rfl⟩
    rw [h2] at h1
    cases hL : L id with
    | none => rw [hL] at h1; simp at h1
    | some x => rfl
  · intro x hx
    obtain ⟨j, u, hu, g, he, hgg⟩ := h.old x hx
    by_cases hjk : j = k
    · subst hjk
      rw [hs] at hu
      simp only [Option.some.injEq] at hu
      subst hu
      exact ⟨j, _, hput, g, he, hgg⟩
    · exact ⟨j, u, by rw [hoth j hjk]; exact hu, g, he, hgg⟩
  · intro x
    rw [hlook x, ← hid]
    split
    · rfl
    · exact h.live x
  · have h1 := h.full
    have h2 : (m.free z k).freed.length = m.freed.length + 1 := by simp [Mod.free, hga, hlow]
    have h3 : (m.free z k).slots.length = m.slots.length := by simp [Mod.free]
    omega
  · intro j u hu
    by_cases hjk : j = k
    · subst hjk
      rw [hput] at hu
      simp only [Option.some.injEq] at hu
      subst hu
      have := h.gens j s hs
      simp
      omega
    · rw [hoth j hjk] at hu
      have := h.gens j u hu
      omega
  · omega

theorem Once.gone {m : Mod} {told : List Int} {L : Int → Option Int} {n t : Nat} {id : Int} (h : Once m told L n t) (hf : m.find id = Option.none) :
    L id = Option.none ∧ (fun j => if j = id then Option.none else L j) = L := by
  have h1 : L id = Option.none := by
    have h1 := h.live id
    simp only [Mod.look, hf, Option.bind_none] at h1
    cases hL : L id with
    | none => rfl
    | some x => rw [hL] at h1; simp at h1
  refine ⟨h1, ?_⟩
  funext j
  split
  · rename_i e; rw [e, h1]
  · rfl

end Go.Proofs.Ytfpmbbplgdkogaa
