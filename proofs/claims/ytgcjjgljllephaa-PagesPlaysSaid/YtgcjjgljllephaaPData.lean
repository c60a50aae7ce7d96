/-
  What each call makes of the pool's frames, as plain data. No walk, no conditions.
-/
import Derived.Test.YtgcjjgljllephaaPModel
namespace Go.Proofs.Ytgcjjgljllephaa

def isFree (p : Pg) : Bool := p.users == 0
/-- The lowest free place; the number of places, if there is none. -/
def lowOf (L : List Pg) : Nat := L.findIdx isFree
def padP (cap : Nat) (ps : List Pg) : List Pg := ps ++ List.replicate (cap - ps.length) Pg.none
theorem padP_len {cap : Nat} {ps : List Pg} (h : ps.length ≤ cap) : (padP cap ps).length = cap := by simp [padP]; omega
theorem padP_low {cap : Nat} {ps : List Pg} {k : Nat} (h : k < ps.length) : (padP cap ps)[k]? = ps[k]? := by
  unfold padP; rw [List.getElem?_append_left h]
theorem padP_high {cap : Nat} {ps : List Pg} {k : Nat} (h : ps.length ≤ k) (h' : k < cap) : (padP cap ps)[k]? = some Pg.none := by
  unfold padP; rw [List.getElem?_append_right h, List.getElem?_replicate, if_pos (by omega)]
theorem padP_set {cap : Nat} {ps : List Pg} {k : Nat} (p : Pg) (h : k < ps.length) : padP cap (ps.set k p) = (padP cap ps).set k p := by
  unfold padP; rw [List.set_append_left _ _ h, List.length_set]
theorem padP_push {cap : Nat} {ps : List Pg} (p : Pg) (h : ps.length < cap) : padP cap ((ps ++ [Pg.none]).set ps.length p) = (padP cap ps).set ps.length p := by
  unfold padP
  rw [List.set_append_right _ _ (Nat.le_refl _), List.set_append_right _ _ (Nat.le_refl _)]
  have e : [Pg.none].set 0 p = [p] := rfl
  simp only [Nat.sub_self, e, List.length_append, List.length_cons, List.length_nil]
  obtain ⟨m, hm⟩ : ∃ m, cap - ps.length = m + 1 := ⟨cap - ps.length - 1, by omega⟩
  rw [hm, show cap - (ps.length + (0 + 1)) = m by omega, List.replicate_succ]
  simp

theorem lowOf_is {L : List Pg} {k : Nat} {p : Pg} (hk : L[k]? = some p) (h0 : p.users = 0) (hm : ∀ (j : Nat) (q : Pg), j < k → L[j]? = some q → q.users ≠ 0) : lowOf L = k := by
  obtain ⟨hlt, he⟩ := List.getElem?_eq_some_iff.1 hk
  unfold lowOf
  rw [List.findIdx_eq hlt]
  refine ⟨by rw [he]; simp [isFree, h0], fun j hj => ?_⟩
  have := hm j _ hj (List.getElem?_eq_getElem (by omega))
  simpa [isFree] using this
theorem lowOf_not {L : List Pg} (h : ∀ (j : Nat) (q : Pg), L[j]? = some q → q.users ≠ 0) : lowOf L = L.length := by
  unfold lowOf
  rw [List.findIdx_eq_length]
  intro p hp
  obtain ⟨j, hj⟩ := List.getElem?_of_mem hp
  have := h j p hj
  simpa [isFree] using this
theorem POK.new (cap : Nat) (h : cap ≤ 65536) : POK cap [] [] := ⟨h, Nat.zero_le _, by simp, by simp, isHeap_nil, by simp⟩

theorem low_full {cap : Nat} {ps : List Pg} (ok : POK cap ps []) (h : ps.length = cap) : lowOf (padP cap ps) = cap := by
  have h1 : (padP cap ps).length = cap := padP_len ok.len
  have h2 : lowOf (padP cap ps) = (padP cap ps).length := lowOf_not (fun j q hj h0 => by
    have hlt := (List.getElem?_eq_some_iff.1 hj).1
    rw [padP_low (by omega)] at hj
    have := (ok.free j).2 ⟨q, hj, h0⟩
    simp at this)
  rw [h2, h1]
theorem low_new {cap : Nat} {ps : List Pg} (ok : POK cap ps []) (h : ps.length < cap) : lowOf (padP cap ps) = ps.length := by
  refine lowOf_is (padP_high (Nat.le_refl _) h) rfl ?_
  intro j q hj hq h0
  rw [padP_low hj] at hq
  have := (ok.free j).2 ⟨q, hq, h0⟩
  simp at this
theorem heap_low {l : List Nat} (h : IsHeap l) : ∀ k ∈ l, l.getD 0 0 ≤ k := by
  intro k hk
  obtain ⟨i, hi⟩ := List.getElem?_of_mem hk
  have hlt := (List.getElem?_eq_some_iff.1 hi).1
  have := heap_min h i hlt
  simp only [List.getD, hi, Option.getD_some] at this
  simpa [List.getD] using this
theorem low_freed {cap : Nat} {ps : List Pg} {fr : List Nat} (ok : POK cap ps fr) (h : 0 < fr.length) : lowOf (padP cap ps) = fr.getD 0 0 ∧ fr.getD 0 0 < ps.length := by
  have hm : fr.getD 0 0 ∈ fr := by
    cases fr with
    | nil => simp at h
    | cons x l => simp [List.getD]
  obtain ⟨p, hp, h0⟩ := (ok.free _).1 hm
  have hlt := (List.getElem?_eq_some_iff.1 hp).1
  refine ⟨lowOf_is (by rw [padP_low hlt]; exact hp) h0 ?_, hlt⟩
  intro j q hj hq hq0
  rw [padP_low (by omega)] at hq
  have := heap_low ok.heap j ((ok.free j).2 ⟨q, hq, hq0⟩)
  omega

theorem ok_new {cap : Nat} {ps : List Pg} {p : Pg} (ok : POK cap ps []) (h : ps.length < cap) (hp : p.users ≠ 0) : POK cap ((ps ++ [Pg.none]).set ps.length p) [] := by
  have hat : ∀ k q, ((ps ++ [Pg.none]).set ps.length p)[k]? = some q → ps[k]? = some q ∨ (k = ps.length ∧ q = p) := by
    intro k q hq
    rw [List.set_append_right _ _ (Nat.le_refl _)] at hq
    simp at hq
    by_cases hk : k < ps.length
    · rw [List.getElem?_append_left hk] at hq; exact .inl hq
    · rw [List.getElem?_append_right (by omega)] at hq
      right
      by_cases e : k = ps.length
      · subst e; simp at hq; exact ⟨rfl, hq.symm⟩
      · rw [List.getElem?_eq_none (by simp; omega)] at hq; simp at hq
  refine ⟨ok.top, by simp; omega, ?_, by simp, isHeap_nil, ?_⟩
  · intro k
    simp only [List.not_mem_nil, false_iff]
    rintro ⟨q, hq, h0⟩
    rcases hat k q hq with h1 | ⟨rfl, rfl⟩
    · have := (ok.free k).2 ⟨q, h1, h0⟩; simp at this
    · exact hp h0
  · intro k q hq h0
    rcases hat k q hq with h1 | ⟨rfl, rfl⟩
    · exact ok.empty k q h1 h0
    · exact absurd h0 hp
theorem ok_freed {cap : Nat} {ps : List Pg} {fr fr' : List Nat} {k : Nat} {p : Pg} (ok : POK cap ps fr) (hf : (fr' ++ [k]).Perm fr) (hh : IsHeap fr') (hp : p.users ≠ 0) : POK cap (ps.set k p) fr' := by
  have hn := (List.Perm.nodup_iff hf).2 ok.once
  have hmem : ∀ j, j ∈ fr ↔ j ∈ fr' ∨ j = k := fun j => by rw [← List.Perm.mem_iff hf]; simp
  have hkn : k ∉ fr' := by
    intro hk
    rw [List.nodup_append] at hn
    exact hn.2.2 k hk k (by simp) rfl
  refine ⟨ok.top, by simpa using ok.len, ?_, (List.nodup_append.1 hn).1, hh, ?_⟩
  · intro j
    by_cases e : k = j
    · subst e
      constructor
      · intro hj; exact absurd hj hkn
      · rintro ⟨q, hq, h0⟩
        rw [List.getElem?_set] at hq
        simp at hq
        obtain ⟨_, rfl⟩ := hq
        exact absurd h0 hp
    · rw [List.getElem?_set_ne e]
      have h1 := hmem j
      have h2 := ok.free j
      constructor
      · intro hj; exact h2.1 (h1.2 (.inl hj))
      · intro hj
        rcases h1.1 (h2.2 hj) with h4 | h4
        · exact h4
        · exact absurd h4.symm e
  · intro j q hq h0
    by_cases e : k = j
    · subst e
      rw [List.getElem?_set] at hq
      simp at hq
      obtain ⟨_, rfl⟩ := hq
      exact absurd h0 hp
    · rw [List.getElem?_set_ne e] at hq
      exact ok.empty j q hq h0
/-- A frame that is used stays so. -/
theorem ok_set {cap : Nat} {ps : List Pg} {fr : List Nat} {k : Nat} {p q : Pg} (ok : POK cap ps fr) (hk : ps[k]? = some p) (hp : p.users ≠ 0) (hq : q.users ≠ 0) : POK cap (ps.set k q) fr := by
  have hlt := (List.getElem?_eq_some_iff.1 hk).1
  refine ⟨ok.top, by simpa using ok.len, fun j => ?_, ok.once, ok.heap, fun j r hr h0 => ?_⟩
  · rw [ok.free j]
    by_cases e : k = j
    · subst e
      rw [List.getElem?_set_self hlt, hk]
      constructor
      · rintro ⟨r, hr, h0⟩; simp at hr; subst hr; exact absurd h0 hp
      · rintro ⟨r, hr, h0⟩; simp at hr; subst hr; exact absurd h0 hq
    · rw [List.getElem?_set_ne e]
  · by_cases e : k = j
    · subst e
      rw [List.getElem?_set_self hlt] at hr
      simp at hr; subst hr; exact absurd h0 hq
    · rw [List.getElem?_set_ne e] at hr
      exact ok.empty j r hr h0
/-- A frame that was used becomes free. -/
theorem ok_close {cap : Nat} {ps : List Pg} {fr fr' : List Nat} {k : Nat} {p : Pg} (ok : POK cap ps fr) (hk : ps[k]? = some p) (hp : p.users ≠ 0) (hf : fr'.Perm (fr ++ [k])) (hh : IsHeap fr') : POK cap (ps.set k Pg.none) fr' := by
  have hmem : ∀ j, j ∈ fr' ↔ j ∈ fr ∨ j = k := fun j => by rw [List.Perm.mem_iff hf]; simp
  have hlt := (List.getElem?_eq_some_iff.1 hk).1
  have hkn : k ∉ fr := by
    intro h
    obtain ⟨q, hq, h0⟩ := (ok.free k).1 h
    rw [hk] at hq
    simp at hq
    subst hq
    exact hp h0
  refine ⟨ok.top, by simpa using ok.len, ?_, ?_, hh, ?_⟩
  · intro j
    by_cases e : k = j
    · subst e
      constructor
      · intro _
        exact ⟨Pg.none, by simp [hlt], rfl⟩
      · intro _; exact (hmem k).2 (.inr rfl)
    · rw [List.getElem?_set_ne e]
      have h1 := hmem j
      have h2 := ok.free j
      constructor
      · intro hj
        rcases h1.1 hj with h3 | h3
        · exact h2.1 h3
        · exact absurd h3.symm e
      · intro hj; exact h1.2 (.inl (h2.2 hj))
  · rw [List.Perm.nodup_iff hf, List.nodup_append]
    exact ⟨ok.once, by simp, fun a ha b hb => by simp at hb; subst hb; intro e; subst e; exact hkn ha⟩
  · intro j q hq h0
    by_cases e : k = j
    · subst e
      rw [List.getElem?_set] at hq
      simp at hq
      exact hq.2.symm
    · rw [List.getElem?_set_ne e] at hq
      exact ok.empty j q hq h0
end Go.Proofs.Ytgcjjgljllephaa
