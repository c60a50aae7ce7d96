/-
  What each call makes of the table's places, as plain data. No walk, no conditions.
-/
import Derived.Test.YtacdhlhkpdlekaaHModel
namespace Go.Proofs.Ytacdhlhkpdlekaa

def isFree (p : Pl) : Bool := p.value == 0
/-- The lowest free place; the number of places, if there is none. -/
def lowOf (L : List Pl) : Nat := L.findIdx isFree
def padL (cap : Nat) (ps : List Pl) : List Pl := ps ++ List.replicate (cap - ps.length) Pl.none
theorem padL_len {cap : Nat} {ps : List Pl} (h : ps.length ≤ cap) : (padL cap ps).length = cap := by simp [padL]; omega
theorem padL_low {cap : Nat} {ps : List Pl} {k : Nat} (h : k < ps.length) : (padL cap ps)[k]? = ps[k]? := by
  unfold padL; rw [List.getElem?_append_left h]
theorem padL_high {cap : Nat} {ps : List Pl} {k : Nat} (h : ps.length ≤ k) (h' : k < cap) : (padL cap ps)[k]? = some Pl.none := by
  unfold padL; rw [List.getElem?_append_right h, List.getElem?_replicate, if_pos (by omega)]
theorem padL_set {cap : Nat} {ps : List Pl} {k : Nat} (p : Pl) (h : k < ps.length) : padL cap (ps.set k p) = (padL cap ps).set k p := by
  unfold padL; rw [List.set_append_left _ _ h, List.length_set]
theorem padL_push {cap : Nat} {ps : List Pl} (p : Pl) (h : ps.length < cap) : padL cap ((ps ++ [Pl.none]).set ps.length p) = (padL cap ps).set ps.length p := by
  unfold padL
  rw [List.set_append_right _ _ (Nat.le_refl _), List.set_append_right _ _ (Nat.le_refl _)]
  have e : [Pl.none].set 0 p = [p] := rfl
  simp only [Nat.sub_self, e, List.length_append, List.length_cons, List.length_nil]
  obtain ⟨m, hm⟩ : ∃ m, cap - ps.length = m + 1 := ⟨cap - ps.length - 1, by omega⟩
  rw [hm, show cap - (ps.length + (0 + 1)) = m by omega, List.replicate_succ]
  simp

theorem lowOf_is {L : List Pl} {k : Nat} {p : Pl} (hk : L[k]? = some p) (h0 : p.value = 0) (hm : ∀ (j : Nat) (q : Pl), j < k → L[j]? = some q → q.value ≠ 0) : lowOf L = k := by
  obtain ⟨hlt, he⟩ := List.getElem?_eq_some_iff.1 hk
  unfold lowOf
  rw [List.findIdx_eq hlt]
  refine ⟨by rw [he]; simp [isFree, h0], fun j hj => ?_⟩
  have := hm j _ hj (List.getElem?_eq_getElem (by omega))
  simpa [isFree] using this
theorem lowOf_not {L : List Pl} (h : ∀ (j : Nat) (q : Pl), L[j]? = some q → q.value ≠ 0) : lowOf L = L.length := by
  unfold lowOf
  rw [List.findIdx_eq_length]
  intro p hp
  obtain ⟨j, hj⟩ := List.getElem?_of_mem hp
  have := h j p hj
  simpa [isFree] using this
theorem valS_pos (k : Nat) (d : Int) : 3 ≤ valS k d := by
  unfold valS
  have := Int.emod_nonneg d (b := 65536) (by decide)
  omega

theorem TOK.new (cap : Nat) (h : cap ≤ 65536) : TOK cap [] [] := ⟨h, Nat.zero_le _, by simp, by simp, isHeap_nil, by simp⟩

theorem low_full {cap : Nat} {ps : List Pl} (ok : TOK cap ps []) (h : ps.length = cap) : lowOf (padL cap ps) = cap := by
  have h1 : (padL cap ps).length = cap := padL_len ok.len
  have h2 : lowOf (padL cap ps) = (padL cap ps).length := lowOf_not (fun j q hj h0 => by
    have hlt := (List.getElem?_eq_some_iff.1 hj).1
    rw [padL_low (by omega)] at hj
    have := (ok.free j).2 ⟨q, hj, h0⟩
    simp at this)
  rw [h2, h1]
theorem low_new {cap : Nat} {ps : List Pl} (ok : TOK cap ps []) (h : ps.length < cap) : lowOf (padL cap ps) = ps.length := by
  refine lowOf_is (padL_high (Nat.le_refl _) h) rfl ?_
  intro j q hj hq h0
  rw [padL_low hj] at hq
  have := (ok.free j).2 ⟨q, hq, h0⟩
  simp at this
theorem heap_low {l : List Nat} (h : IsHeap l) : ∀ k ∈ l, l.getD 0 0 ≤ k := by
  intro k hk
  obtain ⟨i, hi⟩ := List.getElem?_of_mem hk
  have hlt := (List.getElem?_eq_some_iff.1 hi).1
  have := heap_min h i hlt
  simp only [List.getD, hi, Option.getD_some] at this
  simpa [List.getD] using this
theorem low_freed {cap : Nat} {ps : List Pl} {fr : List Nat} (ok : TOK cap ps fr) (h : 0 < fr.length) : lowOf (padL cap ps) = fr.getD 0 0 ∧ fr.getD 0 0 < ps.length := by
  have hm : fr.getD 0 0 ∈ fr := by
    cases fr with
    | nil => simp at h
    | cons x l => simp [List.getD]
  obtain ⟨p, hp, h0⟩ := (ok.free _).1 hm
  have hlt := (List.getElem?_eq_some_iff.1 hp).1
  refine ⟨lowOf_is (by rw [padL_low hlt]; exact hp) h0 ?_, hlt⟩
  intro j q hj hq hq0
  rw [padL_low (by omega)] at hq
  have := heap_low ok.heap j ((ok.free j).2 ⟨q, hq, hq0⟩)
  omega

theorem ok_new {cap : Nat} {ps : List Pl} {p : Pl} {d : Int} (ok : TOK cap ps []) (h : ps.length < cap) (hp : p.value = valS ps.length d) : TOK cap ((ps ++ [Pl.none]).set ps.length p) [] := by
  have h3 := valS_pos ps.length d
  have hat : ∀ k q, ((ps ++ [Pl.none]).set ps.length p)[k]? = some q → ps[k]? = some q ∨ (k = ps.length ∧ q = p) := by
    intro k q hq
    rw [List.set_append_right _ _ (Nat.le_refl _)] at hq
    simp at hq
    by_cases hk : k < ps.length
    · rw [List.getElem?_append_left hk] at hq; exact .inl hq
    · rw [List.getElem?_append_right (by omega)] at hq
      right
      by_cases e : k = ps.length
      · subst e; simp at hq; exact ⟨rfl, hq.symm⟩
      · rw [List.getElem?_eq_none (by simp; omega)] at hq; simp at hq
  refine ⟨ok.top, by simp; omega, ?_, by simp, isHeap_nil, ?_⟩
  · intro k
    simp only [List.not_mem_nil, false_iff]
    rintro ⟨q, hq, h0⟩
    rcases hat k q hq with h1 | ⟨rfl, rfl⟩
    · have := (ok.free k).2 ⟨q, h1, h0⟩; simp at this
    · omega
  · intro k q hq
    rcases hat k q hq with h1 | ⟨rfl, rfl⟩
    · exact ok.vals k q h1
    · exact .inr ⟨d, hp⟩
theorem ok_freed {cap : Nat} {ps : List Pl} {fr fr' : List Nat} {k : Nat} {p : Pl} {d : Int} (ok : TOK cap ps fr) (hf : (fr' ++ [k]).Perm fr) (hh : IsHeap fr') (hp : p.value = valS k d) : TOK cap (ps.set k p) fr' := by
  have h3 := valS_pos k d
  have hn := (List.Perm.nodup_iff hf).2 ok.once
  have hmem : ∀ j, j ∈ fr ↔ j ∈ fr' ∨ j = k := fun j => by rw [← List.Perm.mem_iff hf]; simp
  have hkn : k ∉ fr' := by
    intro hk
    rw [List.nodup_append] at hn
    exact hn.2.2 k hk k (by simp) rfl
  refine ⟨ok.top, by simpa using ok.len, ?_, (List.nodup_append.1 hn).1, hh, ?_⟩
  · intro j
    by_cases e : k = j
    · subst e
      constructor
      · intro hj; exact absurd hj hkn
      · rintro ⟨q, hq, h0⟩
        rw [List.getElem?_set] at hq
        simp at hq
        obtain ⟨_, rfl⟩ := hq
        omega
    · rw [List.getElem?_set_ne e]
      have h1 := hmem j
      have h2 := ok.free j
      constructor
      · intro hj; exact h2.1 (h1.2 (.inl hj))
      · intro hj
        rcases h1.1 (h2.2 hj) with h4 | h4
        · exact h4
        · exact absurd h4.symm e
  · intro j q hq
    by_cases e : k = j
    · subst e
      rw [List.getElem?_set] at hq
      simp at hq
      obtain ⟨_, rfl⟩ := hq
      exact .inr ⟨d, hp⟩
    · rw [List.getElem?_set_ne e] at hq
      exact ok.vals j q hq
/-- A place that was taken becomes free. -/
theorem ok_close {cap : Nat} {ps : List Pl} {fr fr' : List Nat} {k : Nat} {p : Pl} (ok : TOK cap ps fr) (hk : ps[k]? = some p) (hp : p.value ≠ 0) (hf : fr'.Perm (fr ++ [k])) (hh : IsHeap fr') : TOK cap (ps.set k Pl.none) fr' := by
  have hmem : ∀ j, j ∈ fr' ↔ j ∈ fr ∨ j = k := fun j => by rw [List.Perm.mem_iff hf]; simp
  have hlt := (List.getElem?_eq_some_iff.1 hk).1
  have hkn : k ∉ fr := by
    intro h
    obtain ⟨q, hq, h0⟩ := (ok.free k).1 h
    rw [hk] at hq
    simp at hq
    subst hq
    exact hp h0
  refine ⟨ok.top, by simpa using ok.len, ?_, ?_, hh, ?_⟩
  · intro j
    by_cases e : k = j
    · subst e
      constructor
      · intro _
        exact ⟨Pl.none, by simp [hlt], rfl⟩
      · intro _; exact (hmem k).2 (.inr rfl)
    · rw [List.getElem?_set_ne e]
      have h1 := hmem j
      have h2 := ok.free j
      constructor
      · intro hj
        rcases h1.1 hj with h3 | h3
        · exact h2.1 h3
        · exact absurd h3.symm e
      · intro hj; exact h1.2 (.inl (h2.2 hj))
  · rw [List.Perm.nodup_iff hf, List.nodup_append]
    exact ⟨ok.once, by simp, fun a ha b hb => by simp at hb; subst hb; intro e; subst e; exact hkn ha⟩
  · intro j q hq
    by_cases e : k = j
    · subst e
      rw [List.getElem?_set] at hq
      simp at hq
      exact .inl hq.2.symm
    · rw [List.getElem?_set_ne e] at hq
      exact ok.vals j q hq
end Go.Proofs.Ytacdhlhkpdlekaa
