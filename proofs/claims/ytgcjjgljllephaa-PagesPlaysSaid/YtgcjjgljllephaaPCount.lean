/-
  How far a number of calls can come: what is used lies below it, and has at most as many users; counting the frames one after the other. No run of the program in this text.
-/
import Derived.Test.YtgcjjgljllephaaPRel
namespace Go.Proofs.Ytgcjjgljllephaa
open Go.ChangeShapes Go.WideShapes Go.ChangeAt Go.RowKit

structure Inv (i : Nat) (L : List Pg) : Prop where
  low : ∀ (j : Nat) (p : Pg), i ≤ j → L[j]? = some p → p.users = 0
  few : ∀ (j : Nat) (p : Pg), L[j]? = some p → p.users ≤ i
theorem Inv.start (cap : Nat) : Inv 0 (List.replicate cap Pg.none) := by
  constructor
  all_goals
    intro j p
    intros
    rename_i h
    rw [List.getElem?_replicate] at h
    split at h
    · simp only [Option.some.injEq] at h
      subst h
      simp [Pg.none]
    · cases h
theorem Inv.mono {i : Nat} {L : List Pg} (h : Inv i L) : Inv (i + 1) L := ⟨fun j p a b => h.low j p (by omega) b, fun j p b => by have := h.few j p b; omega⟩
theorem Inv.set {i : Nat} {L : List Pg} (h : Inv i L) (k : Nat) (q : Pg) (hk : k < i) (hq : q.users ≤ i) : Inv i (L.set k q) := by
  constructor
  · intro j p a b
    rw [List.getElem?_set_ne (by omega)] at b
    exact h.low j p a b
  · intro j p b
    by_cases e : k = j
    · subst e
      rw [List.getElem?_set] at b
      simp at b
      rw [← b.2]; exact hq
    · rw [List.getElem?_set_ne e] at b
      exact h.few j p b
theorem Inv.lowOf {i : Nat} {L : List Pg} (h : Inv i L) (hl : lowOf L < L.length) : lowOf L < i + 1 := by
  by_cases hi : i < L.length
  · have h0 := h.low i L[i] (Nat.le_refl _) (List.getElem?_eq_getElem hi)
    have : isFree L[i] = true := by unfold isFree; simp [h0]
    have h2 : L.findIdx isFree ≤ i := by
      rcases Nat.lt_or_ge i (L.findIdx isFree) with h3 | h3
      · have := List.not_of_lt_findIdx h3
        simp_all
      · exact h3
    show L.findIdx isFree < i + 1
    omega
  · omega
theorem Inv.used {i : Nat} {L : List Pg} (h : Inv i L) {f : Int} (hu : usersL L f ≠ 0) : f.toNat < i ∧ usersL L f ≤ i := by
  obtain ⟨k, p, rfl, hk, hg⟩ := pgAt_used hu
  have e : usersL L k = p.users := by unfold usersL; rw [hg]
  rw [e] at hu ⊢
  refine ⟨?_, h.few k p hk⟩
  rw [Int.toNat_natCast]
  rcases Nat.lt_or_ge k i with h1 | h1
  · exact h1
  · exact absurd (h.low k p h1 hk) hu
theorem Inv.alloc {i : Nat} {L : List Pg} (h : Inv i L) : Inv (i + 1) (allocL L) := by
  unfold allocL
  by_cases hl : Go.Proofs.Ytgcjjgljllephaa.lowOf L < L.length
  · rw [if_pos hl]; exact h.mono.set _ _ (h.lowOf hl) (by show 1 ≤ i + 1; omega)
  · rw [if_neg hl]; exact h.mono
theorem Inv.share {i : Nat} {L : List Pg} (h : Inv i L) (f : Int) : Inv (i + 1) (shareL L f) := by
  unfold shareL
  by_cases hu : usersL L f = 0
  · rw [if_pos hu]; exact h.mono
  · rw [if_neg hu]
    have := h.used hu
    exact h.mono.set _ _ (by omega) (by show _ + 1 ≤ _; omega)
theorem Inv.rel {i : Nat} {L : List Pg} (h : Inv i L) (f : Int) : Inv (i + 1) (relL L f) := by
  unfold relL
  by_cases hu : usersL L f = 0
  · rw [if_pos hu]; exact h.mono
  · rw [if_neg hu]
    have := h.used hu
    split
    · exact h.mono.set _ _ (by omega) (by show 0 ≤ _; omega)
    · exact h.mono.set _ _ (by omega) (by show usersL L f - 1 ≤ _; omega)
theorem Inv.own {i : Nat} {L : List Pg} (h : Inv i L) (f : Int) : Inv (i + 1) (ownL L f) := by
  unfold ownL
  by_cases hu : usersL L f ≤ 1
  · rw [if_pos hu]; exact h.mono
  · rw [if_neg hu]
    have := h.used (f := f) (by omega)
    by_cases hl : Go.Proofs.Ytgcjjgljllephaa.lowOf L < L.length
    · rw [if_pos hl]
      exact (h.mono.set _ _ (h.lowOf hl) (by show 1 ≤ i + 1; omega)).set _ _ (by omega) (by show usersL L f - 1 ≤ _; omega)
    · rw [if_neg hl]; exact h.mono

/-- How many of the first k frames are used. -/
def cntP (L : List Pg) (k : Nat) : Nat := usedN (L.take k)
theorem cnt_zero (L : List Pg) : cntP L 0 = 0 := rfl
theorem cnt_succ (L : List Pg) (k : Nat) : cntP L (k + 1) = if 0 < usersL L k then cntP L k + 1 else cntP L k := by
  unfold cntP usedN usersL
  rw [pgAt_nat, List.take_add_one, List.filter_append, List.length_append, List.getD_eq_getElem?_getD]
  cases h : L[k]? with
  | none => simp [Pg.none]
  | some p =>
    simp only [Option.toList, Option.getD_some]
    by_cases hp : p.users = 0
    · simp [hp]
    · rw [if_pos (by omega)]; simp [hp]
theorem cnt_all {i : Nat} {L : List Pg} (h : Inv i L) (k : Nat) (hk : i ≤ k) : cntP L k = usedN L := by
  unfold cntP usedN
  conv => rhs; rw [← List.take_append_drop k L]
  rw [List.filter_append, List.length_append]
  have : (L.drop k).filter (fun p => p.users != 0) = [] := by
    rw [List.filter_eq_nil_iff]
    intro p hp
    obtain ⟨j, hj⟩ := List.mem_iff_getElem?.1 hp
    rw [List.getElem?_drop] at hj
    have := h.low _ p (by omega) hj
    simp [this]
  rw [this]; rfl
theorem cnt_le (L : List Pg) (k : Nat) : cntP L k ≤ k := by
  unfold cntP usedN
  have h2 := List.length_filter_le (fun p : Pg => p.users != 0) (L.take k)
  have := List.length_take_le k L
  omega
theorem users_end (L : List Pg) : usersL L (L.length : Int) = 0 := by
  unfold usersL
  rw [pgAt_nat, List.getD_eq_getElem?_getD, List.getElem?_eq_none (Nat.le_refl _)]; rfl
theorem users_neg (L : List Pg) : usersL L (-1) = 0 := by unfold usersL; rw [pgAt_neg _ (by decide)]; rfl
theorem used_len (L : List Pg) : usedN L ≤ L.length := List.length_filter_le _ _
theorem alloc_len (L : List Pg) : (allocL L).length = L.length := by unfold allocL; split <;> simp
theorem share_len (L : List Pg) (f : Int) : (shareL L f).length = L.length := by unfold shareL; split <;> simp
theorem rel_len (L : List Pg) (f : Int) : (relL L f).length = L.length := by unfold relL; split <;> (try split) <;> simp
theorem own_len (L : List Pg) (f : Int) : (ownL L f).length = L.length := by unfold ownL; split <;> (try split) <;> simp
end Go.Proofs.Ytgcjjgljllephaa
