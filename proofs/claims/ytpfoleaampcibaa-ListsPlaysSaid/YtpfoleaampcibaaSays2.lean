/-
  Where items stand behind a change of one queue. No walk, no conditions.
-/
import Derived.Test.YtpfoleaampcibaaSays
namespace Go.Proofs.Ytpfoleaampcibaa
open Go.RowKit

theorem where_congr {k : Nat} {L L' : Nat → List Nat} {x : Nat} (h : ∀ q, q < k → (x ∈ L q ↔ x ∈ L' q)) : whereOf k L x = whereOf k L' x := by
  unfold whereOf
  have e : (List.range k).find? (fun q => (L q).contains x) = (List.range k).find? (fun q => (L' q).contains x) := by
    have : ∀ l : List Nat, (∀ q ∈ l, q < k) → l.find? (fun q => (L q).contains x) = l.find? (fun q => (L' q).contains x) := by
      intro l
      induction l with
      | nil => intro _; rfl
      | cons q l ih =>
        intro hl
        have hq := h q (hl q (by simp))
        have hi := ih (fun y hy => hl y (by simp [hy]))
        have hb : (L q).contains x = (L' q).contains x := by
          rw [Bool.eq_iff_iff]; simpa using hq
        rw [List.find?_cons, List.find?_cons, hi, hb]
    exact this _ (fun q hq => List.mem_range.1 hq)
  rw [e]
theorem where_upd {k : Nat} {L : Nat → List Nat} {q x : Nat} {l : List Nat} (hq : q < k) (hx : whereOf k L x = -1) (hm : x ∈ l) : whereOf k (upd L q l) x = q := by
  by_cases h : whereOf k (upd L q l) x = -1
  · have := where_none h hq
    rw [upd_same] at this
    exact absurd hm this
  · obtain ⟨q', h1, h2, h3⟩ := where_some h
    by_cases e : q' = q
    · rw [h2, e]
    · rw [upd_other _ _ e] at h3
      exact absurd h3 (where_none hx h1)
theorem where_is {k : Nat} {L : Nat → List Nat} {q x : Nat} (hq : q < k) (hm : x ∈ L q) (h1 : ∀ q', q' < k → x ∈ L q' → q' = q) : whereOf k L x = q := by
  by_cases h : whereOf k L x = -1
  · exact absurd hm (where_none h hq)
  · obtain ⟨q', h2, h3, h4⟩ := where_some h
    rw [h3, h1 q' h2 h4]
theorem where_not {k : Nat} {L : Nat → List Nat} {x : Nat} (h1 : ∀ q', q' < k → x ∉ L q') : whereOf k L x = -1 := by
  by_cases h : whereOf k L x = -1
  · exact h
  · obtain ⟨q', h2, h3, h4⟩ := where_some h
    exact absurd h4 (h1 q' h2)

theorem putS_ok {n k : Nat} {L : Nat → List Nat} {q x : Int} (h : putS n k L q x = 0) : inQ k q ∧ inQ n x ∧ whereOf k L x.toNat = -1 := by
  unfold putS at h
  split at h
  · rename_i h1
    split at h
    · rename_i h2; exact ⟨h1.1, h1.2, h2⟩
    · omega
  · omega
theorem putS_nat {n k : Nat} {L : Nat → List Nat} {q x : Nat} (hq : q < k) (hx : x < n) (h : whereOf k L x = -1) : putS n k L q x = 0 := by
  unfold putS
  rw [if_pos ⟨inQ_cast hq, inQ_cast hx⟩, Int.toNat_natCast, if_pos h]
/-- Behind a Push it stands there, and can be put nowhere. -/
theorem push_where {n k : Nat} {L : Nat → List Nat} {q x : Int} (h : putS n k L q x = 0) : whereAt n k (pushL n k L q x) x = q ∧ putS n k (pushL n k L q x) q x = -26 := by
  obtain ⟨h1, h2, h3⟩ := putS_ok h
  obtain ⟨i, rfl, hi⟩ := inQ_nat h1
  obtain ⟨j, rfl, hj⟩ := inQ_nat h2
  unfold pushL
  rw [if_pos h]
  simp only [Int.toNat_natCast] at h3 ⊢
  have hw := where_upd (l := L i ++ [j]) hi h3 (by simp)
  refine ⟨?_, ?_⟩
  · unfold whereAt
    rw [if_pos ⟨h2.1, h2.2⟩, Int.toNat_natCast, hw]
  · unfold putS
    rw [if_pos ⟨h1, h2⟩, Int.toNat_natCast, hw, if_neg (by omega)]

end Go.Proofs.Ytpfoleaampcibaa
