/-
  What each call of lists answers, and what it makes of the queues, as plain data. No walk, no conditions.
-/
import Derived.Test.YtpfoleaampcibaaMem
namespace Go.Proofs.Ytpfoleaampcibaa
open Go.RowKit

def whereOf (k : Nat) (L : Nat → List Nat) (x : Nat) : Int :=
  match (List.range k).find? (fun q => (L q).contains x) with
  | some q => q
  | none => -1
def whereAt (n k : Nat) (L : Nat → List Nat) (x : Int) : Int := if 0 ≤ x ∧ x < n then whereOf k L x.toNat else -1
def inQ (k : Nat) (q : Int) : Prop := 0 ≤ q ∧ q < k
instance (k : Nat) (q : Int) : Decidable (inQ k q) := inferInstanceAs (Decidable (0 ≤ q ∧ q < (k : Int)))
def listOf (k : Nat) (L : Nat → List Nat) (q : Int) : List Nat := if inQ k q then L q.toNat else []
def putS (n k : Nat) (L : Nat → List Nat) (q x : Int) : Int := if inQ k q ∧ inQ n x then (if whereOf k L x.toNat = -1 then 0 else -26) else -14
def pushL (n k : Nat) (L : Nat → List Nat) (q x : Int) : Nat → List Nat := if putS n k L q x = 0 then upd L q.toNat (L q.toNat ++ [x.toNat]) else L
def frontL (n k : Nat) (L : Nat → List Nat) (q x : Int) : Nat → List Nat := if putS n k L q x = 0 then upd L q.toNat (x.toNat :: L q.toNat) else L
def remS (n k : Nat) (L : Nat → List Nat) (x : Int) : Int := if inQ n x then (if whereOf k L x.toNat = -1 then -25 else 0) else -14
def remL (n k : Nat) (L : Nat → List Nat) (x : Int) : Nat → List Nat :=
  if remS n k L x = 0 then upd L (whereOf k L x.toNat).toNat ((L (whereOf k L x.toNat).toNat).erase x.toNat) else L
def popS (k : Nat) (L : Nat → List Nat) (q : Int) : Int := if inQ k q then (if L q.toNat = [] then -25 else 0) else -14
def popI (k : Nat) (L : Nat → List Nat) (q : Int) : Nat := (listOf k L q).headD 0
def popL (k : Nat) (L : Nat → List Nat) (q : Int) : Nat → List Nat := if popS k L q = 0 then upd L q.toNat (L q.toNat).tail else L
def splS (k : Nat) (q g : Int) : Int := if inQ k q ∧ inQ k g ∧ q ≠ g then 0 else -14
def splL (k : Nat) (L : Nat → List Nat) (q g : Int) : Nat → List Nat := if splS k q g = 0 then upd (upd L q.toNat (L q.toNat ++ L g.toNat)) g.toNat [] else L
def firstOf (k : Nat) (L : Nat → List Nat) (q : Int) : Int := match listOf k L q with | [] => -1 | x :: _ => x

theorem upd_self {α : Type} (f : Nat → α) (i : Nat) : upd f i (f i) = f := by
  funext j
  unfold upd
  split
  · rename_i h; rw [h]
  · rfl

theorem Rep.where_of {r : Raw} {L : Nat → List Nat} (h : Rep r L) {x : Nat} (hx : x < r.items) : r.Q x = whereOf r.queues L x := by
  unfold whereOf
  cases hf : (List.range r.queues).find? (fun q => (L q).contains x) with
  | none =>
    rw [List.find?_eq_none] at hf
    rcases h.out x hx with h1 | ⟨q, h1, h2, h3⟩
    · exact h1
    · exact absurd (by simpa using h3) (hf q (List.mem_range.2 h1))
  | some q =>
    have h1 := List.find?_some hf
    have h2 := List.mem_range.1 (List.mem_of_find?_eq_some hf)
    exact (h.inn q h2 x (by simpa using h1)).2

theorem where_some {k : Nat} {L : Nat → List Nat} {x : Nat} (h : whereOf k L x ≠ -1) : ∃ q, q < k ∧ whereOf k L x = (q : Int) ∧ x ∈ L q := by
  unfold whereOf at h ⊢
  cases hf : (List.range k).find? (fun q => (L q).contains x) with
  | none => rw [hf] at h; simp at h
  | some q => exact ⟨q, List.mem_range.1 (List.mem_of_find?_eq_some hf), rfl, by simpa using List.find?_some hf⟩
theorem where_none {k : Nat} {L : Nat → List Nat} {x : Nat} (h : whereOf k L x = -1) {q : Nat} (hq : q < k) : x ∉ L q := by
  unfold whereOf at h
  cases hf : (List.range k).find? (fun q => (L q).contains x) with
  | none =>
    rw [List.find?_eq_none] at hf
    have := hf q (List.mem_range.2 hq)
    simpa using this
  | some q => rw [hf] at h; simp at h

theorem inQ_nat {k : Nat} {q : Int} (h : inQ k q) : ∃ j : Nat, q = j ∧ j < k := ⟨q.toNat, by have := h.1; omega, by have := h.1; have := h.2; omega⟩
theorem inQ_cast {k j : Nat} (h : j < k) : inQ k (j : Int) := ⟨by omega, by omega⟩
theorem inQ_not {k : Nat} {q : Int} (h : ¬ inQ k q) : q < 0 ∨ (k : Int) ≤ q := by unfold inQ at h; omega

end Go.Proofs.Ytpfoleaampcibaa
