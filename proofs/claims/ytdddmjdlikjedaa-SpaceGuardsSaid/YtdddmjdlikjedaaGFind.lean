/-
  What Find and replace answer, as plain contracts. No conditions but that the pieces rise and lie in the region, and that arguments are numbers of 64 bits.
-/
import Derived.Test.YtdddmjdlikjedaaGReplace
import Derived.Test.YtdddmjdlikjedaaGSmall
namespace Go.Proofs.Ytdddmjdlikjedaa
open Go.ChangeShapes Go.WideShapes Go.ChangeAt Go.RowKit Go.Shelf

theorem from_ex {l : List Pc} {size : Int} (ok : GOK size l) (x : Int) : ∃ k, FromIs l x k := by
  have key : ∀ (m j : Nat), l.length - j = m → j ≤ l.length → (∀ (i : Nat) (p : Pc), i < j → l[i]? = some p → p.fin ≤ x) → ∃ k, FromIs l x k := by
    intro m
    induction m with
    | zero => exact fun j hm hj hl => ⟨j, hj, hl, fun i p h1 hp => by have := (List.getElem?_eq_some_iff.1 hp).1; omega⟩
    | succ m ih =>
      intro j hm hj hl
      obtain ⟨p, hp⟩ := gget_some (show j < l.length by omega)
      by_cases ho : p.fin ≤ x
      · refine ih (j + 1) (by omega) (by omega) (fun i q h1 hq => ?_)
        by_cases e : i = j
        · subst e; rw [hp] at hq; simp at hq; subst hq; exact ho
        · exact hl i q (by omega) hq
      · refine ⟨j, hj, hl, fun i q h1 hq => ?_⟩
        by_cases e : i = j
        · subst e; rw [hp] at hq; simp at hq; subst hq; omega
        · have := ok.fin (show j < i by omega) hp hq
          omega
  exact key _ 0 rfl (Nat.zero_le _) (fun i p h _ => by omega)
theorem seg_any {l : List Pc} {size : Int} (ok : GOK size l) (x n : Int) : ∃ k b, SegIs l x n k b := by
  obtain ⟨k, hk⟩ := from_ex ok x
  obtain ⟨b, hb⟩ := seg_ex (n := n) hk
  exact ⟨k, b, hb⟩
/-- What stands ahead of them has none of the numbers. -/
theorem SegIs.before {l : List Pc} {x n : Int} {k b : Nat} (h : SegIs l x n k b) {j : Nat} {p : Pc} (hj : j < k) (hp : l[j]? = some p) : ¬ Ov x n p := by
  have h1 := h.from'.low j p hj hp
  unfold Ov
  omega
/-- None has some of the numbers just if there is nothing between. -/
theorem SegIs.none {l : List Pc} {size x n : Int} {k b : Nat} (h : SegIs l x n k b) (ok : GOK size l) (hb : b = k) : ∀ p ∈ l, ¬ Ov x n p := by
  intro p hp
  obtain ⟨j, hj⟩ := List.getElem?_of_mem hp
  rcases Nat.lt_or_ge j k with h1 | h1
  · exact h.before h1 hj
  · exact h.past ok (by omega) hj
theorem SegIs.some {l : List Pc} {x n : Int} {k b : Nat} (h : SegIs l x n k b) (hb : k < b) : ∃ p ∈ l, Ov x n p := by
  obtain ⟨p, hp⟩ := gget_some (show k < l.length by have := h.hi; omega)
  exact ⟨p, List.mem_of_getElem? hp, h.ov k p (Nat.le_refl _) hb hp⟩

theorem find_any {w : World} {a : Nat} {size most : Int} {v : Value} {l : List Pc} (h : GMem w a size most v l) (ok : GOK size l) (hll : l.length ≤ 65536) (x : Int) (hx : fit x) (h0 : 0 ≤ x) :
    Calls Try.prog 36 #[.pointer (some ⟨a, 0, none⟩), .int .i64 x] w fun e W' => ((∃ p, e = .returned (.tuple #[p.agg, .bool true]) ∧ HasP l x p) ∨ (e = .returned (.tuple #[Pc.zero.agg, .bool false]) ∧ ∀ p, ¬ HasP l x p)) ∧ Turn NoBlock w W' := by
  obtain ⟨k, b, hs⟩ := seg_any ok x 1
  refine (callsIn_wide.1 (find_in 4 (Nat.le_refl _) h ok hll x hx k b hs)).mono ?_
  rintro e w' ⟨hc, hb⟩
  refine ⟨hc.imp id (fun h => ⟨h.1, fun p hp => ?_⟩), turn_of_below hb⟩
  have := hs.none ok h.2 p hp.1
  unfold Ov at this
  have := hp.2
  omega
end Go.Proofs.Ytdddmjdlikjedaa
