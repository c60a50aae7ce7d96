/-
  RegionPlaces' second loop, as plain data: the run of free cells and the least window.
-/
import Derived.Test.YtdddmjdlikjedaaGState
namespace Go.Proofs.Ytdddmjdlikjedaa
open Go.ChangeShapes Go.WideShapes Go.ChangeAt Go.RowKit

/-- Cell i of 64 numbers is free. -/
def FC (l : List Pc) (i : Nat) : Prop := Free l (64 * (i : Int))
/-- Behind k rounds: r cells that are free run up to here; L: where the least window of m begins, or -1. -/
structure RunIs (l : List Pc) (m k r : Nat) (L : Int) : Prop where
  le : r ≤ k
  fr : ∀ i, k ≤ i + r → i < k → FC l i
  st : ∀ j, j + r + 1 = k → ¬ FC l j
  win : (L = -1 ∧ r < m ∧ ∀ s, s + m ≤ k → ∃ i, s ≤ i ∧ i < s + m ∧ ¬ FC l i) ∨ (∃ s : Nat, L = 64 * (s : Int) ∧ s + m ≤ k ∧ (∀ i, s ≤ i → i < s + m → FC l i) ∧ ∀ s', s' < s → ∃ i, s' ≤ i ∧ i < s' + m ∧ ¬ FC l i)
section
variable {l : List Pc} {m k r : Nat} {L : Int}
theorem RunIs.zero (hm : 0 < m) : RunIs l m 0 0 (-1) := ⟨Nat.le_refl _, fun i _ h => by omega, fun j h => by omega, .inl ⟨rfl, hm, fun s h => by omega⟩⟩
theorem RunIs.hit (h : RunIs l m k r L) (hm : 0 < m) (hk : ¬ FC l k) : RunIs l m (k + 1) 0 L := by
  refine ⟨by omega, fun i h1 h2 => by omega, fun j hj => ?_, ?_⟩
  · obtain rfl : j = k := by omega
    exact hk
  · rcases h.win with ⟨h1, h2, h3⟩ | ⟨s, h1, h2, h3, h4⟩
    · refine .inl ⟨h1, hm, fun s hs => ?_⟩
      by_cases e : s + m ≤ k
      · exact h3 s e
      · exact ⟨k, by omega, by omega, hk⟩
    · exact .inr ⟨s, h1, by omega, h3, h4⟩
/-- A free cell, and the window is not full (or one is there already). -/
theorem RunIs.free (h : RunIs l m k r L) (hk : FC l k) (hn : 0 ≤ L ∨ r + 1 < m) : RunIs l m (k + 1) (r + 1) L := by
  have hle := h.le
  refine ⟨by omega, fun i h1 h2 => ?_, fun j hj => h.st j (by omega), ?_⟩
  · by_cases e : i = k
    · subst e; exact hk
    · exact h.fr i (by omega) (by omega)
  · rcases h.win with ⟨h1, h2, h3⟩ | ⟨s, h1, h2, h3, h4⟩
    · have hn' : r + 1 < m := by rcases hn with e | e; omega; exact e
      refine .inl ⟨h1, hn', fun s hs => ?_⟩
      by_cases e : s + m ≤ k
      · exact h3 s e
      · exact ⟨k - r - 1, by omega, by omega, h.st _ (by omega)⟩
    · exact .inr ⟨s, h1, by omega, h3, h4⟩
/-- A free cell that makes the first window. -/
theorem RunIs.full (h : RunIs l m k r (-1)) (hk : FC l k) (hn : r + 1 = m) : RunIs l m (k + 1) (r + 1) (64 * ((k : Int) + 1) - 64 * (m : Int)) := by
  have hle := h.le
  refine ⟨by omega, fun i h1 h2 => ?_, fun j hj => h.st j (by omega), .inr ⟨k + 1 - m, by omega, by omega, fun i h1 h2 => ?_, fun s' hs' => ?_⟩⟩
  · by_cases e : i = k
    · subst e; exact hk
    · exact h.fr i (by omega) (by omega)
  · by_cases e : i = k
    · subst e; exact hk
    · exact h.fr i (by omega) (by omega)
  · rcases h.win with ⟨_, _, h3⟩ | ⟨s, h1, _⟩
    · exact h3 s' (by omega)
    · omega
end
/-- A number is free if its cell is. -/
theorem free_cell {l : List Pc} {size : Int} (ok : GOK size l) {x : Int} {i : Nat} (h1 : 64 * (i : Int) ≤ x) (h2 : x < 64 * (i : Int) + 64) : Free l x ↔ FC l i := by
  have key : ∀ (y z : Int), 64 * (i : Int) ≤ y → y < 64 * (i : Int) + 64 → 64 * (i : Int) ≤ z → z < 64 * (i : Int) + 64 → Free l y → Free l z := fun y z a1 a2 b1 b2 hy p hp => by
    have h3 := (ok.each p hp.1).1
    have h4 := hp.2
    refine hy p ⟨hp.1, ?_, ?_⟩
    · omega
    · unfold Pc.fin at *
      omega
  exact ⟨key x _ h1 h2 (by omega) (by omega), key _ x (by omega) (by omega) h1 h2⟩
/-- The two ways to the least window agree. -/
theorem run_win {l : List Pc} {m : Nat} {n : Int} {r : Nat} {L : Int} {e : Ending} {N : Nat} (ok : GOK (64 * (N : Int)) l) (hm : 0 < m) (hn : n = 64 * (m : Int)) (h : PlaceIs l (64 * (N : Int)) n e) (hr : RunIs l m N r L) :
    (L = -1 ∧ e = .returned (.tuple #[.int .i64 0, .int .i64 (-4)])) ∨ (0 ≤ L ∧ L + n ≤ 64 * (N : Int) ∧ L % 64 = 0 ∧ e = .returned (.tuple #[.int .i64 L, .int .i64 0]) ∧ ∀ x, L ≤ x → x < L + n → Free l x) := by
  have cellOf : ∀ x : Int, 0 ≤ x → ∃ i : Nat, 64 * (i : Int) ≤ x ∧ x < 64 * (i : Int) + 64 := fun x hx => ⟨(x / 64).toNat, by omega, by omega⟩
  rcases place_win ok (by omega) h with ⟨at', he, b0, b1, b2, b3⟩ | ⟨he, b1⟩
  · rcases hr.win with ⟨h1, h2, h3⟩ | ⟨s, h1, h2, h3, h4⟩
    · exfalso
      -- the window's first whole cell
      obtain ⟨i, c1, c2⟩ := cellOf at' b0
      by_cases ha : at' % 64 = 0
      · obtain ⟨j, d1, d2, d3⟩ := h3 i (by omega)
        exact d3 (b2 _ (by omega) (by omega))
      · -- a window that begins ahead of at' within its cell is free too
        obtain ⟨x, d1, d2, d3⟩ := b3 (64 * (i : Int)) (by omega) (by omega)
        obtain ⟨j, f1, f2⟩ := cellOf x (by omega)
        refine d3 ((free_cell ok f1 f2).2 ?_)
        by_cases hj : at' ≤ 64 * (j : Int)
        · exact b2 _ hj (by omega)
        · obtain rfl : j = i := by omega
          exact (free_cell ok c1 c2).1 (b2 at' (by omega) (by omega))
    · have hF : ∀ x, L ≤ x → x < L + n → Free l x := fun x hx hx2 => by
        obtain ⟨j, f1, f2⟩ := cellOf x (by omega)
        exact (free_cell ok f1 f2).2 (h3 j (by omega) (by omega))
      have hle : at' ≤ L := by
        rcases (by omega : L < at' ∨ at' ≤ L) with hh | hh
        · obtain ⟨x, d1, d2, d3⟩ := b3 L (by omega) hh
          exact absurd (hF x d1 d2) d3
        · exact hh
      have hge : L ≤ at' := by
        rcases (by omega : at' < L ∨ L ≤ at') with hh | hh
        · obtain ⟨i, c1, c2⟩ := cellOf at' b0
          obtain ⟨j, d1, d2, d3⟩ := h4 i (by omega)
          refine absurd ?_ d3
          by_cases hj : at' ≤ 64 * (j : Int)
          · exact b2 _ hj (by omega)
          · obtain rfl : j = i := by omega
            exact (free_cell ok c1 c2).1 (b2 at' (by omega) (by omega))
        · exact hh
      obtain rfl : at' = L := by omega
      exact .inr ⟨b0, b1, by omega, he, hF⟩
  · rcases hr.win with ⟨h1, h2, h3⟩ | ⟨s, h1, h2, h3, h4⟩
    · exact .inl ⟨h1, he⟩
    · exfalso
      obtain ⟨x, d1, d2, d3⟩ := b1 (64 * (s : Int)) (by omega) (by omega)
      obtain ⟨j, f1, f2⟩ := cellOf x (by omega)
      exact d3 ((free_cell ok f1 f2).2 (h3 j (by omega) (by omega)))
end Go.Proofs.Ytdddmjdlikjedaa
