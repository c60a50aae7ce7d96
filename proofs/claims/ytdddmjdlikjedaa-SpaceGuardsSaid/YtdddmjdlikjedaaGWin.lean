/-
  What Place answers, as windows of free numbers.
-/
import Derived.Test.YtdddmjdlikjedaaGModel
namespace Go.Proofs.Ytdddmjdlikjedaa
open Go.ChangeShapes Go.WideShapes Go.ChangeAt Go.RowKit

def Free (l : List Pc) (x : Int) : Prop := ∀ p, ¬ HasP l x p
/-- What ends ahead of a place that gaps below n lie before: no window begins ahead of it. -/
theorem no_window {l : List Pc} {size n : Int} (ok : GOK size l) (hn : 0 < n) (m : Nat) (hg : ∀ (j : Nat) (q : Pc), j < m → l[j]? = some q → q.at' - atK l j < n) (s : Int) (h0 : 0 ≤ s) (hs : ∃ (i : Nat) (p : Pc), i < m ∧ l[i]? = some p ∧ s < p.fin) : ∃ x, s ≤ x ∧ x < s + n ∧ ¬ Free l x := by
  obtain ⟨i, p, h1, h2, h3⟩ := hs
  obtain ⟨j, hj⟩ := from_ex ok s
  have hji : j ≤ i := by
    rcases Nat.lt_or_ge i j with h | h
    · have := hj.low i p h h2; omega
    · exact h
  obtain ⟨q, hq⟩ := gget_some (show j < l.length by have := (List.getElem?_eq_some_iff.1 h2).1; omega)
  have q1 := hj.high j q (Nat.le_refl _) hq
  have q2 := hg j q (by omega) hq
  have q3 : atK l j ≤ s := by
    cases j with
    | zero => exact h0
    | succ j =>
      obtain ⟨r, hr⟩ := gget_some (show j < l.length by have := hj.le; omega)
      rw [atK_succ hr]
      exact hj.low j r (Nat.lt_succ_self _) hr
  have q4 := (ok.each q (List.mem_of_getElem? hq)).1
  refine ⟨max s q.at', by omega, by omega, fun hf => hf q ⟨List.mem_of_getElem? hq, by omega, ?_⟩⟩
  unfold Pc.fin at *
  omega
/-- Behind what ends at a place and ahead of the next one all is free. -/
theorem free_gap {l : List Pc} {size : Int} (ok : GOK size l) (k : Nat) (hk : k ≤ l.length) (x : Int) (h0 : atK l k ≤ x) (h1 : ∀ p, l[k]? = some p → x < p.at') : Free l x := by
  rintro q ⟨hm, h2, h3⟩
  obtain ⟨j, hj⟩ := List.getElem?_of_mem hm
  rcases Nat.lt_or_ge j k with h | h
  · cases k with
    | zero => omega
    | succ k =>
      obtain ⟨r, hr⟩ := gget_some (show k < l.length by omega)
      rw [atK_succ hr] at h0
      rcases Nat.lt_or_ge j k with h4 | h4
      · have := ok.fin h4 hj hr; omega
      · obtain rfl : j = k := by omega
        rw [hj] at hr
        simp only [Option.some.injEq] at hr
        subst hr
        omega
  · obtain ⟨r, hr⟩ := gget_some (show k < l.length by have := (List.getElem?_eq_some_iff.1 hj).1; omega)
    have h4 := h1 r hr
    rcases Nat.lt_or_ge k j with h5 | h5
    · have h6 := rise_at ok.rise h5 hr hj
      have h7 := (ok.each r (List.mem_of_getElem? hr)).1
      unfold Pc.fin at *
      omega
    · obtain rfl : j = k := by omega
      rw [hj] at hr
      simp only [Option.some.injEq] at hr
      subst hr
      omega
/-- The least window, or none. -/
theorem place_win {l : List Pc} {size n : Int} {e : Ending} (ok : GOK size l) (hn : 0 < n) (h : PlaceIs l size n e) :
    (∃ at', e = .returned (.tuple #[.int .i64 at', .int .i64 0]) ∧ 0 ≤ at' ∧ at' + n ≤ size ∧ (∀ x, at' ≤ x → x < at' + n → Free l x) ∧ ∀ s, 0 ≤ s → s < at' → ∃ x, s ≤ x ∧ x < s + n ∧ ¬ Free l x) ∨
    (e = .returned (.tuple #[.int .i64 0, .int .i64 (-4)]) ∧ ∀ s, 0 ≤ s → s + n ≤ size → ∃ x, s ≤ x ∧ x < s + n ∧ ¬ Free l x) := by
  have hlast : ∀ k, k ≤ l.length → ∀ s : Int, 0 ≤ s → s < atK l k → ∃ (i : Nat) (p : Pc), i < k ∧ l[i]? = some p ∧ s < p.fin := fun k hk s h0 hs => by
    cases k with
    | zero => simp [atK] at hs; omega
    | succ k =>
      obtain ⟨r, hr⟩ := gget_some (show k < l.length by omega)
      rw [atK_succ hr] at hs
      exact ⟨k, r, Nat.lt_succ_self _, hr, hs⟩
  rcases h with ⟨k, p, hp, h1, h2, rfl⟩ | ⟨h1, ⟨h2, rfl⟩ | ⟨h2, rfl⟩⟩
  · have hk := (List.getElem?_eq_some_iff.1 hp).1
    have h3 := atK_bd ok k
    have h4 := (ok.each p (List.mem_of_getElem? hp)).1
    refine .inl ⟨_, rfl, h3.1, by unfold Pc.fin at *; omega, fun x hx hx2 => free_gap ok k (by omega) x hx (fun q hq => ?_), fun s h0 hs => no_window ok hn k h1 s h0 (hlast k (by omega) s h0 hs)⟩
    rw [hp] at hq
    simp only [Option.some.injEq] at hq
    subst hq
    omega
  · refine .inr ⟨rfl, fun s h0 hs => no_window ok hn l.length (fun j q _ hq => h1 j q hq) s h0 (hlast _ (Nat.le_refl _) s h0 (by omega))⟩
  · have h3 := atK_bd ok l.length
    exact .inl ⟨_, rfl, h3.1, by omega, fun x hx hx2 => free_gap ok _ (Nat.le_refl _) x hx (fun q hq => by simp at hq), fun s h0 hs => no_window ok hn l.length (fun j q _ hq => h1 j q hq) s h0 (hlast _ (Nat.le_refl _) s h0 hs)⟩
end Go.Proofs.Ytdddmjdlikjedaa
