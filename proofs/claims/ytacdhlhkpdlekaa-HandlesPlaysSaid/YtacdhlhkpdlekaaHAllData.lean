/-
  What closing one after the other makes of what is found and of the count, as plain data; the plain data of HandlesAll. No walk, no conditions.
-/
import Derived.Test.YtacdhlhkpdlekaaHMany2
import Derived.Test.YtacdhlhkpdlekaaHRange
import Derived.Test.YtacdhlhkpdlekaaHCount
namespace Go.Proofs.Ytacdhlhkpdlekaa
open Go.RowKit

theorem findL_zero (L : List Pl) : findL L 0 = none := by
  unfold findL
  have : placeS 0 = -1 := by unfold placeS; rw [if_pos (by omega)]
  rw [if_neg (fun h => by have := h.1; omega)]
theorem findL_close (L : List Pl) (v u : Int) : findL (closeL L v) u = if u = v then none else findL L u := by
  unfold closeL
  cases hf : findL L v with
  | none =>
    simp only
    split
    · rename_i h; rw [h]; exact hf
    · rfl
  | some k =>
    simp only
    obtain ⟨p, hp, hpv, hv0, hk⟩ := findL_some hf
    have hlt := (List.getElem?_eq_some_iff.1 hp).1
    by_cases hu : u = v
    · subst hu
      rw [if_pos rfl]
      unfold findL
      rw [hk, Int.toNat_natCast, if_neg]
      rintro ⟨-, h⟩
      simp only [List.getD, List.getElem?_set_self hlt, Option.getD_some] at h
      exact hv0 h.symm
    · rw [if_neg hu]
      unfold findL
      by_cases hq : (placeS u).toNat = k
      · rw [hq, if_neg, if_neg]
        · rintro ⟨-, h⟩
          simp only [List.getD, hp, Option.getD_some] at h
          exact hu (by rw [← h, hpv])
        · rintro ⟨h0, h⟩
          simp only [List.getD, List.getElem?_set_self hlt, Option.getD_some] at h
          have hz : u = 0 := h.symm
          rw [hz] at h0
          have : placeS 0 = -1 := by unfold placeS; rw [if_pos (by omega)]
          omega
      · have : (L.set k Pl.none).getD (placeS u).toNat Pl.none = L.getD (placeS u).toNat Pl.none := by
          simp only [List.getD, List.getElem?_set_ne (fun e => hq e.symm)]
        rw [this]
theorem findL_many (L : List Pl) (xs : List Int) (u : Int) : findL (manyL L xs) u = if u ∈ xs then none else findL L u := by
  induction xs generalizing L with
  | nil => simp [manyL]
  | cons x xs ih =>
    simp only [manyL]
    rw [ih]
    by_cases hx : x = 0
    · rw [if_pos hx]
      by_cases hu : u = x
      · have h0 : findL L u = none := by rw [hu, hx]; exact findL_zero L
        rw [h0]; simp
      · simp [hu]
    · rw [if_neg hx, findL_close]
      by_cases hu : u = x
      · simp [hu]
      · simp [hu]
theorem taken_set {L : List Pl} {k : Nat} {p : Pl} (hk : L[k]? = some p) (hp : p.value ≠ 0) : (takenL (L.set k Pl.none)).length + 1 = (takenL L).length := by
  induction L generalizing k with
  | nil => simp at hk
  | cons x l ih =>
    cases k with
    | zero =>
      simp at hk
      subst hk
      have e1 : isTaken x = true := by simp [isTaken, hp]
      have e2 : isTaken Pl.none = false := rfl
      simp [takenL, e1, e2]
    | succ k =>
      simp at hk
      have := ih hk
      simp only [List.set_cons_succ, takenL, List.filter_cons] at this ⊢
      by_cases hx : isTaken x = true
      · rw [if_pos hx, if_pos hx, List.length_cons, List.length_cons]; omega
      · rw [if_neg hx, if_neg hx]; omega
theorem taken_close (L : List Pl) (v : Int) : (takenL (closeL L v)).length + (if getS L v = 0 then 1 else 0) = (takenL L).length := by
  unfold closeL getS
  cases hf : findL L v with
  | none => rw [if_neg (by decide)]; rfl
  | some k =>
    obtain ⟨p, hp, hpv, hv0, -⟩ := findL_some hf
    rw [if_pos rfl]
    exact taken_set hp (by rw [hpv]; exact hv0)
theorem taken_many (L : List Pl) (xs : List Int) : (takenL (manyL L xs)).length + (manyE L xs).length = (takenL L).length := by
  induction xs generalizing L with
  | nil => simp [manyL, manyE]
  | cons x xs ih =>
    simp only [manyL, manyE, List.length_append]
    by_cases hx : x = 0
    · rw [if_pos hx, if_pos hx]
      have := ih L
      simp; omega
    · rw [if_neg hx, if_neg hx]
      have h1 := ih (closeL L x)
      have h2 := taken_close L x
      split at h2
      · rename_i h; rw [if_pos h]; simp; omega
      · rename_i h; rw [if_neg h]; simp; omega
theorem many_all {L : List Pl} {xs : List Int} (h : ∀ z ∈ xs, findL L z ≠ none) (hn : xs.Nodup) : (manyE L xs).length = xs.length ∧ manyS L xs 0 = 0 := by
  induction xs generalizing L with
  | nil => simp [manyE, manyS]
  | cons x xs ih =>
    have hx0 : x ≠ 0 := fun e => by have := h x (by simp); rw [e, findL_zero] at this; exact this rfl
    have hs : getS L x = 0 := by
      unfold getS
      cases hf : findL L x with
      | none => exact absurd hf (h x (by simp))
      | some k => rfl
    rw [List.nodup_cons] at hn
    have h2 : ∀ z ∈ xs, findL (closeL L x) z ≠ none := fun z hz => by
      rw [findL_close, if_neg (fun e => hn.1 (by rw [← e]; exact hz))]
      exact h z (by simp [hz])
    obtain ⟨h3, h4⟩ := ih h2 hn.2
    simp only [manyE, manyS, if_neg hx0, if_pos hs, List.length_append, List.length_cons]
    exact ⟨by simp; omega, h4⟩

/-- The law's rows. -/
def allF (j : Nat) : Pl := ⟨valS j ((j : Int) * j), j, 0, 0⟩
def allG (n : Nat) (z : Int) : Int := if 0 ≤ z ∧ z < n then valS z.toNat (z * z) else z
theorem allF_ne (j : Nat) : (allF j).value ≠ 0 := by have := valS_pos j ((j : Int) * j); show valS j ((j : Int) * j) ≠ 0; omega
section
variable {n : Nat}
theorem rng_taken {cap : Nat} {f : Nat → Pl} (hf : ∀ j, (f j).value ≠ 0) : (takenL (rngL cap n f)).length = n := by
  unfold rngL
  rw [taken_pad]
  unfold takenL
  rw [List.filter_eq_self.2]
  · simp
  · intro p hp
    rw [List.mem_map] at hp
    obtain ⟨j, -, rfl⟩ := hp
    simp [isTaken, hf j]
theorem all_found (hn : n ≤ 60) (k : Nat) (hk : k < n) : findL (rngL 64 n allF) (valS k ((k : Int) * k)) = some k := find_is (by omega) (by rw [rng_at hk]; rfl)
/-- A number that is none of the values. -/
theorem all_lost (z : Int) (h : ¬ (0 ≤ placeS z ∧ placeS z < n)) : findL (rngL 64 n allF) z = none := by
  unfold findL
  rw [if_neg]
  rintro ⟨h0, h1⟩
  have hp : n ≤ (placeS z).toNat := by omega
  unfold rngL at h1
  rw [padL_getD] at h1
  simp only [List.getD, List.getElem?_eq_none (show ((List.range n).map allF).length ≤ (placeS z).toNat by simpa using hp), Option.getD_none] at h1
  have hz : z = 0 := h1.symm
  rw [hz] at h0
  have : placeS 0 = -1 := by unfold placeS; rw [if_pos (by omega)]
  omega
theorem allG_in {z : Int} (h : 0 ≤ z ∧ z < n) : allG n z = valS z.toNat (z * z) := if_pos h
theorem allG_out {z : Int} (h : ¬ (0 ≤ z ∧ z < n)) : allG n z = z := if_neg h
/-- What the law's list may hold. -/
def AllOK (n : Nat) (zs : List Int) : Prop := ∀ z ∈ zs, (0 ≤ z ∧ z < n) ∨ ¬ (0 ≤ placeS z ∧ placeS z < n)
theorem place_allG (hn : n ≤ 60) {z : Int} (h : 0 ≤ z ∧ z < n) : placeS (allG n z) = z := by
  rw [allG_in h, place_valS _ _ (by omega)]
  omega
theorem all_mem (hn : n ≤ 60) {zs : List Int} (hok : AllOK n zs) (k : Nat) (hk : k < n) : valS k ((k : Int) * k) ∈ zs.map (allG n) ↔ (k : Int) ∈ zs := by
  rw [List.mem_map]
  constructor
  · rintro ⟨z, hz, he⟩
    have hpk : placeS (allG n z) = k := by rw [he]; exact place_valS k _ (by omega)
    by_cases h : 0 ≤ z ∧ z < n
    · rw [place_allG hn h] at hpk
      rw [← hpk]; exact hz
    · rw [allG_out h] at hpk
      rcases hok z hz with h1 | h1
      · exact absurd h1 h
      · exact absurd ⟨by omega, by omega⟩ h1
  · intro h
    exact ⟨k, h, by rw [allG_in ⟨by omega, by omega⟩]; simp⟩
def wholeB (n : Nat) (zs : List Int) : Bool := decide ((∀ z ∈ zs, 0 ≤ z ∧ z < (n : Int)) ∧ zs.Nodup)
theorem whole_each (hn : n ≤ 60) {zs : List Int} (hok : AllOK n zs) : wholeB n zs = decide ((∀ z ∈ zs.map (allG n), findL (rngL 64 n allF) z ≠ none) ∧ (zs.map (allG n)).Nodup) := by
  unfold wholeB
  rw [decide_eq_decide]
  have hf : (∀ z ∈ zs, 0 ≤ z ∧ z < (n : Int)) ↔ (∀ z ∈ zs.map (allG n), findL (rngL 64 n allF) z ≠ none) := by
    constructor
    · intro h z hz
      rw [List.mem_map] at hz
      obtain ⟨y, hy, rfl⟩ := hz
      have hy2 := h y hy
      rw [allG_in hy2]
      have := all_found hn y.toNat (by omega)
      rw [show ((y.toNat : Nat) : Int) = y by omega] at this
      rw [this]; simp
    · intro h z hz
      by_cases hy : 0 ≤ z ∧ z < (n : Int)
      · exact hy
      · have h1 := h (allG n z) (List.mem_map.2 ⟨z, hz, rfl⟩)
        rw [allG_out hy] at h1
        rcases hok z hz with h2 | h2
        · exact h2
        · exact absurd (all_lost z h2) h1
  rw [hf]
  refine and_congr_right (fun h => ?_)
  have hr := hf.2 h
  rw [List.nodup_iff_pairwise_ne, List.nodup_iff_pairwise_ne, List.pairwise_map]
  constructor
  · intro hp
    refine hp.imp_of_mem (fun {a b} ha hb hne e => hne ?_)
    have h1 := place_allG hn (hr a ha)
    have h2 := place_allG hn (hr b hb)
    rw [e, h2] at h1
    exact h1.symm
  · intro hp
    exact hp.imp (fun hne e => hne (by rw [e]))
end
end Go.Proofs.Ytacdhlhkpdlekaa
