/-
  What a law's list of numbers is. No conditions.
-/
import Derived.Test.YtdhbhigoboamfaaPView
namespace Go.Proofs.Ytdhbhigoboamfaa
open Go.ChangeShapes Go.WideShapes Go.ChangeAt Go.RowKit

theorem slice28 : Try.prog.underlying 39 = some (.slice 3) := by kernel_rfl
def NumsAt (W : World) (p : Option Addr) (len : Nat) (zs : List Int) : Prop := zs.length = len ∧ (∀ z ∈ zs, fit z) ∧ (0 < len → ∃ b off, p = some ⟨b, off, none⟩ ∧ ∀ j, j < len → W.cell? ⟨b, off + j, none⟩ = some (.int .i64 (zs.getD j 0)))
section
variable {H : Type} {enc : TypeId × Value → H} {W : World}
theorem nums_view {p : Option Addr} {len cap : Nat} {d : DataW H} {ps : List MemPlace} (h : DataW.Trod enc Try.prog W 0 (fun _ => true) true 39 (.slice p len cap) d ps) : ∃ zs, NumsAt W p len zs := by
  obtain ⟨fuel, hf⟩ := h
  simp only [Value.cells] at hf
  rcases open_ints slice28 int3 cells3 hf with ⟨hcs, hx⟩ | ⟨a, len', cap', zs, hcs, _, hl, hm, hz, hx, hcell, hwz⟩
  · simp at hcs
    obtain ⟨rfl, rfl, rfl⟩ := hcs
    exact ⟨[], rfl, by simp, fun h => by omega⟩
  · simp at hcs
    obtain ⟨rfl, rfl, rfl⟩ := hcs
    simp only [if_true] at hz
    refine ⟨zs.take len, by rw [List.length_take]; omega, fun z hm => fit_wf (hwz z (List.mem_of_mem_take hm)), fun h0 => ?_⟩
    obtain ⟨b, off, spot⟩ := a
    have hspot : spot = none := by simpa [Addr.add] using World.cell?_spot (hcell 0 (by omega))
    subst hspot
    refine ⟨b, off, rfl, fun j hj => ?_⟩
    rw [← add_plain, hcell j (by omega)]
    simp [List.getD, hj]
end

/-- The frames of PagesRoom behind some calls: the first ones are used, each with as many users as its number says; the others are none. -/
structure Ro (n : Nat) (us : List Nat) (L : List Pg) : Prop where
  len : L.length = n
  own : ∀ (j : Nat) (u : Nat), us[j]? = some u → ∃ p, L[j]? = some p ∧ p.users = u ∧ (u = 0 → p = Pg.none)
  rest : ∀ j, us.length ≤ j → j < n → L[j]? = some Pg.none
theorem Ro.start (n : Nat) : Ro n [] (List.replicate n Pg.none) := ⟨by simp, fun j u h => by simp at h, fun j _ h => by rw [List.getElem?_replicate, if_pos h]⟩
theorem Ro.low {n : Nat} {us : List Nat} {L : List Pg} (h : Ro n us L) (hu : ∀ u ∈ us, u ≠ 0) (hl : us.length ≤ n) : lowOf L = us.length := by
  have hown : ∀ (j : Nat) (q : Pg), j < us.length → L[j]? = some q → q.users ≠ 0 := fun j q hj hq => by
    obtain ⟨p, e, hp, -⟩ := h.own j us[j] (List.getElem?_eq_getElem hj)
    rw [e] at hq
    simp only [Option.some.injEq] at hq
    subst hq
    rw [hp]
    exact hu _ (List.getElem_mem hj)
  rcases Nat.lt_or_ge us.length n with h1 | h1
  · exact lowOf_is (h.rest us.length (Nat.le_refl _) h1) rfl (fun j q hj hq => hown j q hj hq)
  · have hn := h.len
    rw [lowOf_not (fun j q hq => hown j q (by have := (List.getElem?_eq_some_iff.1 hq).1; omega) hq)]
    omega
theorem Ro.push {n : Nat} {us : List Nat} {L : List Pg} (h : Ro n us L) (hl : us.length < n) (u : Nat) (B : List UInt8) (hu : u ≠ 0) : Ro n (us ++ [u]) (L.set us.length ⟨u, B⟩) := by
  have hn := h.len
  refine ⟨by simp [hn], fun j v hv => ?_, fun j a b => ?_⟩
  · by_cases e : us.length = j
    · subst e
      rw [List.getElem?_append_right (Nat.le_refl _)] at hv
      simp at hv
      subst hv
      exact ⟨_, List.getElem?_set_self (by omega), rfl, fun h => absurd h hu⟩
    · rw [List.getElem?_set_ne e]
      have hj := (List.getElem?_eq_some_iff.1 hv).1
      simp at hj
      rw [List.getElem?_append_left (by omega)] at hv
      exact h.own j v hv
  · simp at a
    rw [List.getElem?_set_ne (by omega)]
    exact h.rest j (by omega) b
theorem Ro.set {n : Nat} {us : List Nat} {L : List Pg} (h : Ro n us L) (k : Nat) (q : Pg) (hk : k < us.length) (hkn : k < n) (hq : q.users = 0 → q = Pg.none) : Ro n (us.set k q.users) (L.set k q) := by
  have hn := h.len
  refine ⟨by simp [hn], fun j v hv => ?_, fun j a b => ?_⟩
  · by_cases e : k = j
    · subst e
      rw [List.getElem?_set_self hk] at hv
      simp only [Option.some.injEq] at hv
      subst hv
      exact ⟨_, List.getElem?_set_self (by omega), rfl, hq⟩
    · rw [List.getElem?_set_ne e] at hv ⊢
      exact h.own j v hv
  · simp at a
    rw [List.getElem?_set_ne (by omega)]
    exact h.rest j a b
theorem Ro.users {n : Nat} {us : List Nat} {L : List Pg} (h : Ro n us L) (k u : Nat) (hk : us[k]? = some u) : usersL L k = u := by
  obtain ⟨p, e, hp, -⟩ := h.own k u hk
  unfold usersL
  rw [pgAt_nat, List.getD_eq_getElem?_getD, e]
  exact hp
/-- When all are released no frame is used. -/
theorem Ro.none {n : Nat} {us : List Nat} {L : List Pg} (h : Ro n us L) (h0 : ∀ u ∈ us, u = 0) : L = List.replicate n Pg.none := by
  apply List.ext_getElem?
  intro j
  rw [List.getElem?_replicate]
  by_cases hj : j < n
  · rw [if_pos hj]
    by_cases hu : j < us.length
    · obtain ⟨p, e, hp, hz⟩ := h.own j us[j] (List.getElem?_eq_getElem hu)
      rw [e, hz (h0 _ (List.getElem_mem hu))]
    · exact h.rest j (by omega) hj
  · rw [if_neg hj, List.getElem?_eq_none (by rw [h.len]; omega)]
end Go.Proofs.Ytdhbhigoboamfaa
