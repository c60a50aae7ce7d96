/-
  What find, Get, Find of a table answer. No conditions but that the table is one that calls can make, and that values are numbers of 64 bits.
-/
import Derived.Test.YtacdhlhkpdlekaaHAdd
import Derived.Test.YtacdhlhkpdlekaaHRights
import Derived.Laws.ResultCell
namespace Go.Proofs.Ytacdhlhkpdlekaa
open Go.ChangeShapes Go.WideShapes Go.ChangeAt Go.RowKit

/-- The place that holds an entry under a value. -/
def findL (L : List Pl) (v : Int) : Option Nat := if 0 ≤ placeS v ∧ (L.getD (placeS v).toNat Pl.none).value = v then some (placeS v).toNat else none
def findI (L : List Pl) (v : Int) : Int := match findL L v with | some k => k | none => -1
def entL (L : List Pl) (k : Nat) : Ent := (L.getD k Pl.none).e
def getE (L : List Pl) (v : Int) : Ent := match findL L v with | some k => entL L k | none => Ent.zero
def getS (L : List Pl) (v : Int) : Int := match findL L v with | some _ => 0 | none => -11

theorem placeS_cases (v : Int) : placeS v = -1 ∨ ∃ k : Nat, placeS v = k ∧ k < 65536 ∧ 0 ≤ v ∧ v % 4 = 3 := by
  unfold placeS
  by_cases h : v < 0 ∨ 68719476736 ≤ v ∨ v % 4 ≠ 3 ∨ 65536 ≤ v / 4 % 262144
  · rw [if_pos h]; exact .inl rfl
  · rw [if_neg h]
    exact .inr ⟨(v / 4 % 262144).toNat, by omega, by omega, by omega, by omega⟩

/-- What was found is a place that is taken. -/
theorem findL_some {L : List Pl} {v : Int} {k : Nat} (h : findL L v = some k) : ∃ p, L[k]? = some p ∧ p.value = v ∧ v ≠ 0 ∧ placeS v = k := by
  unfold findL at h
  split at h
  · rename_i h1
    simp at h
    subst h
    obtain ⟨h2, h3⟩ := h1
    rcases placeS_cases v with h4 | ⟨k, h4, h5, h6, h7⟩
    · omega
    · have hv : v ≠ 0 := by omega
      cases hL : L[(placeS v).toNat]? with
      | none =>
        simp [List.getD, hL] at h3
        exact absurd h3.symm (by simpa [Pl.none] using hv)
      | some p =>
        simp [List.getD, hL] at h3
        exact ⟨p, rfl, h3, hv, by omega⟩
  · simp at h

section
variable {w : World} {a cap : Nat} {vs vf : Value} {ps : List Pl} {fr : List Nat}
theorem padL_getD {k : Nat} : (padL cap ps).getD k Pl.none = ps.getD k Pl.none := by
  unfold padL
  simp only [List.getD_eq_getElem?_getD]
  by_cases h : k < ps.length
  · rw [List.getElem?_append_left h]
  · rw [List.getElem?_append_right (by omega), List.getElem?_replicate, List.getElem?_eq_none (by omega)]
    split <;> rfl

theorem find_mem (h : TMem w a vs vf cap ps fr) (hl : ps.length ≤ 65536) (v : Int) (hv : fit v) :
    Calls Try.prog 42 #[.pointer (some ⟨a, 0, none⟩), .int .i64 v] w fun e w' => e = .returned (.int .i64 (findI ps v)) ∧ w = w' := by
  have c1 := fun w => place_any v w hv
  unfold findI findL
  rcases placeS_cases v with h4 | ⟨k, h4, h5, h6, h7⟩
  · rw [h4] at c1 ⊢
    rw [if_neg (by omega)]
    obtain ⟨p, c, rfl⟩ := own_slice h.places
    have d1 := h.c1
    generalize ps.length = n at *
    clear h h4
    go_enter Try.func42, Try.ntmps42
    go_wp2_with (go_at_call 21; (with_reducible refine (c1 _).mono ?_); rintro e w1 ⟨rfl, rfl⟩)
    go_ret
    exact ⟨rfl, rfl⟩
  · rw [h4] at c1 ⊢
    by_cases hlt : k < ps.length
    · obtain ⟨p, hp⟩ : ∃ p, ps[k]? = some p := ⟨_, List.getElem?_eq_getElem hlt⟩
      obtain ⟨g, c, rfl, g1, g2, g3, g4, g5, g6, g7, g8, g9, g10⟩ := h.place hp
      have d1 := h.c1
      have hg : (ps.getD (k : Int).toNat Pl.none).value = p.value := by simp [List.getD, hp]
      rw [hg]
      by_cases he : p.value = v
      · rw [if_pos ⟨by omega, he⟩, Int.toNat_natCast]
        rw [he] at g6
        generalize ps.length = n at *
        clear h h4 hp he hg
        go_enter Try.func42, Try.ntmps42
        go_wp2_with (go_at_call 21; (with_reducible refine (c1 _).mono ?_); rintro e w1 ⟨rfl, rfl⟩)
        go_ret
        exact ⟨rfl, rfl⟩
      · rw [if_neg (fun hh => he hh.2)]
        have hb : (p.value != v) = true := by simp [he]
        generalize ps.length = n at *
        clear h h4 hp he hg
        go_enter Try.func42, Try.ntmps42
        go_wp2_with (go_at_call 21; (with_reducible refine (c1 _).mono ?_); rintro e w1 ⟨rfl, rfl⟩)
        go_ret
        exact ⟨rfl, rfl⟩
    · have hg : (ps.getD (k : Int).toNat Pl.none).value ≠ v := by
        rw [Int.toNat_natCast]
        simp only [List.getD_eq_getElem?_getD, List.getElem?_eq_none (by omega : ps.length ≤ k)]
        show (0 : Int) ≠ v
        omega
      rw [if_neg (fun hh => hg hh.2)]
      obtain ⟨p, c, rfl⟩ := own_slice h.places
      have d1 := h.c1
      generalize ps.length = n at *
      clear h h4 hg
      go_enter Try.func42, Try.ntmps42
      go_wp2_with (go_at_call 21; (with_reducible refine (c1 _).mono ?_); rintro e w1 ⟨rfl, rfl⟩)
      go_ret
      exact ⟨rfl, rfl⟩
theorem findL_pad (v : Int) : findL (padL cap ps) v = findL ps v := by unfold findL; rw [padL_getD]
theorem entL_pad (k : Nat) : entL (padL cap ps) k = entL ps k := by unfold entL; rw [padL_getD]

theorem get_any {F : Nat → Prop} {L : List Pl} (h : TableAt w a F L) (v : Int) (hv : fit v) :
    Calls Try.prog 23 #[.pointer (some ⟨a, 0, none⟩), .int .i64 v] w fun e w' => e = .returned (.tuple #[(getE L v).agg, .int .i64 (getS L v)]) ∧ Turn NoBlock w w' := by
  obtain ⟨vs, vf, cap, ps, fr, hM, ok, rfl, rfl⟩ := h
  have hl : ps.length ≤ 65536 := by have := ok.len; have := ok.top; omega
  have hM1 := hM.past ((Turn.refl NoBlock w).alloc (.cells #[.int .i64 0, .int .i64 0, .int .i64 0] 33))
  have c1 := find_mem hM1 hl v hv
  unfold getE getS
  rw [findL_pad]
  unfold findI at c1
  cases hf : findL ps v with
  | none =>
    rw [hf] at c1
    simp only at c1 ⊢
    clear hM hM1 hf ok
    go_enter Try.func23, Try.ntmps23
    go_wp2_with (go_at_call 42; (with_reducible refine c1.mono ?_); rintro e w1 ⟨rfl, rfl⟩)
    (try simp only [Exit.inBlock, Exit.then])
    refine bodyPost_ret (v := .tuple #[Ent.zero.agg, .int .i64 (-11)]) (by rw [results_cell_tmp rfl]; unfold Ent.agg Ent.zero; go_simp) rfl ⟨rfl, ?_⟩
    repeat' (first | exact Turn.refl _ _ | refine Turn.drew ?_ | refine Turn.alloc ?_ _ | refine Turn.setCell ?_ (.inr (by simp)) _)
  | some k =>
    rw [hf] at c1
    simp only at c1 ⊢
    obtain ⟨p, hp, -, -, -⟩ := findL_some hf
    obtain ⟨g, c, rfl, g1, g2, g3, g4, g5, g6, g7, g8, g9, g10⟩ := hM1.place hp
    have d1 := hM1.c1
    have he : entL (padL cap ps) k = p.e := by rw [entL_pad]; simp [entL, List.getD, hp]
    rw [he]
    generalize ps.length = n at *
    clear hM hM1 hf ok hp he g6
    go_enter Try.func23, Try.ntmps23
    go_wp2_with (go_at_call 42; (with_reducible refine c1.mono ?_); rintro e w1 ⟨rfl, rfl⟩)
    (try simp only [Exit.inBlock, Exit.then])
    refine bodyPost_ret (v := .tuple #[p.e.agg, .int .i64 0]) (by rw [results_cell_tmp rfl]; unfold Ent.agg; go_simp) rfl ⟨rfl, ?_⟩
    repeat' (first | exact Turn.refl _ _ | refine Turn.drew ?_ | refine Turn.alloc ?_ _ | refine Turn.setCell ?_ (.inr (by simp)) _)
end
end Go.Proofs.Ytacdhlhkpdlekaa
