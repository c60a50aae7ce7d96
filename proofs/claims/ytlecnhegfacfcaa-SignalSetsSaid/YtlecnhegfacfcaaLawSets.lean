/-
  The statement SignalSets answers true at all sets, types and changes.
-/
import Derived.Test.YtlecnhegfacfcaaSOf
import Derived.Deep.RegionHeld3
import Derived.Deep.Light
import Derived.Deep.DeepCutAuto
namespace Go.Proofs.Ytlecnhegfacfcaa
open Go.ChangeShapes Go.WideShapes Go.ChangeAt Go.RowKit

/-- What changing makes, bit by bit. -/
theorem sets_facts (a c s : Int) (hs : fit s) :
    bits .or .i64 (bits .andNot .i64 (bits .or .i64 (bits .andNot .i64 a c) s) c) s = bits .or .i64 (bits .andNot .i64 a c) s ∧
    bits .and .i64 (bits .or .i64 (bits .andNot .i64 a c) s) s = s ∧
    bits .and .i64 (bits .or .i64 (bits .andNot .i64 a c) s) (bits .or .i64 c s) = s ∧
    bits .andNot .i64 (bits .or .i64 (bits .andNot .i64 a c) s) (bits .or .i64 c s) = bits .andNot .i64 a (bits .or .i64 c s) := by
  refine ⟨bits_ext _ _ (fit_bits _ _ _) (fit_bits _ _ _) fun i hi => ?_, bits_ext _ _ (fit_bits _ _ _) hs fun i hi => ?_, bits_ext _ _ (fit_bits _ _ _) hs fun i hi => ?_, bits_ext _ _ (fit_bits _ _ _) (fit_bits _ _ _) fun i hi => ?_⟩
  all_goals
    simp only [bit_or, bit_and, bit_andNot _ _ i hi]
    cases bitB a i <;> cases bitB c i <;> cases bitB s i <;> rfl
theorem lt_of_cell {w : World} {a : Addr} {v : Value} (h : w.cell? a = some v) : a.block < w.heap.size := by
  rcases Nat.lt_or_ge a.block w.heap.size with h' | h'
  · exact h'
  · simp [World.cell?, Array.getElem?_eq_none h'] at h
set_option maxHeartbeats 4000000 in
set_option maxRecDepth 20000 in
theorem sets_walk (k a c s : Int) (w : World) (hs : fit s) :
    Calls Try.prog 7 #[.agg #[.int .i64 k, .int .i64 a, .int .i64 c, .int .i64 s]] w fun e w' => e = .returned (.bool true) ∧ Below w.heap.size w w' := by
  have cA := awake_at w
  have c1 := change_any a k c s
  obtain ⟨W, hW⟩ : ∃ W, w.alloc (.cells #[.int .i64 k, .int .i64 a, .int .i64 c, .int .i64 s] 29) = W := ⟨_, rfl⟩
  have hb0 : Below w.heap.size w W := by rw [← hW]; exact (Below.refl _ _).alloc (Nat.le_refl _) _
  have f0 : W.cell? ⟨w.heap.size, 0, none⟩ = some (.int .i64 k) := by rw [← hW]; simp [World.cell?_alloc_new]
  have f1 : W.cell? ⟨w.heap.size, 1, none⟩ = some (.int .i64 a) := by rw [← hW]; simp [World.cell?_alloc_new]
  have f2 : W.cell? ⟨w.heap.size, 2, none⟩ = some (.int .i64 c) := by rw [← hW]; simp [World.cell?_alloc_new]
  have f3 : W.cell? ⟨w.heap.size, 3, none⟩ = some (.int .i64 s) := by rw [← hW]; simp [World.cell?_alloc_new]
  by_cases hok : okB k c s = true
  · obtain ⟨e1, e2, e3, e4⟩ := sets_facts a c s hs
    have c2 := change_any (bits .or .i64 (bits .andNot .i64 a c) s) k c s
    have hv1 : chV a k c s = bits .or .i64 (bits .andNot .i64 a c) s := by unfold chV; rw [if_pos hok]
    have hv2 : chV (bits .or .i64 (bits .andNot .i64 a c) s) k c s = bits .or .i64 (bits .andNot .i64 a c) s := by unfold chV; rw [if_pos hok, e1]
    have hst : chS k c s = 0 := by unfold chS; rw [if_pos hok]
    rw [hv1, hst] at c1
    rw [hv2, hst] at c2
    have cm := meets_any (bits .or .i64 (bits .andNot .i64 a c) s) s
    rw [e2] at cm
    clear e1 e2 hv1 hv2 hst hok hs
    generalize bits .or .i64 (bits .andNot .i64 a c) s = S at *
    generalize hX : bits .andNot .i64 a (bits .or .i64 c s) = X at e4
    generalize hB : bits .or .i64 c s = B at *
    go_enter Try.func7, Try.ntmps7
    go_upto_region 1 with (fail)
    clear hW
    generalize hg : w.heap.size = g at *
    have HG := Lib.hid hg
    clear hg
    go_upto_region 6 with (first
      | (go_at_call 17; (with_reducible refine (c1 _).mono ?_); rintro e w' ⟨rfl, rfl⟩)
      | (go_at_call 17; (with_reducible refine (c2 _).mono ?_); rintro e w' ⟨rfl, rfl⟩))
    have cB : Calls Try.prog 16 #[] W.drew fun e w' => e = .returned (.bool true) ∧ Below g w w' ∧ w'.cell? ⟨g, 3, none⟩ = some (.int .i64 s) ∧ w'.cell? ⟨g, 1, none⟩ = some (.int .i64 a) :=
      (awake_any W.drew).mono fun e w' h => by
        have hl : g < W.drew.heap.size := lt_of_cell f3
        have hd : Below g w W.drew := ⟨hb0.os, hb0.tape, hb0.output, hb0.size, hb0.block⟩
        refine ⟨h.1, hd.trans (h.2.mono (by omega)), ?_, ?_⟩
        · rw [h.2.cell (p := ⟨g, 3, none⟩) hl]; exact f3
        · rw [h.2.cell (p := ⟨g, 1, none⟩) hl]; exact f1
    clear cA hb0
    go_region_held3 (fun w' => w'.cell? ⟨g, 3, none⟩ = some (.int .i64 s) ∧ w'.cell? ⟨g, 1, none⟩ = some (.int .i64 a)) (first | exact ⟨f3, f1⟩ | exact m4) (first
      | (go_at_call 21; (with_reducible refine (cm _).mono ?_); rintro e w' ⟨rfl, rfl⟩)
      | (go_at_call 16; (with_reducible refine cB.mono ?_); rintro e w' ⟨rfl, hb, m4⟩))
    go_wp2
    go_ret
    exact ⟨rfl, by rw [HG.out]; assumption⟩
  · have hst : chS k c s = -10 := by unfold chS; rw [if_neg hok]
    rw [hst] at c1
    clear hok hs hst
    go_enter Try.func7, Try.ntmps7
    go_upto_region 1 with (fail)
    clear hW
    generalize hg : w.heap.size = g at *
    have HG := Lib.hid hg
    clear hg
    go_wp2_with (first
      | (go_at_call 17; (with_reducible refine (c1 _).mono ?_); rintro e w' ⟨rfl, rfl⟩)
      | (go_at_call 16; (with_reducible refine (cA _ (by assumption)).mono ?_); rintro e w' ⟨rfl, hb⟩))
    go_ret
    exact ⟨rfl, by rw [HG.out]; assumption⟩
end Go.Proofs.Ytlecnhegfacfcaa
