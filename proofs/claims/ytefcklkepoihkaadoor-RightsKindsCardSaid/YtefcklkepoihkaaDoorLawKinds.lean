/-
  The statement RightsKinds answers true at all numbers, where the two tables lie as they were laid.
-/
import Derived.Test.YtefcklkepoihkaaDoorLawDefaults
namespace Go.Proofs.YtefcklkepoihkaaDoor
open Go.ChangeShapes Go.WideShapes Go.ChangeAt Go.RowKit

theorem cell_next {W W' : World} {p : Addr} {v : Value} (hc : W.cell? p = some v) (hb : Below W.heap.size W W') : W'.cell? p = some v := by
  rw [hb.cell (lt_of_cell hc)]; exact hc
theorem defs_at (w : World) (hd : Defs w) (j : Nat) (h : j < 11) (W : World) (hb : Below w.heap.size w W) :
    Calls Tryd.prog 9 #[.int .i64 ((j : Int) + 1)] W fun e w' => e = .returned (.int .i64 (dflt (j + 1))) ∧ W = w' :=
  default_in (j + 1) W (by omega) (by omega) (hd.below hb)
theorem names_at (w : World) (hn : Names w) (j : Nat) (h : j < 11) (W : World) (hb : Below w.heap.size w W) :
    Calls Tryd.prog 13 #[.int .i64 ((j : Int) + 1)] W fun e w' => e = .returned (.string (nameB (j + 1))) ∧ W = w' :=
  name_in (j + 1) W (by omega) (by omega) (hn.below hb)
theorem dflt_facts (j : Nat) (h : j < 11) : ∃ d : Nat, d < 4096 ∧ dflt (j + 1) = (d : Int) ∧ hasB (dflt (j + 1)) 195 = true ∧ hasB 4095 (dflt (j + 1)) = true ∧ (nameB (j + 1)).toList.isEmpty = false := by
  have : ∀ j, j < 11 → (dflt (j + 1)).toNat < 4096 ∧ dflt (j + 1) = ((dflt (j + 1)).toNat : Int) ∧ hasB (dflt (j + 1)) 195 = true ∧ hasB 4095 (dflt (j + 1)) = true ∧ (nameB (j + 1)).data.toList.isEmpty = false := by decide +kernel
  obtain ⟨a, b, c, d, e⟩ := this j h
  exact ⟨_, a, b, c, d, by rw [ByteArray.toList_eq]; exact e⟩
set_option maxHeartbeats 4000000 in
set_option maxRecDepth 20000 in
theorem kinds_walk (a : Int) (w : World) (hd : Defs w) (hn : Names w) :
    Calls Tryd.prog 8 #[.int .i64 a] w fun e w' => e = .returned (.bool true) ∧ Below w.heap.size w w' := by
  have cA := awake_at w hd
  have c1 := kinds_at w
  have hb0 := Below.refl w.heap.size w
  by_cases h0 : a < 0
  · clear hd hn
    go_enter Tryd.func8, Tryd.ntmps8
    go_wp2_with (first
      | (go_at_call 12; (with_reducible refine (c1 _ (by assumption)).mono ?_); rintro e w' ⟨g, cap, rfl, HC, hb⟩)
      | (go_at_call 14; (with_reducible refine (cA _ (by assumption)).mono ?_); rintro e w' ⟨rfl, hb⟩))
    go_ret
    exact ⟨rfl, by assumption⟩
  · by_cases h11 : 11 ≤ a
    · clear hd hn
      go_enter Tryd.func8, Tryd.ntmps8
      go_wp2_with (first
        | (go_at_call 12; (with_reducible refine (c1 _ (by assumption)).mono ?_); rintro e w' ⟨g, cap, rfl, HC, hb⟩)
        | (go_at_call 14; (with_reducible refine (cA _ (by assumption)).mono ?_); rintro e w' ⟨rfl, hb⟩))
      go_ret
      exact ⟨rfl, by assumption⟩
    · obtain ⟨j, hj, rfl⟩ : ∃ j : Nat, j < 11 ∧ a = j := ⟨a.toNat, by omega, by omega⟩
      obtain ⟨d, hd1, hd2, hh1, hh2, hne⟩ := dflt_facts j hj
      have c2 := defs_at w hd j hj
      have c3 := names_at w hn j hj
      have c4 := text_any (dflt (j + 1))
      have c6 := has_any (dflt (j + 1)) 195
      have c7 := right_any (dflt (j + 1))
      rw [hh1] at c6
      rw [hh2] at c7
      rw [hd2] at c2 c4 c6 c7
      rw [low_nat d hd1] at c4
      have c5 := parse_any ⟨(textL d).toArray⟩ (by
        have := text_len d hd1
        simp [ByteArray.size]; omega)
      have hp := par_text d hd1
      have c5' : ∀ w, Calls Tryd.prog 25 #[.string ⟨(textL d).toArray⟩] w fun e w' => e = .returned (.tuple #[.int .i64 ((d : Nat) : Int), .int .i64 0]) ∧ Below w.heap.size w w' := fun w => by
        have := c5 w
        rw [hp.1, hp.2] at this
        exact this
      clear c5 hp hd2 hh1 hh2 hd hn hd1 h0 h11
      generalize (⟨(textL d).toArray⟩ : ByteArray) = T at c4 c5'
      generalize nameB (j + 1) = N at c3 hne
      generalize (d : Int) = D at c2 c4 c5' c6 c7
      go_enter Tryd.func8, Tryd.ntmps8
      go_wp2_with (first
        | (go_at_call 12; (with_reducible refine (c1 _ (by assumption)).mono ?_); rintro e W1 ⟨g, cap, rfl, HC, hb1⟩; have hc1 := HC.out j hj)
        | (go_at_call 9; (with_reducible refine (c2 _ hb1).mono ?_); rintro e w' ⟨rfl, rfl⟩)
        | (go_at_call 23; (with_reducible refine (c4 _).mono ?_); rintro e W2 ⟨rfl, hb2⟩; have hc2 := cell_next hc1 hb2; have hB2 := hb1.trans (hb2.mono hb1.size))
        | (go_at_call 25; (with_reducible refine (c5' _).mono ?_); rintro e W3 ⟨rfl, hb3⟩; have hc3 := cell_next hc2 hb3; have hB3 := hB2.trans (hb3.mono hB2.size))
        | (go_at_call 20; (with_reducible refine (c6 _).mono ?_); rintro e w' ⟨rfl, rfl⟩)
        | (go_at_call 11; (with_reducible refine (c7 _).mono ?_); rintro e w' ⟨rfl, rfl⟩)
        | (go_at_call 13; (with_reducible refine (c3 _ hB3).mono ?_); rintro e w' ⟨rfl, rfl⟩)
        | (go_at_call 14; (with_reducible refine (cA _ hB3).mono ?_); rintro e w' ⟨rfl, hb⟩))
      go_ret
      exact ⟨rfl, by assumption⟩
end Go.Proofs.YtefcklkepoihkaaDoor
