/-
  What the reference's check and Shows answer, and what its Write and Read refuse. No conditions but that the reference's fifo is one that calls can make.
-/
import Derived.Test.YtocaebcbmfejbaaFRMod
namespace Go.Proofs.Ytocaebcbmfejbaa
open Go.ChangeShapes Go.WideShapes Go.ChangeAt Go.RowKit

theorem qcheck_bad (x : Nat) (e : Int) (w : World) (h0 : e ≠ 0) (h1 : e ≠ 1) :
    Calls Try.prog 85 #[.pointer (some ⟨x, 0, none⟩), .int .i64 e] w fun y w' => y = .returned (.int .i64 (-10)) ∧ w = w' := by
  have b0 : (e != 0) = true := bne_iff_ne.2 h0
  have b1 : (e != 1) = true := bne_iff_ne.2 h1
  go_enter Try.func85, Try.ntmps85
  go_wp2
  go_ret
  exact ⟨rfl, rfl⟩
theorem qwrite_bad (x : Nat) (e : Int) (p : Option Addr) (l ca : Nat) (w : World) (h0 : e ≠ 0) (h1 : e ≠ 1) :
    Calls Try.prog 42 #[.pointer (some ⟨x, 0, none⟩), .int .i64 e, .slice p l ca] w fun y w' => y = .returned (.tuple #[.int .i64 0, .int .i64 (-10)]) ∧ w = w' := by
  have CK := Lib.hid (qcheck_bad x e w h0 h1)
  clear h0 h1
  go_enter Try.func42, Try.ntmps42
  go_wp2_with (go_at_call 85; (with_reducible refine CK.out.mono ?_); rintro y w' ⟨rfl, rfl⟩)
  go_ret2
  exact ⟨rfl, rfl⟩
theorem qread_bad (x : Nat) (e n : Int) (w : World) (h0 : e ≠ 0) (h1 : e ≠ 1) :
    Calls Try.prog 44 #[.pointer (some ⟨x, 0, none⟩), .int .i64 e, .int .i64 n] w fun y w' => y = .returned (.tuple #[.slice none 0 0, .int .i64 (-10)]) ∧ w = w' := by
  have CK := Lib.hid (qcheck_bad x e w h0 h1)
  clear h0 h1
  go_enter Try.func44, Try.ntmps44
  go_wp2_with (go_at_call 85; (with_reducible refine CK.out.mono ?_); rintro y w' ⟨rfl, rfl⟩)
  go_ret2
  exact ⟨rfl, rfl⟩
section
variable {w : World} {x count size : Nat} {C : Nat → Bool} {U : Nat → Value} {Q : Nat → Pcs}
theorem qcheck0 (h : QAt w x count size C U Q) (b : Bool) (hc : C 0 = b) :
    Calls Try.prog 85 #[.pointer (some ⟨x, 0, none⟩), .int .i64 0] w fun y w' => y = .returned (.int .i64 (if b then -24 else 0)) ∧ w = w' := by
  have c0 : w.cell? ⟨x, 2 + 0, none⟩ = some (.bool (C 0)) := h.cc 0 (by omega)
  simp only [Nat.reduceAdd] at c0
  rw [hc] at c0
  clear h hc
  cases b
  all_goals
    go_enter Try.func85, Try.ntmps85
    go_wp2
    go_ret
    exact ⟨rfl, rfl⟩
theorem qshows0 (h : QAt w x count size C U Q) (hl0 : (Q 0).length ≤ 2000) :
    Calls Try.prog 50 #[.pointer (some ⟨x, 0, none⟩), .int .i64 0] w fun y w' => y = .returned (.int .i64 (if C 0 = true then 0 else (if (Q 0).length = 0 then 0 else 1) + (if C 1 = true then 4 else if (Q 1).length < count then 2 else 0) : Nat)) ∧ Turn NoBlock w w' := by
  have d0 : w.cell? ⟨x, 2 + 0, none⟩ = some (.bool (C 0)) := h.cc 0 (by omega)
  have d1 : w.cell? ⟨x, 2 + 1, none⟩ = some (.bool (C 1)) := h.cc 1 (by omega)
  have d2 : w.cell? ⟨x, 0, none⟩ = some (U 0) := h.cw 0 (by omega)
  have d3 : w.cell? ⟨x, 1, none⟩ = some (U 1) := h.cw 1 (by omega)
  simp only [Nat.reduceAdd] at d0 d1
  have d4 := h.c4
  obtain ⟨p0, a0, hv0⟩ := (h.row 0 (by omega)).sl
  obtain ⟨p1, a1, hv1⟩ := (h.row 1 (by omega)).sl
  rw [hv0] at d2
  rw [hv1] at d3
  have CK := Lib.hid (qcheck0 h (C 0) rfl)
  generalize (Q 0).length = m at *
  generalize (Q 1).length = n at *
  generalize C 0 = b0 at *
  generalize C 1 = b1 at *
  clear h hv0 hv1
  cases b0 with
  | true =>
    go_enter Try.func50, Try.ntmps50
    go_wp2_with (go_at_call 85; (with_reducible refine CK.out.mono ?_); rintro y w' ⟨rfl, rfl⟩)
    go_ret
    exact ⟨rfl, Turn.refl _ _⟩
  | false =>
    obtain ⟨s, hs, hsa⟩ : ∃ s : Nat, ((m = 0 ∧ s = 0) ∨ (0 < m ∧ s = 1)) ∧ (if m = 0 then 0 else 1) = s := by
      by_cases h0 : m = 0
      · exact ⟨0, .inl ⟨h0, rfl⟩, by rw [if_pos h0]⟩
      · exact ⟨1, .inr ⟨by omega, rfl⟩, by rw [if_neg h0]⟩
    rw [hsa]
    cases b1 with
    | true =>
      rcases hs with ⟨rfl, rfl⟩ | ⟨h0, rfl⟩
      all_goals
        try clear hsa
        try have h00 : (0 : Int) < m := by omega
        go_enter Try.func50, Try.ntmps50
        go_wp2_with (go_at_call 85; (with_reducible refine CK.out.mono ?_); rintro y w' ⟨rfl, rfl⟩)
        go_ret
        exact ⟨rfl, Turn.refl _ _⟩
    | false =>
      by_cases h2 : n < count
      · have h3 : (n : Int) < count := by omega
        rw [if_pos h2]
        rcases hs with ⟨rfl, rfl⟩ | ⟨h0, rfl⟩
        all_goals
          try clear hsa
          try have h00 : (0 : Int) < m := by omega
          go_enter Try.func50, Try.ntmps50
          go_wp2_with (go_at_call 85; (with_reducible refine CK.out.mono ?_); rintro y w' ⟨rfl, rfl⟩)
          go_quiet (fail)
          go_wp2
          go_ret
          exact ⟨rfl, (Turn.refl _ _).drewN _⟩
      · have h3 : ¬ (n : Int) < count := by omega
        rw [if_neg h2]
        rcases hs with ⟨rfl, rfl⟩ | ⟨h0, rfl⟩
        all_goals
          try clear hsa
          try have h00 : (0 : Int) < m := by omega
          go_enter Try.func50, Try.ntmps50
          go_wp2_with (go_at_call 85; (with_reducible refine CK.out.mono ?_); rintro y w' ⟨rfl, rfl⟩)
          go_quiet (fail)
          go_wp2
          go_ret
          exact ⟨rfl, (Turn.refl _ _).drewN _⟩
theorem qwrite_closed0 (h : QAt w x count size C U Q) (hc : C 0 = true) (p : Option Addr) (l ca : Nat) :
    Calls Try.prog 42 #[.pointer (some ⟨x, 0, none⟩), .int .i64 0, .slice p l ca] w fun y w' => y = .returned (.tuple #[.int .i64 0, .int .i64 (-24)]) ∧ w = w' := by
  have CK := Lib.hid (show Calls Try.prog 85 #[.pointer (some ⟨x, 0, none⟩), .int .i64 0] w fun y w' => y = .returned (.int .i64 (-24)) ∧ w = w' from qcheck0 h true hc)
  clear h hc
  go_enter Try.func42, Try.ntmps42
  go_wp2_with (go_at_call 85; (with_reducible refine CK.out.mono ?_); rintro y w' ⟨rfl, rfl⟩)
  go_ret2
  exact ⟨rfl, rfl⟩
theorem qwrite_size0 (h : QAt w x count size C U Q) (hc : C 0 = false) (h1 : 1 ≤ size) (p : Option Addr) (l ca : Nat) (hl : l = 0 ∨ (¬ l = 0 ∧ ¬ l % size = 0)) :
    Calls Try.prog 42 #[.pointer (some ⟨x, 0, none⟩), .int .i64 0, .slice p l ca] w fun y w' => y = .returned (.tuple #[.int .i64 0, .int .i64 (-14)]) ∧ w = w' := by
  have CK := Lib.hid (show Calls Try.prog 85 #[.pointer (some ⟨x, 0, none⟩), .int .i64 0] w fun y w' => y = .returned (.int .i64 0) ∧ w = w' from qcheck0 h false hc)
  have c5 := h.c5
  have hs0 : (size : Int) ≠ 0 := by omega
  have hs1 : ((size : Int) == 0) = false := by simpa using hs0
  have etm := tmod_nat l size
  clear h hc
  rcases hl with rfl | ⟨h2, h3⟩
  · go_enter Try.func42, Try.ntmps42
    go_wp2_with (go_at_call 85; (with_reducible refine CK.out.mono ?_); rintro y w' ⟨rfl, rfl⟩)
    go_ret2
    exact ⟨rfl, rfl⟩
  · have b1 : (((l : Nat) : Int) == 0) = false := by rw [beq_eq_false_iff_ne]; omega
    have b2 : (Int.tmod ((l : Nat) : Int) (size : Int) != 0) = true := by rw [etm]; simp; omega
    have b3 : (((l : Nat) : Int) % (size : Int) != 0) = true := by rw [← Int.natCast_emod]; simp; omega
    clear etm h2 h3
    go_enter Try.func42, Try.ntmps42
    go_wp2_with (go_at_call 85; (with_reducible refine CK.out.mono ?_); rintro y w' ⟨rfl, rfl⟩)
    go_ret2
    exact ⟨rfl, rfl⟩
theorem qwrite_no0 (h : QAt w x count size C U Q) (hc : C 0 = false) (h1 : 1 ≤ size) (p : Option Addr) (l ca : Nat) (hl : ¬ l = 0) (hm : l % size = 0) (st : Int) (hst : (st = -24 ∧ C 1 = true) ∨ (st = -22 ∧ C 1 = false ∧ (Q 1).length = count)) :
    Calls Try.prog 42 #[.pointer (some ⟨x, 0, none⟩), .int .i64 0, .slice p l ca] w fun y w' => y = .returned (.tuple #[.int .i64 0, .int .i64 st]) ∧ Turn NoBlock w w' := by
  have CK := Lib.hid (show Calls Try.prog 85 #[.pointer (some ⟨x, 0, none⟩), .int .i64 0] w fun y w' => y = .returned (.int .i64 0) ∧ w = w' from qcheck0 h false hc)
  have c5 := h.c5
  have c4 := h.c4
  have hs0 : (size : Int) ≠ 0 := by omega
  have hs1 : ((size : Int) == 0) = false := by simpa using hs0
  have etm := tmod_nat l size
  have b1 : (((l : Nat) : Int) == 0) = false := by rw [beq_eq_false_iff_ne]; omega
  have b2 : Int.tmod ((l : Nat) : Int) (size : Int) = 0 := by rw [etm]; omega
  have b3 : ((l : Nat) : Int) % (size : Int) = 0 := by rw [← Int.natCast_emod]; omega
  have d1 : w.cell? ⟨x, 2 + 1, none⟩ = some (.bool (C 1)) := h.cc 1 (by omega)
  have d3 : w.cell? ⟨x, 1, none⟩ = some (U 1) := h.cw 1 (by omega)
  simp only [Nat.reduceAdd] at d1
  obtain ⟨p1, a1, hv1⟩ := (h.row 1 (by omega)).sl
  rw [hv1] at d3
  clear etm hl hm h hc hv1
  rcases hst with ⟨rfl, h2⟩ | ⟨rfl, h2, h3⟩
  · rw [h2] at d1
    go_enter Try.func42, Try.ntmps42
    go_wp2_with (go_at_call 85; (with_reducible refine CK.out.mono ?_); rintro y w' ⟨rfl, rfl⟩)
    go_ret2
    exact ⟨rfl, Turn.refl _ _⟩
  · rw [h2] at d1
    rw [h3] at d3
    clear h2 h3
    go_enter Try.func42, Try.ntmps42
    go_wp2_with (go_at_call 85; (with_reducible refine CK.out.mono ?_); rintro y w' ⟨rfl, rfl⟩)
    go_quiet (fail)
    go_wp2
    go_ret2
    exact ⟨rfl, (Turn.refl _ _).drewN _⟩
theorem qread_no0 (h : QAt w x count size C U Q) (n : Int) (st : Int) (hst : (st = -24 ∧ C 0 = true) ∨ (st = -14 ∧ C 0 = false ∧ n < 1) ∨ (st = -24 ∧ C 0 = false ∧ 1 ≤ n ∧ (Q 0).length = 0 ∧ C 1 = true) ∨ (st = -22 ∧ C 0 = false ∧ 1 ≤ n ∧ (Q 0).length = 0 ∧ C 1 = false)) :
    Calls Try.prog 44 #[.pointer (some ⟨x, 0, none⟩), .int .i64 0, .int .i64 n] w fun y w' => y = .returned (.tuple #[.slice none 0 0, .int .i64 st]) ∧ w = w' := by
  have d1 : w.cell? ⟨x, 2 + 1, none⟩ = some (.bool (C 1)) := h.cc 1 (by omega)
  have d3 : w.cell? ⟨x, 0, none⟩ = some (U 0) := h.cw 0 (by omega)
  simp only [Nat.reduceAdd] at d1
  obtain ⟨p1, a1, hv1⟩ := (h.row 0 (by omega)).sl
  rw [hv1] at d3
  have CK := Lib.hid (qcheck0 h (C 0) rfl)
  clear h hv1
  rcases hst with ⟨rfl, h2⟩ | ⟨rfl, h2, h3⟩ | ⟨rfl, h2, h3, h4, h5⟩ | ⟨rfl, h2, h3, h4, h5⟩
  · rw [h2] at CK
    go_enter Try.func44, Try.ntmps44
    go_wp2_with (go_at_call 85; (with_reducible refine CK.out.mono ?_); rintro y w' ⟨rfl, rfl⟩)
    go_ret2
    exact ⟨rfl, rfl⟩
  · rw [h2] at CK
    go_enter Try.func44, Try.ntmps44
    go_wp2_with (go_at_call 85; (with_reducible refine CK.out.mono ?_); rintro y w' ⟨rfl, rfl⟩)
    go_ret2
    exact ⟨rfl, rfl⟩
  · rw [h2] at CK
    rw [h4] at d3
    rw [h5] at d1
    clear h2 h4 h5
    go_enter Try.func44, Try.ntmps44
    go_wp2_with (go_at_call 85; (with_reducible refine CK.out.mono ?_); rintro y w' ⟨rfl, rfl⟩)
    go_ret2
    exact ⟨rfl, rfl⟩
  · rw [h2] at CK
    rw [h4] at d3
    rw [h5] at d1
    clear h2 h4 h5
    go_enter Try.func44, Try.ntmps44
    go_wp2_with (go_at_call 85; (with_reducible refine CK.out.mono ?_); rintro y w' ⟨rfl, rfl⟩)
    go_ret2
    exact ⟨rfl, rfl⟩
theorem qcheck1 (h : QAt w x count size C U Q) (b : Bool) (hc : C 1 = b) :
    Calls Try.prog 85 #[.pointer (some ⟨x, 0, none⟩), .int .i64 1] w fun y w' => y = .returned (.int .i64 (if b then -24 else 0)) ∧ w = w' := by
  have c0 : w.cell? ⟨x, 2 + 1, none⟩ = some (.bool (C 1)) := h.cc 1 (by omega)
  simp only [Nat.reduceAdd] at c0
  rw [hc] at c0
  clear h hc
  cases b
  all_goals
    go_enter Try.func85, Try.ntmps85
    go_wp2
    go_ret
    exact ⟨rfl, rfl⟩
theorem qshows1 (h : QAt w x count size C U Q) (hl0 : (Q 1).length ≤ 2000) :
    Calls Try.prog 50 #[.pointer (some ⟨x, 0, none⟩), .int .i64 1] w fun y w' => y = .returned (.int .i64 (if C 1 = true then 0 else (if (Q 1).length = 0 then 0 else 1) + (if C 0 = true then 4 else if (Q 0).length < count then 2 else 0) : Nat)) ∧ Turn NoBlock w w' := by
  have d0 : w.cell? ⟨x, 2 + 1, none⟩ = some (.bool (C 1)) := h.cc 1 (by omega)
  have d1 : w.cell? ⟨x, 2 + 0, none⟩ = some (.bool (C 0)) := h.cc 0 (by omega)
  have d2 : w.cell? ⟨x, 1, none⟩ = some (U 1) := h.cw 1 (by omega)
  have d3 : w.cell? ⟨x, 0, none⟩ = some (U 0) := h.cw 0 (by omega)
  simp only [Nat.reduceAdd] at d0 d1
  have d4 := h.c4
  obtain ⟨p0, a0, hv0⟩ := (h.row 1 (by omega)).sl
  obtain ⟨p1, a1, hv1⟩ := (h.row 0 (by omega)).sl
  rw [hv0] at d2
  rw [hv1] at d3
  have CK := Lib.hid (qcheck1 h (C 1) rfl)
  generalize (Q 1).length = m at *
  generalize (Q 0).length = n at *
  generalize C 1 = b0 at *
  generalize C 0 = b1 at *
  clear h hv0 hv1
  cases b0 with
  | true =>
    go_enter Try.func50, Try.ntmps50
    go_wp2_with (go_at_call 85; (with_reducible refine CK.out.mono ?_); rintro y w' ⟨rfl, rfl⟩)
    go_ret
    exact ⟨rfl, Turn.refl _ _⟩
  | false =>
    obtain ⟨s, hs, hsa⟩ : ∃ s : Nat, ((m = 0 ∧ s = 0) ∨ (0 < m ∧ s = 1)) ∧ (if m = 0 then 0 else 1) = s := by
      by_cases h0 : m = 0
      · exact ⟨0, .inl ⟨h0, rfl⟩, by rw [if_pos h0]⟩
      · exact ⟨1, .inr ⟨by omega, rfl⟩, by rw [if_neg h0]⟩
    rw [hsa]
    cases b1 with
    | true =>
      rcases hs with ⟨rfl, rfl⟩ | ⟨h0, rfl⟩
      all_goals
        try clear hsa
        try have h00 : (0 : Int) < m := by omega
        go_enter Try.func50, Try.ntmps50
        go_wp2_with (go_at_call 85; (with_reducible refine CK.out.mono ?_); rintro y w' ⟨rfl, rfl⟩)
        go_ret
        exact ⟨rfl, Turn.refl _ _⟩
    | false =>
      by_cases h2 : n < count
      · have h3 : (n : Int) < count := by omega
        rw [if_pos h2]
        rcases hs with ⟨rfl, rfl⟩ | ⟨h0, rfl⟩
        all_goals
          try clear hsa
          try have h00 : (0 : Int) < m := by omega
          go_enter Try.func50, Try.ntmps50
          go_wp2_with (go_at_call 85; (with_reducible refine CK.out.mono ?_); rintro y w' ⟨rfl, rfl⟩)
          go_quiet (fail)
          go_wp2
          go_ret
          exact ⟨rfl, (Turn.refl _ _).drewN _⟩
      · have h3 : ¬ (n : Int) < count := by omega
        rw [if_neg h2]
        rcases hs with ⟨rfl, rfl⟩ | ⟨h0, rfl⟩
        all_goals
          try clear hsa
          try have h00 : (0 : Int) < m := by omega
          go_enter Try.func50, Try.ntmps50
          go_wp2_with (go_at_call 85; (with_reducible refine CK.out.mono ?_); rintro y w' ⟨rfl, rfl⟩)
          go_quiet (fail)
          go_wp2
          go_ret
          exact ⟨rfl, (Turn.refl _ _).drewN _⟩
theorem qwrite_closed1 (h : QAt w x count size C U Q) (hc : C 1 = true) (p : Option Addr) (l ca : Nat) :
    Calls Try.prog 42 #[.pointer (some ⟨x, 0, none⟩), .int .i64 1, .slice p l ca] w fun y w' => y = .returned (.tuple #[.int .i64 0, .int .i64 (-24)]) ∧ w = w' := by
  have CK := Lib.hid (show Calls Try.prog 85 #[.pointer (some ⟨x, 0, none⟩), .int .i64 1] w fun y w' => y = .returned (.int .i64 (-24)) ∧ w = w' from qcheck1 h true hc)
  clear h hc
  go_enter Try.func42, Try.ntmps42
  go_wp2_with (go_at_call 85; (with_reducible refine CK.out.mono ?_); rintro y w' ⟨rfl, rfl⟩)
  go_ret2
  exact ⟨rfl, rfl⟩
theorem qwrite_size1 (h : QAt w x count size C U Q) (hc : C 1 = false) (h1 : 1 ≤ size) (p : Option Addr) (l ca : Nat) (hl : l = 0 ∨ (¬ l = 0 ∧ ¬ l % size = 0)) :
    Calls Try.prog 42 #[.pointer (some ⟨x, 0, none⟩), .int .i64 1, .slice p l ca] w fun y w' => y = .returned (.tuple #[.int .i64 0, .int .i64 (-14)]) ∧ w = w' := by
  have CK := Lib.hid (show Calls Try.prog 85 #[.pointer (some ⟨x, 0, none⟩), .int .i64 1] w fun y w' => y = .returned (.int .i64 0) ∧ w = w' from qcheck1 h false hc)
  have c5 := h.c5
  have hs0 : (size : Int) ≠ 0 := by omega
  have hs1 : ((size : Int) == 0) = false := by simpa using hs0
  have etm := tmod_nat l size
  clear h hc
  rcases hl with rfl | ⟨h2, h3⟩
  · go_enter Try.func42, Try.ntmps42
    go_wp2_with (go_at_call 85; (with_reducible refine CK.out.mono ?_); rintro y w' ⟨rfl, rfl⟩)
    go_ret2
    exact ⟨rfl, rfl⟩
  · have b1 : (((l : Nat) : Int) == 0) = false := by rw [beq_eq_false_iff_ne]; omega
    have b2 : (Int.tmod ((l : Nat) : Int) (size : Int) != 0) = true := by rw [etm]; simp; omega
    have b3 : (((l : Nat) : Int) % (size : Int) != 0) = true := by rw [← Int.natCast_emod]; simp; omega
    clear etm h2 h3
    go_enter Try.func42, Try.ntmps42
    go_wp2_with (go_at_call 85; (with_reducible refine CK.out.mono ?_); rintro y w' ⟨rfl, rfl⟩)
    go_ret2
    exact ⟨rfl, rfl⟩
theorem qwrite_no1 (h : QAt w x count size C U Q) (hc : C 1 = false) (h1 : 1 ≤ size) (p : Option Addr) (l ca : Nat) (hl : ¬ l = 0) (hm : l % size = 0) (st : Int) (hst : (st = -24 ∧ C 0 = true) ∨ (st = -22 ∧ C 0 = false ∧ (Q 0).length = count)) :
    Calls Try.prog 42 #[.pointer (some ⟨x, 0, none⟩), .int .i64 1, .slice p l ca] w fun y w' => y = .returned (.tuple #[.int .i64 0, .int .i64 st]) ∧ Turn NoBlock w w' := by
  have CK := Lib.hid (show Calls Try.prog 85 #[.pointer (some ⟨x, 0, none⟩), .int .i64 1] w fun y w' => y = .returned (.int .i64 0) ∧ w = w' from qcheck1 h false hc)
  have c5 := h.c5
  have c4 := h.c4
  have hs0 : (size : Int) ≠ 0 := by omega
  have hs1 : ((size : Int) == 0) = false := by simpa using hs0
  have etm := tmod_nat l size
  have b1 : (((l : Nat) : Int) == 0) = false := by rw [beq_eq_false_iff_ne]; omega
  have b2 : Int.tmod ((l : Nat) : Int) (size : Int) = 0 := by rw [etm]; omega
  have b3 : ((l : Nat) : Int) % (size : Int) = 0 := by rw [← Int.natCast_emod]; omega
  have d1 : w.cell? ⟨x, 2 + 0, none⟩ = some (.bool (C 0)) := h.cc 0 (by omega)
  have d3 : w.cell? ⟨x, 0, none⟩ = some (U 0) := h.cw 0 (by omega)
  simp only [Nat.reduceAdd] at d1
  obtain ⟨p1, a1, hv1⟩ := (h.row 0 (by omega)).sl
  rw [hv1] at d3
  clear etm hl hm h hc hv1
  rcases hst with ⟨rfl, h2⟩ | ⟨rfl, h2, h3⟩
  · rw [h2] at d1
    go_enter Try.func42, Try.ntmps42
    go_wp2_with (go_at_call 85; (with_reducible refine CK.out.mono ?_); rintro y w' ⟨rfl, rfl⟩)
    go_ret2
    exact ⟨rfl, Turn.refl _ _⟩
  · rw [h2] at d1
    rw [h3] at d3
    clear h2 h3
    go_enter Try.func42, Try.ntmps42
    go_wp2_with (go_at_call 85; (with_reducible refine CK.out.mono ?_); rintro y w' ⟨rfl, rfl⟩)
    go_quiet (fail)
    go_wp2
    go_ret2
    exact ⟨rfl, (Turn.refl _ _).drewN _⟩
theorem qread_no1 (h : QAt w x count size C U Q) (n : Int) (st : Int) (hst : (st = -24 ∧ C 1 = true) ∨ (st = -14 ∧ C 1 = false ∧ n < 1) ∨ (st = -24 ∧ C 1 = false ∧ 1 ≤ n ∧ (Q 1).length = 0 ∧ C 0 = true) ∨ (st = -22 ∧ C 1 = false ∧ 1 ≤ n ∧ (Q 1).length = 0 ∧ C 0 = false)) :
    Calls Try.prog 44 #[.pointer (some ⟨x, 0, none⟩), .int .i64 1, .int .i64 n] w fun y w' => y = .returned (.tuple #[.slice none 0 0, .int .i64 st]) ∧ w = w' := by
  have d1 : w.cell? ⟨x, 2 + 0, none⟩ = some (.bool (C 0)) := h.cc 0 (by omega)
  have d3 : w.cell? ⟨x, 1, none⟩ = some (U 1) := h.cw 1 (by omega)
  simp only [Nat.reduceAdd] at d1
  obtain ⟨p1, a1, hv1⟩ := (h.row 1 (by omega)).sl
  rw [hv1] at d3
  have CK := Lib.hid (qcheck1 h (C 1) rfl)
  clear h hv1
  rcases hst with ⟨rfl, h2⟩ | ⟨rfl, h2, h3⟩ | ⟨rfl, h2, h3, h4, h5⟩ | ⟨rfl, h2, h3, h4, h5⟩
  · rw [h2] at CK
    go_enter Try.func44, Try.ntmps44
    go_wp2_with (go_at_call 85; (with_reducible refine CK.out.mono ?_); rintro y w' ⟨rfl, rfl⟩)
    go_ret2
    exact ⟨rfl, rfl⟩
  · rw [h2] at CK
    go_enter Try.func44, Try.ntmps44
    go_wp2_with (go_at_call 85; (with_reducible refine CK.out.mono ?_); rintro y w' ⟨rfl, rfl⟩)
    go_ret2
    exact ⟨rfl, rfl⟩
  · rw [h2] at CK
    rw [h4] at d3
    rw [h5] at d1
    clear h2 h4 h5
    go_enter Try.func44, Try.ntmps44
    go_wp2_with (go_at_call 85; (with_reducible refine CK.out.mono ?_); rintro y w' ⟨rfl, rfl⟩)
    go_ret2
    exact ⟨rfl, rfl⟩
  · rw [h2] at CK
    rw [h4] at d3
    rw [h5] at d1
    clear h2 h4 h5
    go_enter Try.func44, Try.ntmps44
    go_wp2_with (go_at_call 85; (with_reducible refine CK.out.mono ?_); rintro y w' ⟨rfl, rfl⟩)
    go_ret2
    exact ⟨rfl, rfl⟩
end
end Go.Proofs.Ytocaebcbmfejbaa
