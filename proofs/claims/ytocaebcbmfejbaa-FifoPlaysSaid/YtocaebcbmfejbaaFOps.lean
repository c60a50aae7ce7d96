/-
  What Shows, Close, Write, Read answer at an end, and what they make of the fifo. No conditions but that the fifo is one that calls can make.
-/
import Derived.Test.YtocaebcbmfejbaaFSmall
namespace Go.Proofs.Ytocaebcbmfejbaa
open Go.ChangeShapes Go.WideShapes Go.ChangeAt Go.RowKit

theorem div_zero_iff {l size : Nat} (h : ∃ n, l = n * size) (h1 : 1 ≤ size) : l / size = 0 ↔ l = 0 := by
  obtain ⟨n, rfl⟩ := h
  rw [Nat.mul_div_cancel _ (by omega)]
  constructor
  · rintro rfl; simp
  · intro h
    rcases Nat.mul_eq_zero.1 h with h | h <;> omega
theorem div_full_iff {l size count : Nat} (h : ∃ n, l = n * size) (h1 : 1 ≤ size) : l / size = count ↔ l = count * size := by
  obtain ⟨n, rfl⟩ := h
  rw [Nat.mul_div_cancel _ (by omega)]
  constructor
  · rintro rfl; rfl
  · intro h
    exact Nat.eq_of_mul_eq_mul_right (by omega) h
theorem rok_cl (count size : Nat) : ROK count size Re.cl := ⟨⟨0, by simp [Re.cl], Nat.zero_le _⟩, fun _ => rfl⟩
section
variable {w : World} {c count size : Nat} {K : Nat → Re} {G : Nat → Nat}
theorem fshows0 (h : FMem w c count size K G) : Calls Try.prog 49 #[.pointer (some ⟨c, 0, none⟩), .int .i64 0] w fun x w' => x = .returned (.int .i64 (shF count size (K 0) (K 1) : Nat)) ∧ Turn NoBlock w w' := by
  have CO := Lib.hid (fun w => fother0 w)
  have o1 : w.cell? ⟨c, 7, none⟩ = some (.bool (K 1).op) := (h.s 1 (by omega)).c0
  cases ho : (K 0).op with
  | false =>
    have HC := Lib.hid (fright_no0 h ho)
    have hs : shF count size (K 0) (K 1) = 0 := by unfold shF; rw [if_pos ho]
    rw [hs]
    clear h ho hs o1
    go_enter Try.func49, Try.ntmps49
    go_wp2_with (go_at_call 81; (with_reducible refine HC.out.mono ?_); rintro x w2 ⟨rfl, rfl⟩)
    go_ret
    exact ⟨rfl, Turn.refl _ _⟩
  | true =>
    have HC := Lib.hid (fright_yes0 h ho)
    obtain ⟨f, bs, hi⟩ := (h.s 0 (by omega)).in' ho
    have c5 : w.cell? ⟨c, 6, none⟩ = some (.int .i64 (((K 0).d.length / size : Nat) : Int)) := hi.c5
    obtain ⟨n, hn, -⟩ := (h.ok 0 (by omega)).num
    have hz := div_zero_iff ⟨n, hn⟩ h.r3
    obtain ⟨q, hq⟩ : ∃ q, (K 0).d.length / size = q := ⟨_, rfl⟩
    rw [hq] at c5 hz
    obtain ⟨a, hA, hsa⟩ : ∃ a : Nat, ((q = 0 ∧ a = 0) ∨ (0 < q ∧ a = 1)) ∧ (if (K 0).d.length = 0 then 0 else 1) = a := by
      by_cases h0 : q = 0
      · exact ⟨0, .inl ⟨h0, rfl⟩, by rw [if_pos (hz.1 h0)]⟩
      · exact ⟨1, .inr ⟨by omega, rfl⟩, by rw [if_neg (fun h => h0 (hz.2 h))]⟩
    cases hp : (K 1).op with
    | false =>
      rw [hp] at o1
      have hs : shF count size (K 0) (K 1) = a + 4 := by unfold shF; rw [if_neg (by rw [ho]; decide), if_pos hp, hsa]
      rw [hs]
      clear h ho hi hn hz hq hsa hp hs
      rcases hA with ⟨rfl, rfl⟩ | ⟨h0, rfl⟩
      all_goals
        go_enter Try.func49, Try.ntmps49
        go_wp2_with (go_at_call 81; (with_reducible refine HC.out.mono ?_); rintro x w2 ⟨rfl, rfl⟩)
        go_region_held3 (fun _ => True) (trivial) (first | (go_at_call 82; (with_reducible refine (CO.out _).mono ?_); rintro x w3 ⟨rfl, rfl⟩))
        go_wp2
        go_ret
        exact ⟨rfl, by first | exact (Turn.refl _ _).drew | exact (Turn.refl _ _).drewN _⟩
    | true =>
      rw [hp] at o1
      obtain ⟨f2, bs2, hi2⟩ := (h.s 1 (by omega)).in' hp
      obtain ⟨n2, hn2, -⟩ := (h.ok 1 (by omega)).num
      have r3 := h.r3
      have CF := Lib.hid (fun W (t : Turn NoBlock w W) => show Calls Try.prog 83 #[.pointer (some ⟨c, 8, none⟩)] W fun x w' => x = .returned (.bool (decide (n2 = count))) ∧ ∃ m, w' = W.drewN m from ffull (hi2.kept t (fun h => h) (fun h => h)) n2 hn2 r3)
      have hs : shF count size (K 0) (K 1) = a + (if n2 = count then 0 else 2) := by
        have hf := div_full_iff (count := count) ⟨n2, hn2⟩ r3
        rw [hn2, Nat.mul_div_cancel _ (by omega)] at hf
        unfold shF
        rw [if_neg (by rw [ho]; decide), hsa, if_neg (by rw [hp]; decide), hn2]
        by_cases h2 : n2 = count
        · rw [if_pos h2, if_pos (hf.1 h2)]
        · rw [if_neg h2, if_neg (fun h => h2 (hf.2 h))]
      rw [hs]
      by_cases h2 : n2 = count
      all_goals
        first | rw [if_pos h2] | rw [if_neg h2]
        first | rw [show decide (n2 = count) = true by simpa using h2] at CF | rw [show decide (n2 = count) = false by simpa using h2] at CF
        clear hi hn hz hq hsa hp hs hi2 hn2 h2 r3 h ho
        rcases hA with ⟨rfl, rfl⟩ | ⟨h0, rfl⟩
        all_goals
          go_enter Try.func49, Try.ntmps49
          go_wp2_with (first
            | (go_at_call 81; (with_reducible refine HC.out.mono ?_); rintro x w2 ⟨rfl, rfl⟩))
          go_region_held3 (fun _ => True) (trivial) (first | (go_at_call 82; (with_reducible refine (CO.out _).mono ?_); rintro x w3 ⟨rfl, rfl⟩))
          go_wp2_with (first
            | (go_at_call 83; (with_reducible refine (CF.out _ (by first | exact (Turn.refl _ _).drew | exact (Turn.refl _ _).drewN _)).mono ?_); rintro x w3 ⟨rfl, m3, rfl⟩))
          go_ret
          exact ⟨rfl, by first | exact (Turn.refl _ _).drew | exact (Turn.refl _ _).drewN _⟩
theorem fshows1 (h : FMem w c count size K G) : Calls Try.prog 49 #[.pointer (some ⟨c, 0, none⟩), .int .i64 1] w fun x w' => x = .returned (.int .i64 (shF count size (K 1) (K 0) : Nat)) ∧ Turn NoBlock w w' := by
  have CO := Lib.hid (fun w => fother1 w)
  have o1 : w.cell? ⟨c, 1, none⟩ = some (.bool (K 0).op) := (h.s 0 (by omega)).c0
  cases ho : (K 1).op with
  | false =>
    have HC := Lib.hid (fright_no1 h ho)
    have hs : shF count size (K 1) (K 0) = 0 := by unfold shF; rw [if_pos ho]
    rw [hs]
    clear h ho hs o1
    go_enter Try.func49, Try.ntmps49
    go_wp2_with (go_at_call 81; (with_reducible refine HC.out.mono ?_); rintro x w2 ⟨rfl, rfl⟩)
    go_ret
    exact ⟨rfl, Turn.refl _ _⟩
  | true =>
    have HC := Lib.hid (fright_yes1 h ho)
    obtain ⟨f, bs, hi⟩ := (h.s 1 (by omega)).in' ho
    have c5 : w.cell? ⟨c, 12, none⟩ = some (.int .i64 (((K 1).d.length / size : Nat) : Int)) := hi.c5
    obtain ⟨n, hn, -⟩ := (h.ok 1 (by omega)).num
    have hz := div_zero_iff ⟨n, hn⟩ h.r3
    obtain ⟨q, hq⟩ : ∃ q, (K 1).d.length / size = q := ⟨_, rfl⟩
    rw [hq] at c5 hz
    obtain ⟨a, hA, hsa⟩ : ∃ a : Nat, ((q = 0 ∧ a = 0) ∨ (0 < q ∧ a = 1)) ∧ (if (K 1).d.length = 0 then 0 else 1) = a := by
      by_cases h0 : q = 0
      · exact ⟨0, .inl ⟨h0, rfl⟩, by rw [if_pos (hz.1 h0)]⟩
      · exact ⟨1, .inr ⟨by omega, rfl⟩, by rw [if_neg (fun h => h0 (hz.2 h))]⟩
    cases hp : (K 0).op with
    | false =>
      rw [hp] at o1
      have hs : shF count size (K 1) (K 0) = a + 4 := by unfold shF; rw [if_neg (by rw [ho]; decide), if_pos hp, hsa]
      rw [hs]
      clear h ho hi hn hz hq hsa hp hs
      rcases hA with ⟨rfl, rfl⟩ | ⟨h0, rfl⟩
      all_goals
        go_enter Try.func49, Try.ntmps49
        go_wp2_with (go_at_call 81; (with_reducible refine HC.out.mono ?_); rintro x w2 ⟨rfl, rfl⟩)
        go_region_held3 (fun _ => True) (trivial) (first | (go_at_call 82; (with_reducible refine (CO.out _).mono ?_); rintro x w3 ⟨rfl, rfl⟩))
        go_wp2
        go_ret
        exact ⟨rfl, by first | exact (Turn.refl _ _).drew | exact (Turn.refl _ _).drewN _⟩
    | true =>
      rw [hp] at o1
      obtain ⟨f2, bs2, hi2⟩ := (h.s 0 (by omega)).in' hp
      obtain ⟨n2, hn2, -⟩ := (h.ok 0 (by omega)).num
      have r3 := h.r3
      have CF := Lib.hid (fun W (t : Turn NoBlock w W) => show Calls Try.prog 83 #[.pointer (some ⟨c, 2, none⟩)] W fun x w' => x = .returned (.bool (decide (n2 = count))) ∧ ∃ m, w' = W.drewN m from ffull (hi2.kept t (fun h => h) (fun h => h)) n2 hn2 r3)
      have hs : shF count size (K 1) (K 0) = a + (if n2 = count then 0 else 2) := by
        have hf := div_full_iff (count := count) ⟨n2, hn2⟩ r3
        rw [hn2, Nat.mul_div_cancel _ (by omega)] at hf
        unfold shF
        rw [if_neg (by rw [ho]; decide), hsa, if_neg (by rw [hp]; decide), hn2]
        by_cases h2 : n2 = count
        · rw [if_pos h2, if_pos (hf.1 h2)]
        · rw [if_neg h2, if_neg (fun h => h2 (hf.2 h))]
      rw [hs]
      by_cases h2 : n2 = count
      all_goals
        first | rw [if_pos h2] | rw [if_neg h2]
        first | rw [show decide (n2 = count) = true by simpa using h2] at CF | rw [show decide (n2 = count) = false by simpa using h2] at CF
        clear hi hn hz hq hsa hp hs hi2 hn2 h2 r3 h ho
        rcases hA with ⟨rfl, rfl⟩ | ⟨h0, rfl⟩
        all_goals
          go_enter Try.func49, Try.ntmps49
          go_wp2_with (first
            | (go_at_call 81; (with_reducible refine HC.out.mono ?_); rintro x w2 ⟨rfl, rfl⟩))
          go_region_held3 (fun _ => True) (trivial) (first | (go_at_call 82; (with_reducible refine (CO.out _).mono ?_); rintro x w3 ⟨rfl, rfl⟩))
          go_wp2_with (first
            | (go_at_call 83; (with_reducible refine (CF.out _ (by first | exact (Turn.refl _ _).drew | exact (Turn.refl _ _).drewN _)).mono ?_); rintro x w3 ⟨rfl, m3, rfl⟩))
          go_ret
          exact ⟨rfl, by first | exact (Turn.refl _ _).drew | exact (Turn.refl _ _).drewN _⟩
end
end Go.Proofs.Ytocaebcbmfejbaa
