/-
  Resize. No conditions but that the set is one that calls can make.
-/
import Derived.Test.YtdhbhigoboamfaaVFrom
import Derived.Test.YtdhbhigoboamfaaVSlice
namespace Go.Proofs.Ytdhbhigoboamfaa
open Go.ChangeShapes Go.WideShapes Go.ChangeAt Go.RowKit

def resizeS (M : Mod) (i n : Int) : Int := if findS M i ≠ 0 then -25 else if n < 0 then -10 else if 4294967296 < n then -14 else match M.O i with | none => 0 | some o => if 0 < o.depth then -2 else if 0 < o.slc then -20 else 0
section
variable {w : World} {s : Nat} {r : Rep} {M : Mod}
set_option maxRecDepth 20000 in
theorem resize_no (h : SMem w s r M) (i n : Int) (hi : fit i) (hs : resizeS M i n ≠ 0) :
    Calls Try.prog 28 #[.pointer (some ⟨s, 0, none⟩), .int .i64 i, .int .i64 n] w fun e w' => e = .returned (.int .i64 (resizeS M i n)) ∧ w = w' := by
  unfold resizeS at *
  by_cases h1 : findS M i ≠ 0
  · rw [if_pos h1]
    have c := find_no h i hi h1
    clear h hs h1
    go_enter Try.func28, Try.ntmps28
    go_wp2_with (go_at_call 49; (with_reducible refine c.mono ?_); rintro x w1 ⟨rfl, rfl⟩)
    go_ret
    exact ⟨rfl, rfl⟩
  rw [if_neg h1] at hs ⊢
  obtain ⟨o, hO, hd⟩ := find_ok (Classical.not_not.1 h1)
  obtain ⟨a, pb, hA, hB, hcell, hpm⟩ := h.live hO
  have c := find_yes h i hi hO hd hA
  by_cases h2 : n < 0
  · rw [if_pos h2]
    have c2 := fun w => rounded_neg n w h2
    clear h hs h1 h2 hO hA hB hcell hpm hd
    go_enter Try.func28, Try.ntmps28
    go_wp2_with (first | (go_at_call 49; (with_reducible refine c.mono ?_); rintro x w1 ⟨rfl, rfl⟩) | (go_at_call 47; (with_reducible refine (c2 _).mono ?_); rintro x w1 ⟨rfl, rfl⟩))
    go_ret
    exact ⟨rfl, rfl⟩
  rw [if_neg h2] at hs ⊢
  by_cases h3 : 4294967296 < n
  · rw [if_pos h3]
    have c2 := fun w => rounded_far n w h3
    clear h hs h1 h2 h3 hO hA hB hcell hpm hd
    go_enter Try.func28, Try.ntmps28
    go_wp2_with (first | (go_at_call 49; (with_reducible refine c.mono ?_); rintro x w1 ⟨rfl, rfl⟩) | (go_at_call 47; (with_reducible refine (c2 _).mono ?_); rintro x w1 ⟨rfl, rfl⟩))
    go_ret
    exact ⟨rfl, rfl⟩
  rw [if_neg h3, hO] at hs ⊢
  simp only at hs ⊢
  have c2 := fun w => rounded_yes n w (by omega) (by omega)
  have d4 := (ocells hcell).c4
  have d3 := (ocells hcell).c3
  by_cases h4 : 0 < o.depth
  · rw [if_pos h4]
    have h5 : (0 : Int) < (o.depth : Int) := by omega
    clear h hs h1 h2 h3 hO hA hB hcell hpm hd h4
    go_enter Try.func28, Try.ntmps28
    go_wp2_with (first | (go_at_call 49; (with_reducible refine c.mono ?_); rintro x w1 ⟨rfl, rfl⟩) | (go_at_call 47; (with_reducible refine (c2 _).mono ?_); rintro x w1 ⟨rfl, rfl⟩))
    go_ret
    exact ⟨rfl, rfl⟩
  rw [if_neg h4] at hs ⊢
  by_cases h5 : 0 < o.slc
  · rw [if_pos h5]
    have h6 : (0 : Int) < (o.slc : Int) := by omega
    have h7 : ¬ (0 : Int) < (o.depth : Int) := by omega
    clear h hs h1 h2 h3 hO hA hB hcell hpm hd h4 h5
    go_enter Try.func28, Try.ntmps28
    go_wp2_with (first | (go_at_call 49; (with_reducible refine c.mono ?_); rintro x w1 ⟨rfl, rfl⟩) | (go_at_call 47; (with_reducible refine (c2 _).mono ?_); rintro x w1 ⟨rfl, rfl⟩))
    go_ret
    exact ⟨rfl, rfl⟩
  rw [if_neg h5] at hs
  exact absurd rfl hs

set_option maxRecDepth 20000 in
theorem resize_yes (h : SMem w s r M) (i n : Int) (hi : fit i) {o : Ob} (hO : M.O i = some o) (hd : o.drp = false) (h0 : 0 ≤ n) (h1 : n ≤ 4294967296) (h2 : o.depth = 0) (h3 : o.slc = 0) (hf : Few M.L) :
    Calls Try.prog 28 #[.pointer (some ⟨s, 0, none⟩), .int .i64 i, .int .i64 n] w fun e w' => e = .returned (.int .i64 0) ∧
      ∃ (r' : Rep) (S' : PL) (ks : List Int), S' = ks.foldl rel1 ⟨M.L, o.pgs, o.cnt⟩ ∧ (∀ k ∈ ks, ((upS n / 64 : Nat) : Int) ≤ k ∧ (o.pgs k).isSome = true) ∧ ks.Nodup ∧ (∀ q, S'.g q = if q ∈ ks then none else o.pgs q) ∧ (∀ q, ((upS n / 64 : Nat) : Int) ≤ q → S'.g q = none) ∧
        SMem w' s r' (setM M i { o with size := upS n } S') ∧ VNext w s r w' r' ∧ Few S'.L := by
  obtain ⟨a, pb, hA, hB, hcell, hpm⟩ := h.live hO
  have c := find_yes h i hi hO hd hA
  have c2 := fun w => rounded_yes n w h0 h1
  have d4 := (ocells hcell).c4
  have d3 := (ocells hcell).c3
  have d0 := (ocells hcell).c0
  have f0 := (ocells hcell).f 0
  rw [h2] at d4
  rw [h3] at d3
  have t2 : Turn (fun k => k = a) w (w.setCell ⟨a, 0, none⟩ (.int .i64 (upS n : Nat))) := (Turn.refl (fun k => k = a) _).setCell (p := ⟨a, 0, none⟩) (.inl rfl) _
  have m1 := h.setOb (o' := { o with size := upS n }) hA hB t2 (fun k hk => .inl hk) (set_at hcell 0 _) (IMap.past hpm t2 (fun e => h.aB hA hB e.symm))
  have HR := Lib.hid ((from_any m1 (i := i) (o := { o with size := upS n }) (updI_same _ _ _) hA hB hf ((upS n / 64 : Nat) : Int)).mono fun e w' hw => by
    obtain ⟨k1, F', S', ks, g1, g2, g3, g4, g5, g6, g7, g8⟩ := hw
    have e3 : setM { M with O := updI M.O i (some { o with size := upS n }) } i { o with size := upS n } S' = setM M i { o with size := upS n } S' := by
      unfold setM
      simp only [updI_twice]
    rw [e3] at g6
    exact (⟨k1, _, S', ks, g1, g2, g3, g4, g5, g6, ⟨(t2.mono (fun k hk => .inl (.inr (.inr (.inr (.inl ⟨i, by subst hk; exact hA⟩)))))).trans g7.turn (fun j hj => .inl hj), fun j hj => (g7.foot j hj).imp id (fun hh => Nat.le_trans t2.size hh)⟩, g8⟩ :
      e = .returned (.tuple #[]) ∧ ∃ (r' : Rep) (S' : PL) (ks : List Int), S' = ks.foldl rel1 ⟨M.L, o.pgs, o.cnt⟩ ∧ (∀ k ∈ ks, ((upS n / 64 : Nat) : Int) ≤ k ∧ (o.pgs k).isSome = true) ∧ ks.Nodup ∧ (∀ q, S'.g q = if q ∈ ks then none else o.pgs q) ∧ (∀ q, ((upS n / 64 : Nat) : Int) ≤ q → S'.g q = none) ∧
        SMem w' s r' (setM M i { o with size := upS n } S') ∧ VNext w s r w' r' ∧ Few S'.L))
  have hq : (upS n : Int) / 64 = ((upS n / 64 : Nat) : Int) := by omega
  have hq2 : (upS n : Int).tdiv 64 = ((upS n / 64 : Nat) : Int) := by rw [Int.tdiv_eq_ediv_of_nonneg (by omega)]; exact hq
  have halt := lt_of_block hcell
  have hN : ((upS n / 64 : Nat) : Int) ≤ 4294967296 := by unfold upS; omega
  generalize upS n / 64 = N at *
  generalize upS n = U at *
  clear h hO hA hB hcell hpm hd t2 m1 hf h0 h1 h2 h3
  go_enter Try.func28, Try.ntmps28
  go_wp2_with (first
    | (go_at_call 49; (with_reducible refine c.mono ?_); rintro x w1 ⟨rfl, rfl⟩)
    | (go_at_call 47; (with_reducible refine (c2 _).mono ?_); rintro x w1 ⟨rfl, rfl⟩)
    | (go_at_call 58; (with_reducible refine HR.out.mono ?_); rintro x w2 ⟨rfl, k⟩; have K := Lib.hid k; clear k))
  go_ret
  exact ⟨rfl, K.out⟩
end
end Go.Proofs.Ytdhbhigoboamfaa
