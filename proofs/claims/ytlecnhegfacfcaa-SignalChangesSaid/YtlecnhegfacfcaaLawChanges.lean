/-
  The statement SignalChanges answers true at all sets, types and changes.
-/
import Derived.Test.YtlecnhegfacfcaaLawKinds
import Derived.Deep.RegionHeld3
import Derived.Deep.Light
import Derived.Deep.DeepCutAuto
namespace Go.Proofs.Ytlecnhegfacfcaa
open Go.ChangeShapes Go.WideShapes Go.ChangeAt Go.RowKit

theorem bit_zero64 (i : Nat) (hi : i < 64) : bitB 0 i = false := by
  have := bit_nat 0 i hi
  simpa using this
theorem inB_iff (a m : Int) : inB a m = true ↔ ∀ i, i < 64 → bitB a i = true → bitB m i = true := by
  unfold inB
  rw [decide_eq_true_iff]
  constructor
  · intro h i hi h1
    have := bit_andNot a m i hi
    rw [h, bit_zero64 i hi, h1] at this
    cases hm : bitB m i
    · rw [hm] at this; cases this
    · rfl
  · intro h
    refine bits_ext _ _ (fit_bits _ _ _) (by unfold fit; omega) fun i hi => ?_
    rw [bit_andNot a m i hi, bit_zero64 i hi]
    have := h i hi
    cases ha : bitB a i <;> cases hm : bitB m i <;> simp_all
theorem inB_has (a m : Int) (ha : fit a) : inB a m = hasB m a := by
  rw [Bool.eq_iff_iff, inB_iff, hasB_iff m a ha]
theorem okB_has (k c s : Int) (hc : fit c) (hs : fit s) : okB k c s = (hasB (mineV k) c && hasB (mineV k) s) := by
  unfold okB
  rw [Bool.eq_iff_iff, inB_iff, Bool.and_eq_true, hasB_iff _ c hc, hasB_iff _ s hs]
  constructor
  · intro h
    exact ⟨fun i hi h1 => h i hi (by rw [bit_or, h1]; rfl), fun i hi h1 => h i hi (by rw [bit_or, h1, Bool.or_true])⟩
  · rintro ⟨h1, h2⟩ i hi h3
    rw [bit_or, Bool.or_eq_true] at h3
    rcases h3 with h3 | h3
    · exact h1 i hi h3
    · exact h2 i hi h3
theorem mine_in (k : Int) : inB (mineV k) (ofV k) = true := by
  by_cases hk : 1 ≤ k ∧ k ≤ 11
  · refine kinds_all (p := fun k => inB (mineV k) (ofV k) = true) ?_ k hk
    decide +kernel
  · have e1 : ofV k = 0 := by unfold ofV; repeat' (rw [if_neg (by omega)])
    have e2 : mineV k = 0 := by unfold mineV; rw [if_neg (by omega), if_neg (by omega), if_neg hk]
    rw [e1, e2]; decide +kernel
/-- A right set stays right. -/
theorem stays (k a c s : Int) (hs : fit s) (hr : inB a (ofV k) = true) (h2 : hasB (mineV k) s = true) : inB (bits .or .i64 (bits .andNot .i64 a c) s) (ofV k) = true := by
  rw [inB_iff] at hr ⊢
  intro i hi h
  rw [bit_or, bit_andNot a c i hi, Bool.or_eq_true, Bool.and_eq_true] at h
  rcases h with ⟨h, _⟩ | h
  · exact hr i hi h
  · exact (inB_iff _ _).1 (mine_in k) i hi ((hasB_iff _ s hs).1 h2 i hi h)

theorem lt_cell {w : World} {a : Addr} {v : Value} (h : w.cell? a = some v) : a.block < w.heap.size := by
  rcases Nat.lt_or_ge a.block w.heap.size with h' | h'
  · exact h'
  · simp [World.cell?, Array.getElem?_eq_none h'] at h
/-- The box of the argument stands in the heap. -/
def BoxAt (g : Nat) (w W : World) (k a c s : Int) : Prop :=
  Below g w W ∧ W.cell? ⟨g, 0, none⟩ = some (.int .i64 k) ∧ W.cell? ⟨g, 1, none⟩ = some (.int .i64 a) ∧ W.cell? ⟨g, 2, none⟩ = some (.int .i64 c) ∧ W.cell? ⟨g, 3, none⟩ = some (.int .i64 s)
theorem BoxAt.next {g : Nat} {w W W' : World} {k a c s : Int} (h : BoxAt g w W k a c s) (hb : Below W.heap.size W W') : BoxAt g w W' k a c s := by
  obtain ⟨h0, h1, h2, h3, h4⟩ := h
  have hl := lt_cell h1
  refine ⟨h0.trans (hb.mono (by simp at hl; omega)), ?_, ?_, ?_, ?_⟩
  · rw [hb.cell (p := ⟨g, 0, none⟩) hl]; exact h1
  · rw [hb.cell (p := ⟨g, 1, none⟩) hl]; exact h2
  · rw [hb.cell (p := ⟨g, 2, none⟩) hl]; exact h3
  · rw [hb.cell (p := ⟨g, 3, none⟩) hl]; exact h4
theorem BoxAt.drew {g : Nat} {w W : World} {k a c s : Int} (h : BoxAt g w W k a c s) : BoxAt g w W.drew k a c s :=
  ⟨⟨h.1.os, h.1.tape, h.1.output, h.1.size, h.1.block⟩, h.2⟩
theorem boxed {P : Program} {f : FuncId} {args : Array Value} {v : Value} {g : Nat} {w W : World} {k a c s : Int} (h : BoxAt g w W k a c s)
    (hc : Calls P f args W fun e w' => e = .returned v ∧ Below W.heap.size W w') : Calls P f args W fun e w' => e = .returned v ∧ BoxAt g w w' k a c s :=
  hc.mono fun _ _ q => ⟨q.1, h.next q.2⟩
/-- The bit that the closure tells. -/
theorem bit_any (n : Int) (k : Nat) (hn : fit n) (hk : k < 64) (b : Nat) (w : World) (hc : w.cell? ⟨b, 0, none⟩ = some (.int .i64 (k : Int))) :
    Calls Try.prog 20 #[.int .i64 n, .pointer (some ⟨b, 0, none⟩)] w fun e w' => e = .returned (.bool (bitB n k)) ∧ w = w' := by
  have s1 := shr_one n hn k hk
  have hm : min k 64 = k := by omega
  rcases hb : bitB n k with _ | _
  all_goals
    rw [hb] at s1
    simp only [if_true, Bool.false_eq_true, if_false] at s1
    clear hb
    go_enter Try.func20, Try.ntmps20
    go_wp2
    go_ret
    exact ⟨rfl, rfl⟩
set_option linter.unusedSimpArgs false in
set_option maxHeartbeats 4000000 in
set_option maxRecDepth 20000 in
theorem changes_walk (k a c s : Int) (w : World) (ha : fit a) (hc : fit c) (hs : fit s) :
    Calls Try.prog 4 #[.agg #[.int .i64 k, .int .i64 a, .int .i64 c, .int .i64 s]] w fun e w' => e = .returned (.bool true) ∧ Below w.heap.size w w' := by
  have c1 := change_any a k c s
  have c2 := rmine_any k
  have c3 := bits_mine k
  have c4 := rof_any k
  have c5 := bits_of k
  have c6 := fun (h : fit (ofV k)) => rsub_any (ofV k) a h ha
  have c7 := right_any a k
  obtain ⟨W, hW⟩ : ∃ W, w.alloc (.cells #[.int .i64 k, .int .i64 a, .int .i64 c, .int .i64 s] 29) = W := ⟨_, rfl⟩
  have hb0 : Below w.heap.size w W := by rw [← hW]; exact (Below.refl _ _).alloc (Nat.le_refl _) _
  have f0 : W.cell? ⟨w.heap.size, 0, none⟩ = some (.int .i64 k) := by rw [← hW]; simp [World.cell?_alloc_new]
  have f1 : W.cell? ⟨w.heap.size, 1, none⟩ = some (.int .i64 a) := by rw [← hW]; simp [World.cell?_alloc_new]
  have f2 : W.cell? ⟨w.heap.size, 2, none⟩ = some (.int .i64 c) := by rw [← hW]; simp [World.cell?_alloc_new]
  have f3 : W.cell? ⟨w.heap.size, 3, none⟩ = some (.int .i64 s) := by rw [← hW]; simp [World.cell?_alloc_new]
  go_enter Try.func4, Try.ntmps4
  go_upto_region 1 with (fail)
  clear hW
  generalize hg : w.heap.size = g at *
  have HG := Lib.hid hg
  clear hg
  have hB : BoxAt g w W k a c s := ⟨hb0, f0, f1, f2, f3⟩
  go_upto_region 3 with (first
    | (go_at_call 17; (with_reducible refine (c1 _).mono ?_); rintro e w' ⟨rfl, rfl⟩)
    | (go_at_call 13; (with_reducible refine (c2 _).mono ?_); rintro e w' ⟨rfl, rfl⟩)
    | (go_at_call 10; (with_reducible refine (boxed hB (c3 _)).mono ?_); rintro e w1 ⟨rfl, hB1⟩))
  clear c1 c2 c3 hb0 f0 f1 f2 f3 hB
  have hBd := hB1.drew
  have hfo : fit (ofV k) := by rw [← of_sum]; exact fit_nat _ (Nat.lt_trans (sumTo_lt _ 16) (by decide))
  have c6 := c6 hfo
  go_cut [6] (fun s6 wx => s6 = .bool (hasB (ofV k) a) ∧ BoxAt g w wx k a c s)
  case first =>
    clear c7 hfo hB1
    generalize hasB (ofV k) a = R at *
    generalize ofV k = V at *
    generalize (⟨(ofS k).toArray⟩ : ByteArray) = T at *
    go_region_held3 (fun w' => w'.cell? ⟨g, 0, none⟩ = some (.int .i64 k) ∧ w'.cell? ⟨g, 1, none⟩ = some (.int .i64 a)) (first | exact ⟨hBd.2.1, hBd.2.2.1⟩ | exact ⟨hB2.2.1, hB2.2.2.1⟩ | exact ⟨hB3.2.1, hB3.2.2.1⟩) (first
      | (go_at_call 11; (with_reducible refine (boxed hBd (c4 _)).mono ?_); rintro e w2 ⟨rfl, hB2⟩)
      | (go_at_call 10; (with_reducible refine (boxed hB2 (c5 _)).mono ?_); rintro e w3 ⟨rfl, hB3⟩)
      | (go_at_call 18; (with_reducible refine (c6 _).mono ?_); rintro e w' ⟨rfl, rfl⟩))
    go_wp2_with fail
    go_meet
    exact ⟨rfl, hB3⟩
  case rest =>
    obtain ⟨rfl, hB4⟩ := hcut
    clear c4 c5 c6 hBd hB1
    have cR : inB a (ofV k) = hasB (ofV k) a := inB_has a _ ha
    have hst := stays k a c s hs
    have hokb := okB_has k c s hc hs
    have c8 := rsub_any (mineV k) c (by rw [← mine_sum]; exact fit_nat _ (Nat.lt_trans (sumTo_lt _ 16) (by decide))) hc
    have c9 := rsub_any (mineV k) s (by rw [← mine_sum]; exact fit_nat _ (Nat.lt_trans (sumTo_lt _ 16) (by decide))) hs
    have cA : ∀ W, BoxAt g w W k a c s → Calls Try.prog 16 #[] W fun e w' => e = .returned (.bool true) ∧ Below g w w' := fun W h =>
      (boxed h (awake_any W)).mono fun _ _ q => ⟨q.1, q.2.1⟩
    obtain ⟨-, f0, f1, f2, f3⟩ := id hB4
    rw [cR] at c7 hst
    by_cases hok : okB k c s = true
    · have e1 : chV a k c s = bits .or .i64 (bits .andNot .i64 a c) s := by unfold chV; rw [if_pos hok]
      have e2 : chS k c s = 0 := by unfold chS; rw [if_pos hok]
      rw [e1, e2]
      clear e1 e2
      rw [hokb, Bool.and_eq_true] at hok
      rw [hok.1] at c8
      rw [hok.2] at c9
      have hst2 : hasB (ofV k) a = true → inB (bits .or .i64 (bits .andNot .i64 a c) s) (ofV k) = true := fun h => hst h hok.2
      clear hst
      have c10 := right_any (bits .or .i64 (bits .andNot .i64 a c) s) k
      clear hokb cR hok
      have hbit : ∀ i, i < 64 → bitB (bits .or .i64 (bits .andNot .i64 a c) s) i = (bitB s i || (bitB a i && !bitB c i)) := fun i hi => by
        rw [bit_or, bit_andNot a c i hi, Bool.or_comm]
      have hfS : fit (bits .or .i64 (bits .andNot .i64 a c) s) := fit_bits _ _ _
      generalize inB (bits .or .i64 (bits .andNot .i64 a c) s) (ofV k) = R1 at *
      generalize bits .or .i64 (bits .andNot .i64 a c) s = S at *
      generalize hasB (ofV k) a = R at *
      generalize mineV k = M at *
      have hRR : (R != R) = false := by cases R <;> rfl
      have HBIT := Lib.hid hbit
      have HST := Lib.hid hst2
      clear hbit hst2
      go_wp2_with (first
        | (go_at_call 19; (with_reducible refine (c7 _).mono ?_); rintro e w' ⟨rfl, rfl⟩)
        | (go_at_call 18; (with_reducible refine (c8 _).mono ?_); rintro e w' ⟨rfl, rfl⟩)
        | (go_at_call 18; (with_reducible refine (c9 _).mono ?_); rintro e w' ⟨rfl, rfl⟩))
      clear c7 c8 c9 f0 f1 f2 f3
      go_loopw [60] (fun i wr => ∃ n : Nat, n ≤ 64 ∧ i = .int .i64 n ∧ BoxAt g w wr k a c s) (fun i _ => 64 - (intOf i).toNat)
      case atStart => exact ⟨0, by omega, rfl, hB4⟩
      case round =>
        obtain ⟨n, hn, rfl, hBr⟩ := hrel
        by_cases hlt : n < 64
        · have hbn := HBIT.out n hlt
          obtain ⟨Wn, hWn⟩ : ∃ Wn, wr.alloc (.cells #[.int .i64 (n : Int)] 3) = Wn := ⟨_, rfl⟩
          have hBn : BoxAt g w Wn k a c s := by rw [← hWn]; exact hBr.next ((Below.refl _ _).alloc (Nat.le_refl _) _)
          have hcell : Wn.cell? ⟨wr.heap.size, 0, none⟩ = some (.int .i64 (n : Int)) := by rw [← hWn]; exact cell_one wr _ 3
          have hfc : ∀ j, (Wn.drewN j).cell? ⟨wr.heap.size, 0, none⟩ = some (.int .i64 (n : Int)) := fun j => by
            rw [(below_dn (Below.refl Wn.heap.size Wn) j).cell (p := ⟨wr.heap.size, 0, none⟩) (lt_cell hcell)]; exact hcell
          have q1 := fun j => quiet_flip (bit_any S n hfS hlt wr.heap.size (Wn.drewN j) (hfc j))
          have q2 := fun j => quiet_flip (bit_any s n hs hlt wr.heap.size (Wn.drewN j) (hfc j))
          have q3 := fun j => quiet_flip (bit_any a n ha hlt wr.heap.size (Wn.drewN j) (hfc j))
          have q4 := fun j => quiet_flip (bit_any c n hc hlt wr.heap.size (Wn.drewN j) (hfc j))
          rw [hbn] at q1
          obtain ⟨-, f0, f1, f2, f3⟩ := id hBn
          clear hbn hfc hcell hBr
          go_wp2
          try rw [hWn]
          clear hWn
          generalize bitB S n = d1 at *
          generalize bitB s n = d2 at *
          generalize bitB a n = d3 at *
          generalize bitB c n = d4 at *
          generalize wr.heap.size = ib at *
          rcases d2 with _ | _ <;> rcases d3 with _ | _ <;> rcases d4 with _ | _
          all_goals
            simp only [Bool.or_false, Bool.or_true, Bool.true_or, Bool.false_or, Bool.and_true, Bool.and_false, Bool.not_true, Bool.not_false, Bool.false_and, Bool.true_and] at q1
            go_quiet (first
              | (go_at_call 20; with_reducible exact q1 _)
              | (go_at_call 20; with_reducible exact q2 _)
              | (go_at_call 20; with_reducible exact q3 _)
              | (go_at_call 20; with_reducible exact q4 _))
            go_wp2
            go_roundw
            case rel => exact ⟨n + 1, by omega, by go_num, hBn.next (below_dn (Below.refl _ _) _)⟩
            case measure => simp [intOf]; omega
        · obtain rfl : n = 64 := by omega
          obtain ⟨-, f0, f1, f2, f3⟩ := id hBr
          have hR : R = false ∨ (R = true ∧ R1 = true) := by
            cases hR : R
            · exact .inl rfl
            · exact .inr ⟨rfl, HST.out hR⟩
          rcases hR with rfl | ⟨rfl, rfl⟩
          all_goals
            go_wp2_with (first
              | (go_at_call 19; (with_reducible refine (c10 _).mono ?_); rintro e w' ⟨rfl, rfl⟩)
              | (go_at_call 16; (with_reducible refine (cA _ (by assumption)).mono ?_); rintro e w' ⟨rfl, hb⟩))
            go_ret
            exact ⟨rfl, by rw [HG.out]; assumption⟩
    · have e1 : chV a k c s = 0 := by unfold chV; rw [if_neg hok]
      have e2 : chS k c s = -10 := by unfold chS; rw [if_neg hok]
      rw [e1, e2]
      clear e1 e2 hst
      rw [hokb] at hok
      clear hokb cR
      generalize hasB (ofV k) a = R at *
      generalize mineV k = M at *
      have hcs : (hasB M c = false) ∨ (hasB M c = true ∧ hasB M s = false) := by
        cases h1 : hasB M c <;> cases h2 : hasB M s <;> simp_all
      clear hok
      generalize hasB M c = Q1 at c8 hcs
      generalize hasB M s = Q2 at c9 hcs
      have hRR : (R != R) = false := by cases R <;> rfl
      rcases hcs with rfl | ⟨rfl, rfl⟩
      all_goals
        go_wp2_with (first
          | (go_at_call 19; (with_reducible refine (c7 _).mono ?_); rintro e w' ⟨rfl, rfl⟩)
          | (go_at_call 18; (with_reducible refine (c8 _).mono ?_); rintro e w' ⟨rfl, rfl⟩)
          | (go_at_call 18; (with_reducible refine (c9 _).mono ?_); rintro e w' ⟨rfl, rfl⟩)
          | (go_at_call 16; (with_reducible refine (cA _ (by assumption)).mono ?_); rintro e w' ⟨rfl, hb⟩))
        go_ret
        exact ⟨rfl, by rw [HG.out]; assumption⟩
end Go.Proofs.Ytlecnhegfacfcaa
