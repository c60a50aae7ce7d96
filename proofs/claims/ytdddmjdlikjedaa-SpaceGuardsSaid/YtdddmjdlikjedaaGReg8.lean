/-
  The regions of split that append a part to a result (three in-round regions that draw their order).
-/
import Derived.Test.YtdddmjdlikjedaaGApp
namespace Go.Proofs.Ytdddmjdlikjedaa
open Go.ChangeShapes Go.WideShapes Go.ChangeAt Go.RowKit Go.Shelf

set_option linter.unusedVariables false in
set_option linter.unusedSimpArgs false in
set_option maxRecDepth 100000 in
set_option maxHeartbeats 4000000 in
theorem reg8 (lo n : Nat) (B4 B5 B6 B7 Bx : Nat) (p q : Pc) (x nn bh : Int) (vin : Value) (li : List Pc) (W : World) (s0 s1 s2 s3 s8 s11 s12 s13 s14 s15 s16 s17 s18 s19 s20 s21 s22 s23 s24 s25 s26 s27 s28 s29 s30 s31 s32 s33 s34 s35 s36 s37 s38 s39 s40 s41 s42 s43 s44 s45 s46 s47 s48 s49 s50 s51 s52 s53 s54 s55 s56 s57 : Value) (K : Act → World → Prop) (Q : Exit → Act → World → Prop) (hL : ¬ LetsOut Q) (hQp : ∀ c a w, ¬ Q (.panic c) a w)
    (b9 : W.heap[Bx]? = some (.cells #[.int .i64 p.at', .int .i64 p.len, .int .i64 p.vmo, .int .i64 p.from', .int .i64 p.prot] 61 (0, 0))) (b4 : Boxed W B4 3 (.int .i64 x)) (b5 : Boxed W B5 3 (.int .i64 nn)) (b6 : Boxed W B7 65 vin) (hr : PRow vin li W) (hlen : li.length ≤ 262144)
    (hd : Bx ≠ B7 ∧ B4 ≠ B7 ∧ B5 ≠ B7) (hv : ∀ j, Blk vin j → j ≠ Bx ∧ j ≠ B4 ∧ j ≠ B5 ∧ j ≠ B7) (hq : q = partP p bh (p.fin - bh))
    (h1 : 0 ≤ p.at' ∧ 0 ≤ p.len ∧ p.fin ≤ 4294967296) (h3 : 0 ≤ p.from' ∧ p.from' ≤ 8589934592) (h2 : 0 ≤ bh ∧ bh ≤ 4294967296 ∧ bh < p.fin)
    (hK : ∀ (blk : Nat) (v' : Value) (W' : World), Boxed W' B7 65 v' → PRow v' (li ++ [q]) W' → (∀ j, Blk v' j → Blk vin j ∨ W.heap.size ≤ j) → Turn (fun j => j = B7 ∨ Blk vin j) W W' → K ⟨(s0 :: s1 :: s2 :: s3 :: .pointer (some ⟨B4, 0, none⟩) :: .pointer (some ⟨B5, 0, none⟩) :: .pointer (some ⟨B6, 0, none⟩) :: .pointer (some ⟨B7, 0, none⟩) :: s8 :: .pointer (some ⟨Bx, 0, none⟩) :: .int .i64 bh :: s11 :: s12 :: s13 :: s14 :: s15 :: s16 :: s17 :: s18 :: s19 :: s20 :: s21 :: s22 :: s23 :: s24 :: s25 :: s26 :: s27 :: s28 :: s29 :: s30 :: s31 :: s32 :: s33 :: s34 :: s35 :: s36 :: s37 :: s38 :: s39 :: s40 :: s41 :: s42 :: s43 :: s44 :: s45 :: vin :: (.agg #[.int .i64 p.at', .int .i64 p.len, .int .i64 p.vmo, .int .i64 p.from', .int .i64 p.prot]) :: (.int .i64 bh) :: (.agg #[.int .i64 p.at', .int .i64 p.len, .int .i64 p.vmo, .int .i64 p.from', .int .i64 p.prot]) :: (.int .i64 p.fin) :: (.int .i64 bh) :: (.int .i64 (p.fin - bh)) :: (.agg #[.int .i64 q.at', .int .i64 q.len, .int .i64 q.vmo, .int .i64 q.from', .int .i64 q.prot]) :: (.slice (some ⟨blk, 0, none⟩) 1 1) :: v' :: s56 :: s57 :: [] : List Value).toArray, []⟩ W') :
    (regS 8).wpIn (Fence.wide.inRound lo) n Try.prog (Exit.then K Q) ⟨(s0 :: s1 :: s2 :: s3 :: .pointer (some ⟨B4, 0, none⟩) :: .pointer (some ⟨B5, 0, none⟩) :: .pointer (some ⟨B6, 0, none⟩) :: .pointer (some ⟨B7, 0, none⟩) :: s8 :: .pointer (some ⟨Bx, 0, none⟩) :: .int .i64 bh :: s11 :: s12 :: s13 :: s14 :: s15 :: s16 :: s17 :: s18 :: s19 :: s20 :: s21 :: s22 :: s23 :: s24 :: s25 :: s26 :: s27 :: s28 :: s29 :: s30 :: s31 :: s32 :: s33 :: s34 :: s35 :: s36 :: s37 :: s38 :: s39 :: s40 :: s41 :: s42 :: s43 :: s44 :: s45 :: s46 :: s47 :: s48 :: s49 :: s50 :: s51 :: s52 :: s53 :: s54 :: s55 :: s56 :: s57 :: [] : List Value).toArray, []⟩ W := by
  have cP := fun w => part_any p bh (p.fin - bh) w h1 (by omega) h3
  have hw : IntKind.i64.wrap (p.fin - bh) = p.fin - bh := wrap_fit (by unfold fit; omega)
  have cE := fun w => gend_any p w (by unfold fit; omega)
  unfold Pc.agg at cE
  obtain ⟨fin, hfin⟩ : ∃ fin, p.fin = fin := ⟨_, rfl⟩
  rw [hfin] at hw cP cE hq
  simp only [hfin] at hK
  rw [← hq] at cP
  clear hq
  unfold Pc.agg at cP
  have HS : Hid (∀ w', Turn (fun j => j = B7 ∨ Blk vin j) W w' → (w'.cell? ⟨Bx, 0, none⟩ = some (.int .i64 p.at') ∧ w'.cell? ⟨Bx, 1, none⟩ = some (.int .i64 p.len) ∧ w'.cell? ⟨Bx, 2, none⟩ = some (.int .i64 p.vmo) ∧ w'.cell? ⟨Bx, 3, none⟩ = some (.int .i64 p.from') ∧ w'.cell? ⟨Bx, 4, none⟩ = some (.int .i64 p.prot)) ∧ w'.cell? ⟨B4, 0, none⟩ = some (.int .i64 x) ∧ w'.cell? ⟨B5, 0, none⟩ = some (.int .i64 nn)) := Lib.hid (fun w' t => by
    have g9 := t.heap b9 (fun h => h.elim hd.1 (fun h => (hv _ h).1 rfl))
    have g4 : Boxed w' B4 3 (.int .i64 x) := t.heap b4 (fun h => h.elim hd.2.1 (fun h => (hv _ h).2.1 rfl))
    have g5 : Boxed w' B5 3 (.int .i64 nn) := t.heap b5 (fun h => h.elim hd.2.2 (fun h => (hv _ h).2.2.1 rfl))
    have x0 := cell_at g9 0
    have x1 := cell_at g9 1
    have x2 := cell_at g9 2
    have x3 := cell_at g9 3
    have x4 := cell_at g9 4
    simp at x0 x1 x2 x3 x4
    exact ⟨⟨x0, x1, x2, x3, x4⟩, g4.cell, g5.cell⟩)
  have T0 : Turn (fun j => j = B7 ∨ Blk vin j) W W.drew := (Turn.refl _ _).drew
  have e6 : W.drew.cell? ⟨B7, 0, none⟩ = some vin := b6.cell
  have HB := Lib.hid (And.intro b6 hr)
  clear b9 b4 b5 b6 hr
  conv => arg 4; whnf
  refine round_held (S := fun w' => (w'.cell? ⟨Bx, 0, none⟩ = some (.int .i64 p.at') ∧ w'.cell? ⟨Bx, 1, none⟩ = some (.int .i64 p.len) ∧ w'.cell? ⟨Bx, 2, none⟩ = some (.int .i64 p.vmo) ∧ w'.cell? ⟨Bx, 3, none⟩ = some (.int .i64 p.from') ∧ w'.cell? ⟨Bx, 4, none⟩ = some (.int .i64 p.prot)) ∧ w'.cell? ⟨B4, 0, none⟩ = some (.int .i64 x) ∧ w'.cell? ⟨B5, 0, none⟩ = some (.int .i64 nn)) (by kernel_rfl) (by kernel_rfl) (fun ⟨a, w, h⟩ => hL ⟨a, w, h⟩) (HS.out _ T0) (fun hHeld => ?_)
  refine wpAnyH_take (i := 1) (oi := ?oi1) (v := ?v1) ?hi1 (by kernel_rfl) (by kernel_rfl) (by kernel_rfl) ?hq1 (Or.inl ⟨?hw1, ?hy1⟩) (by assumption) ?rest1
  case hi1 => rfl
  case hq1 => exact fun c a w h => absurd h (hQp c _ w)
  case hw1 => rfl
  case hy1 => (intro w hSw; (try dsimp only at hSw); go_simp; (try (with_reducible rfl)))
  (try simp only [Act.put, List.setIfInBounds_toArray, List.set_cons_zero, List.set_cons_succ])
  refine wpAnyH_take (i := 2) (oi := ?oi2) (v := ?v2) ?hi2 (by kernel_rfl) (by kernel_rfl) (by kernel_rfl) ?hq2 (Or.inl ⟨?hw2, ?hy2⟩) (by assumption) ?rest2
  case hi2 => rfl
  case hq2 => exact fun c a w h => absurd h (hQp c _ w)
  case hw2 => rfl
  case hy2 => (intro w hSw; (try dsimp only at hSw); go_simp; (try (with_reducible rfl)))
  (try simp only [Act.put, List.setIfInBounds_toArray, List.set_cons_zero, List.set_cons_succ])
  refine wpAnyH_take (i := 3) (oi := ?oi3) (v := ?v3) ?hi3 (by kernel_rfl) (by kernel_rfl) (by kernel_rfl) ?hq3 (Or.inl ⟨?hw3, ?hy3⟩) (by assumption) ?rest3
  case hi3 => rfl
  case hq3 => exact fun c a w h => absurd h (hQp c _ w)
  case hw3 => rfl
  case hy3 => (intro w hSw; (try dsimp only at hSw); go_simp; (try (with_reducible rfl)))
  (try simp only [Act.put, List.setIfInBounds_toArray, List.set_cons_zero, List.set_cons_succ])
  refine wpAnyH_take (i := 5) (oi := ?oi4) (v := ?v4) ?hi4 (by kernel_rfl) (by kernel_rfl) (by kernel_rfl) ?hq4 (Or.inl ⟨?hw4, ?hy4⟩) (by assumption) ?rest4
  case hi4 => rfl
  case hq4 => exact fun c a w h => absurd h (hQp c _ w)
  case hw4 => rfl
  case hy4 => (intro w hSw; (try dsimp only at hSw); go_simp; (try (with_reducible rfl)))
  (try simp only [Act.put, List.setIfInBounds_toArray, List.set_cons_zero, List.set_cons_succ])
  refine wpAnyH_ready (rs := [0, 4]) (by kernel_rfl) (by simp) ?_
  refine AllReadyH.cons rfl (fun K' hK' => ?_) ?_
  · go_simp
    refine hK'.out _ _ (HS.out _ (by assumption)) (fun hHeld => ?_)
    clear hK' K'
    (try simp only [Act.put, List.setIfInBounds_toArray, List.set_cons_zero, List.set_cons_succ])
    refine wpAnyH_ready (rs := [4]) (by kernel_rfl) (by simp) ?_
    refine AllReadyH.cons rfl (fun K' hK' => ?_) AllReadyH.nil
    go_simp
    (go_at_call 75; (with_reducible refine (cE _).mono ?_); rintro e w0 ⟨rfl, t0⟩)
    have T00 : Turn (fun j => j = B7 ∨ Blk vin j) W w0 := T0.trans t0 (fun _ h => h.elim)
    have e7 : w0.cell? ⟨B7, 0, none⟩ = some vin := Boxed.cell (t0.heap HB.out.1 (fun h => h))
    refine hK'.out _ _ (HS.out _ (by assumption)) (fun hHeld => ?_)
    clear hK' K'
    (try simp only [Act.put, List.setIfInBounds_toArray, List.set_cons_zero, List.set_cons_succ])
    refine wpAnyH_take (i := 6) (oi := ?oi5) (v := ?v5) ?hi5 (by kernel_rfl) (by kernel_rfl) (by kernel_rfl) ?hq5 (Or.inl ⟨?hw5, ?hy5⟩) (by assumption) ?rest5
    case hi5 => rfl
    case hq5 => exact fun c a w h => absurd h (hQp c _ w)
    case hw5 => rfl
    case hy5 => (intro w hSw; (try dsimp only at hSw); go_simp; (try (with_reducible rfl)))
    (try simp only [Act.put, List.setIfInBounds_toArray, List.set_cons_zero, List.set_cons_succ])
    refine wpAnyH_ready (rs := [7]) (by kernel_rfl) (by simp) ?_
    refine AllReadyH.cons rfl (fun K' hK' => ?_) AllReadyH.nil
    go_simp
    (go_at_call 96; (with_reducible refine (cP _).mono ?_); rintro e w1 ⟨rfl, t1⟩)
    have T1 : Turn (fun j => j = B7 ∨ Blk vin j) W w1 := T00.trans t1 (fun _ h => h.elim)
    have t9 : Turn NoBlock W w1 := (((Turn.refl NoBlock W).drew).trans t0 (fun _ h => .inl h)).trans t1 (fun _ h => .inl h)
    have e8 : w1.cell? ⟨B7, 0, none⟩ = some vin := Boxed.cell (t9.heap HB.out.1 (fun h => h))
    obtain ⟨v', W2, hap, r2, k2, t2⟩ := append_one (HB.out.2.past t9) q (by omega)
    have T2 : Turn (fun j => j = B7 ∨ Blk vin j) W (w1.alloc (.cells #[.int .i64 q.at', .int .i64 q.len, .int .i64 q.vmo, .int .i64 q.from', .int .i64 q.prot] 61)) := T1.alloc _
    have T3 : Turn (fun j => j = B7 ∨ Blk vin j) W W2 := T2.trans t2 (fun _ h => .inl (.inr h))
    have T4 : Turn (fun j => j = B7 ∨ Blk vin j) W (W2.setCell ⟨B7, 0, none⟩ v') := T3.setCell (p := ⟨B7, 0, none⟩) (.inl (.inl rfl)) _
    have e9 : (w1.alloc (.cells #[.int .i64 q.at', .int .i64 q.len, .int .i64 q.vmo, .int .i64 q.from', .int .i64 q.prot] 61)).cell? ⟨B7, 0, none⟩ = some vin := Boxed.cell ((t9.alloc _).heap HB.out.1 (fun h => h))
    have G0 : Boxed W2 B7 65 vin := t2.heap ((t9.alloc _).heap HB.out.1 (fun h => h)) (fun h => (hv _ h).2.2.2 rfl)
    have G1 : Boxed (W2.setCell ⟨B7, 0, none⟩ v') B7 65 v' := G0.set _
    have G2 : PRow v' (li ++ [q]) (W2.setCell ⟨B7, 0, none⟩ v') := (own_prow v' _).kept _ _ _ r2 ((Turn.refl (fun j => j = B7) W2).setCell (p := ⟨B7, 0, none⟩) (.inl rfl) _) (fun j hj e => by
      rcases k2 j hj with h | h
      · exact (hv j h).2.2.2 e
      · have z1 := HB.out.1.lt
        have z2 := t9.size
        omega)
    have G3 : ∀ j, Blk v' j → Blk vin j ∨ W.heap.size ≤ j := fun j hj => (k2 j hj).imp id (fun h => by have z2 := t9.size; omega)
    have f1 := G0.cell
    have f2 := G0.frozen
    have G4 := Lib.hid (And.intro G1 G2)
    clear G1 G2 G0 k2 r2 t2
    obtain ⟨p', c', hvv⟩ : ∃ p' c', v' = .slice p' (li.length + 1) c' := by
      obtain ⟨p', c', h⟩ := G4.out.2.slice
      exact ⟨p', c', by rw [h]; simp⟩
    subst hvv
    refine hK'.out _ _ (HS.out _ (by assumption)) (fun hHeld => ?_)
    clear hK' K'
    (try simp only [Act.put, List.setIfInBounds_toArray, List.set_cons_zero, List.set_cons_succ])
    refine wpAnyH_ready (rs := [8]) (by kernel_rfl) (by simp) ?_
    refine AllReadyH.cons rfl (fun K' hK' => ?_) AllReadyH.nil
    go_simp
    refine hK'.out _ _ (HS.out _ (by assumption)) (fun hHeld => ?_)
    clear hK' K'
    (try simp only [Act.put, List.setIfInBounds_toArray, List.set_cons_zero, List.set_cons_succ])
    refine wpAnyH_ready (rs := [9]) (by kernel_rfl) (by simp) ?_
    refine AllReadyH.cons rfl (fun K' hK' => ?_) AllReadyH.nil
    refine Eq.mpr (if_pos (show Region.wanted _ _ = true from rfl)) ?_
    refine Lib.wp_append_run _ (.tmp 46) (.tmp 54) 65 65 rfl _ _ rfl rfl _ _ (hap _) ?_
    refine hK'.out _ _ (HS.out _ (by assumption)) (fun hHeld => ?_)
    clear hK' K'
    (try simp only [Act.put, List.setIfInBounds_toArray, List.set_cons_zero, List.set_cons_succ])
    refine wpAnyH_ready (rs := [10]) (by kernel_rfl) (by simp) ?_
    refine AllReadyH.cons rfl (fun K' hK' => ?_) AllReadyH.nil
    go_simp
    refine hK'.out _ _ (HS.out _ (by assumption)) (fun hHeld => ?_)
    clear hK' K'
    (try simp only [Act.put, List.setIfInBounds_toArray, List.set_cons_zero, List.set_cons_succ])
    refine wpAnyH_done (by kernel_rfl) ?_ _
    exact hK _ _ _ G4.out.1 G4.out.2 G3 T4
  refine AllReadyH.cons rfl (fun K' hK' => ?_) AllReadyH.nil
  go_simp
  (go_at_call 75; (with_reducible refine (cE _).mono ?_); rintro e w0 ⟨rfl, t0⟩)
  have T00 : Turn (fun j => j = B7 ∨ Blk vin j) W w0 := T0.trans t0 (fun _ h => h.elim)
  have e7 : w0.cell? ⟨B7, 0, none⟩ = some vin := Boxed.cell (t0.heap HB.out.1 (fun h => h))
  refine hK'.out _ _ (HS.out _ (by assumption)) (fun hHeld => ?_)
  clear hK' K'
  (try simp only [Act.put, List.setIfInBounds_toArray, List.set_cons_zero, List.set_cons_succ])
  refine wpAnyH_take (i := 6) (oi := ?oi6) (v := ?v6) ?hi6 (by kernel_rfl) (by kernel_rfl) (by kernel_rfl) ?hq6 (Or.inl ⟨?hw6, ?hy6⟩) (by assumption) ?rest6
  case hi6 => rfl
  case hq6 => exact fun c a w h => absurd h (hQp c _ w)
  case hw6 => rfl
  case hy6 => (intro w hSw; (try dsimp only at hSw); go_simp; (try (with_reducible rfl)))
  (try simp only [Act.put, List.setIfInBounds_toArray, List.set_cons_zero, List.set_cons_succ])
  refine wpAnyH_ready (rs := [0, 7]) (by kernel_rfl) (by simp) ?_
  refine AllReadyH.cons rfl (fun K' hK' => ?_) ?_
  · go_simp
    refine hK'.out _ _ (HS.out _ (by assumption)) (fun hHeld => ?_)
    clear hK' K'
    (try simp only [Act.put, List.setIfInBounds_toArray, List.set_cons_zero, List.set_cons_succ])
    refine wpAnyH_ready (rs := [7]) (by kernel_rfl) (by simp) ?_
    refine AllReadyH.cons rfl (fun K' hK' => ?_) AllReadyH.nil
    go_simp
    (go_at_call 96; (with_reducible refine (cP _).mono ?_); rintro e w1 ⟨rfl, t1⟩)
    have T1 : Turn (fun j => j = B7 ∨ Blk vin j) W w1 := T00.trans t1 (fun _ h => h.elim)
    have t9 : Turn NoBlock W w1 := (((Turn.refl NoBlock W).drew).trans t0 (fun _ h => .inl h)).trans t1 (fun _ h => .inl h)
    have e8 : w1.cell? ⟨B7, 0, none⟩ = some vin := Boxed.cell (t9.heap HB.out.1 (fun h => h))
    obtain ⟨v', W2, hap, r2, k2, t2⟩ := append_one (HB.out.2.past t9) q (by omega)
    have T2 : Turn (fun j => j = B7 ∨ Blk vin j) W (w1.alloc (.cells #[.int .i64 q.at', .int .i64 q.len, .int .i64 q.vmo, .int .i64 q.from', .int .i64 q.prot] 61)) := T1.alloc _
    have T3 : Turn (fun j => j = B7 ∨ Blk vin j) W W2 := T2.trans t2 (fun _ h => .inl (.inr h))
    have T4 : Turn (fun j => j = B7 ∨ Blk vin j) W (W2.setCell ⟨B7, 0, none⟩ v') := T3.setCell (p := ⟨B7, 0, none⟩) (.inl (.inl rfl)) _
    have e9 : (w1.alloc (.cells #[.int .i64 q.at', .int .i64 q.len, .int .i64 q.vmo, .int .i64 q.from', .int .i64 q.prot] 61)).cell? ⟨B7, 0, none⟩ = some vin := Boxed.cell ((t9.alloc _).heap HB.out.1 (fun h => h))
    have G0 : Boxed W2 B7 65 vin := t2.heap ((t9.alloc _).heap HB.out.1 (fun h => h)) (fun h => (hv _ h).2.2.2 rfl)
    have G1 : Boxed (W2.setCell ⟨B7, 0, none⟩ v') B7 65 v' := G0.set _
    have G2 : PRow v' (li ++ [q]) (W2.setCell ⟨B7, 0, none⟩ v') := (own_prow v' _).kept _ _ _ r2 ((Turn.refl (fun j => j = B7) W2).setCell (p := ⟨B7, 0, none⟩) (.inl rfl) _) (fun j hj e => by
      rcases k2 j hj with h | h
      · exact (hv j h).2.2.2 e
      · have z1 := HB.out.1.lt
        have z2 := t9.size
        omega)
    have G3 : ∀ j, Blk v' j → Blk vin j ∨ W.heap.size ≤ j := fun j hj => (k2 j hj).imp id (fun h => by have z2 := t9.size; omega)
    have f1 := G0.cell
    have f2 := G0.frozen
    have G4 := Lib.hid (And.intro G1 G2)
    clear G1 G2 G0 k2 r2 t2
    obtain ⟨p', c', hvv⟩ : ∃ p' c', v' = .slice p' (li.length + 1) c' := by
      obtain ⟨p', c', h⟩ := G4.out.2.slice
      exact ⟨p', c', by rw [h]; simp⟩
    subst hvv
    refine hK'.out _ _ (HS.out _ (by assumption)) (fun hHeld => ?_)
    clear hK' K'
    (try simp only [Act.put, List.setIfInBounds_toArray, List.set_cons_zero, List.set_cons_succ])
    refine wpAnyH_ready (rs := [8]) (by kernel_rfl) (by simp) ?_
    refine AllReadyH.cons rfl (fun K' hK' => ?_) AllReadyH.nil
    go_simp
    refine hK'.out _ _ (HS.out _ (by assumption)) (fun hHeld => ?_)
    clear hK' K'
    (try simp only [Act.put, List.setIfInBounds_toArray, List.set_cons_zero, List.set_cons_succ])
    refine wpAnyH_ready (rs := [9]) (by kernel_rfl) (by simp) ?_
    refine AllReadyH.cons rfl (fun K' hK' => ?_) AllReadyH.nil
    refine Eq.mpr (if_pos (show Region.wanted _ _ = true from rfl)) ?_
    refine Lib.wp_append_run _ (.tmp 46) (.tmp 54) 65 65 rfl _ _ rfl rfl _ _ (hap _) ?_
    refine hK'.out _ _ (HS.out _ (by assumption)) (fun hHeld => ?_)
    clear hK' K'
    (try simp only [Act.put, List.setIfInBounds_toArray, List.set_cons_zero, List.set_cons_succ])
    refine wpAnyH_ready (rs := [10]) (by kernel_rfl) (by simp) ?_
    refine AllReadyH.cons rfl (fun K' hK' => ?_) AllReadyH.nil
    go_simp
    refine hK'.out _ _ (HS.out _ (by assumption)) (fun hHeld => ?_)
    clear hK' K'
    (try simp only [Act.put, List.setIfInBounds_toArray, List.set_cons_zero, List.set_cons_succ])
    refine wpAnyH_done (by kernel_rfl) ?_ _
    exact hK _ _ _ G4.out.1 G4.out.2 G3 T4
  refine AllReadyH.cons rfl (fun K' hK' => ?_) AllReadyH.nil
  go_simp
  (go_at_call 96; (with_reducible refine (cP _).mono ?_); rintro e w1 ⟨rfl, t1⟩)
  have T1 : Turn (fun j => j = B7 ∨ Blk vin j) W w1 := T00.trans t1 (fun _ h => h.elim)
  have t9 : Turn NoBlock W w1 := (((Turn.refl NoBlock W).drew).trans t0 (fun _ h => .inl h)).trans t1 (fun _ h => .inl h)
  have e8 : w1.cell? ⟨B7, 0, none⟩ = some vin := Boxed.cell (t9.heap HB.out.1 (fun h => h))
  obtain ⟨v', W2, hap, r2, k2, t2⟩ := append_one (HB.out.2.past t9) q (by omega)
  have T2 : Turn (fun j => j = B7 ∨ Blk vin j) W (w1.alloc (.cells #[.int .i64 q.at', .int .i64 q.len, .int .i64 q.vmo, .int .i64 q.from', .int .i64 q.prot] 61)) := T1.alloc _
  have T3 : Turn (fun j => j = B7 ∨ Blk vin j) W W2 := T2.trans t2 (fun _ h => .inl (.inr h))
  have T4 : Turn (fun j => j = B7 ∨ Blk vin j) W (W2.setCell ⟨B7, 0, none⟩ v') := T3.setCell (p := ⟨B7, 0, none⟩) (.inl (.inl rfl)) _
  have e9 : (w1.alloc (.cells #[.int .i64 q.at', .int .i64 q.len, .int .i64 q.vmo, .int .i64 q.from', .int .i64 q.prot] 61)).cell? ⟨B7, 0, none⟩ = some vin := Boxed.cell ((t9.alloc _).heap HB.out.1 (fun h => h))
  have G0 : Boxed W2 B7 65 vin := t2.heap ((t9.alloc _).heap HB.out.1 (fun h => h)) (fun h => (hv _ h).2.2.2 rfl)
  have G1 : Boxed (W2.setCell ⟨B7, 0, none⟩ v') B7 65 v' := G0.set _
  have G2 : PRow v' (li ++ [q]) (W2.setCell ⟨B7, 0, none⟩ v') := (own_prow v' _).kept _ _ _ r2 ((Turn.refl (fun j => j = B7) W2).setCell (p := ⟨B7, 0, none⟩) (.inl rfl) _) (fun j hj e => by
    rcases k2 j hj with h | h
    · exact (hv j h).2.2.2 e
    · have z1 := HB.out.1.lt
      have z2 := t9.size
      omega)
  have G3 : ∀ j, Blk v' j → Blk vin j ∨ W.heap.size ≤ j := fun j hj => (k2 j hj).imp id (fun h => by have z2 := t9.size; omega)
  have f1 := G0.cell
  have f2 := G0.frozen
  have G4 := Lib.hid (And.intro G1 G2)
  clear G1 G2 G0 k2 r2 t2
  obtain ⟨p', c', hvv⟩ : ∃ p' c', v' = .slice p' (li.length + 1) c' := by
    obtain ⟨p', c', h⟩ := G4.out.2.slice
    exact ⟨p', c', by rw [h]; simp⟩
  subst hvv
  refine hK'.out _ _ (HS.out _ (by assumption)) (fun hHeld => ?_)
  clear hK' K'
  (try simp only [Act.put, List.setIfInBounds_toArray, List.set_cons_zero, List.set_cons_succ])
  refine wpAnyH_ready (rs := [0, 8]) (by kernel_rfl) (by simp) ?_
  refine AllReadyH.cons rfl (fun K' hK' => ?_) ?_
  · go_simp
    refine hK'.out _ _ (HS.out _ (by assumption)) (fun hHeld => ?_)
    clear hK' K'
    (try simp only [Act.put, List.setIfInBounds_toArray, List.set_cons_zero, List.set_cons_succ])
    refine wpAnyH_ready (rs := [8]) (by kernel_rfl) (by simp) ?_
    refine AllReadyH.cons rfl (fun K' hK' => ?_) AllReadyH.nil
    go_simp
    refine hK'.out _ _ (HS.out _ (by assumption)) (fun hHeld => ?_)
    clear hK' K'
    (try simp only [Act.put, List.setIfInBounds_toArray, List.set_cons_zero, List.set_cons_succ])
    refine wpAnyH_ready (rs := [9]) (by kernel_rfl) (by simp) ?_
    refine AllReadyH.cons rfl (fun K' hK' => ?_) AllReadyH.nil
    refine Eq.mpr (if_pos (show Region.wanted _ _ = true from rfl)) ?_
    refine Lib.wp_append_run _ (.tmp 46) (.tmp 54) 65 65 rfl _ _ rfl rfl _ _ (hap _) ?_
    refine hK'.out _ _ (HS.out _ (by assumption)) (fun hHeld => ?_)
    clear hK' K'
    (try simp only [Act.put, List.setIfInBounds_toArray, List.set_cons_zero, List.set_cons_succ])
    refine wpAnyH_ready (rs := [10]) (by kernel_rfl) (by simp) ?_
    refine AllReadyH.cons rfl (fun K' hK' => ?_) AllReadyH.nil
    go_simp
    refine hK'.out _ _ (HS.out _ (by assumption)) (fun hHeld => ?_)
    clear hK' K'
    (try simp only [Act.put, List.setIfInBounds_toArray, List.set_cons_zero, List.set_cons_succ])
    refine wpAnyH_done (by kernel_rfl) ?_ _
    exact hK _ _ _ G4.out.1 G4.out.2 G3 T4
  refine AllReadyH.cons rfl (fun K' hK' => ?_) AllReadyH.nil
  go_simp
  refine hK'.out _ _ (HS.out _ (by assumption)) (fun hHeld => ?_)
  clear hK' K'
  (try simp only [Act.put, List.setIfInBounds_toArray, List.set_cons_zero, List.set_cons_succ])
  refine wpAnyH_ready (rs := [0]) (by kernel_rfl) (by simp) ?_
  refine AllReadyH.cons rfl (fun K' hK' => ?_) AllReadyH.nil
  go_simp
  refine hK'.out _ _ (HS.out _ (by assumption)) (fun hHeld => ?_)
  clear hK' K'
  (try simp only [Act.put, List.setIfInBounds_toArray, List.set_cons_zero, List.set_cons_succ])
  refine wpAnyH_ready (rs := [9]) (by kernel_rfl) (by simp) ?_
  refine AllReadyH.cons rfl (fun K' hK' => ?_) AllReadyH.nil
  refine Eq.mpr (if_pos (show Region.wanted _ _ = true from rfl)) ?_
  refine Lib.wp_append_run _ (.tmp 46) (.tmp 54) 65 65 rfl _ _ rfl rfl _ _ (hap _) ?_
  refine hK'.out _ _ (HS.out _ (by assumption)) (fun hHeld => ?_)
  clear hK' K'
  (try simp only [Act.put, List.setIfInBounds_toArray, List.set_cons_zero, List.set_cons_succ])
  refine wpAnyH_ready (rs := [10]) (by kernel_rfl) (by simp) ?_
  refine AllReadyH.cons rfl (fun K' hK' => ?_) AllReadyH.nil
  go_simp
  refine hK'.out _ _ (HS.out _ (by assumption)) (fun hHeld => ?_)
  clear hK' K'
  (try simp only [Act.put, List.setIfInBounds_toArray, List.set_cons_zero, List.set_cons_succ])
  refine wpAnyH_done (by kernel_rfl) ?_ _
  exact hK _ _ _ G4.out.1 G4.out.2 G3 T4
end Go.Proofs.Ytdddmjdlikjedaa
