/-
  SetPolicy and SetCritical of a tree in a law's state. Conditions: there are fewer tasks than a million.
-/
import Derived.Test.YtabakjimlndhcaaTkSet
namespace Go.Proofs.Ytabakjimlndhcaa
open Go.ChangeShapes Go.WideShapes Go.ChangeAt Go.RowKit

section
variable {w0 w w' : World} {c n p q j i : Nat} {most code : Int} {T T' : Nat → Tk} {sv : Value} {B : Nat → Nat} {V : Nat → Value} {G G' : Nat → Nat} {X : Nat → Prop}
def polS (n : Nat) (T : Nat → Tk) (id b : Int) : Int :=
  if inN n id = false then -25 else if (T (plc id)).kind ≠ 1 then -12 else if b < 0 ∨ 15 < b then -10 else if (T (plc id)).st = 2 ∨ 0 < liveK T n (plc id) then -20 else 0
def polT (n : Nat) (T : Nat → Tk) (id b : Int) : Nat → Tk := if polS n T id b = 0 then setT T (plc id) { T (plc id) with pol := bits .or .i64 (T (plc id)).pol b } else T
theorem or_small : ∀ (a b : Fin 16), (0 ≤ bits .or .i64 (a.val : Int) (b.val : Int) ∧ bits .or .i64 (a.val : Int) (b.val : Int) ≤ 15) ∧ (8 ≤ (a.val : Int) → 8 ≤ bits .or .i64 (a.val : Int) (b.val : Int)) := by decide +kernel
theorem or_ok {a b : Int} (ha : 0 ≤ a ∧ a ≤ 15) (hb : 0 ≤ b ∧ b ≤ 15) : (0 ≤ bits .or .i64 a b ∧ bits .or .i64 a b ≤ 15) ∧ (8 ≤ a → 8 ≤ bits .or .i64 a b) := by
  obtain ⟨x, rfl⟩ : ∃ x : Nat, a = x := ⟨a.toNat, by omega⟩
  obtain ⟨y, rfl⟩ : ∃ y : Nat, b = y := ⟨b.toNat, by omega⟩
  exact or_small ⟨x, by omega⟩ ⟨y, by omega⟩
theorem live_zero (h : liveK T n p = 0) : ∀ j, j < n → (T j).par = (p : Int) + 1 → (T j).st = 2 := by
  intro j hj he
  have h1 := List.countP_eq_zero.1 h j (mem_kidL.2 ⟨hj, he⟩)
  simpa [aliveB] using h1
theorem KSt.policy (h : KSt w0 w c most n T X) (hn : n ≤ 1000000) (id b : Int) : Calls Try.prog 50 #[tp c, .int .i64 id, .int .i64 b] w fun x w' => x = .returned (.int .i64 (polS n T id b)) ∧ KSt w0 w' c most n (polT n T id b) X ∧ Kp X w w' := by
  obtain ⟨sv, B, V, G, h1, h4, h5⟩ := h.ex
  have HH := Lib.hid h
  by_cases hin : inN n id = false
  · have hs : polS n T id b = -25 := by unfold polS; rw [if_pos hin]
    unfold polT
    rw [hs]
    have C := Lib.hid (find_no h1.fm id hin)
    unfold tp at *
    clear h h1 h4 h5 hin hs
    go_enter Try.func50, Try.ntmps50
    go_wp2_with (go_at_call 70; (with_reducible refine C.out.mono ?_); rintro e w2 ⟨rfl, rfl⟩)
    go_ret
    exact ⟨rfl, HH.out, Kp.of_past (Turn.refl _ _)⟩
  have hit : inN n id = true := by simpa using hin
  have hp := plc_lt hit
  have hpe := plc_id hit
  have C := Lib.hid (find_yes h1.fm hn hp)
  rw [← hpe] at C
  have o0 := h1.o0 hp
  have o2 := h1.o2 hp
  have o4 := h1.o4 hp
  have o8 := h1.o8 hp
  by_cases hk : (T (plc id)).kind ≠ 1
  · have hs : polS n T id b = -12 := by unfold polS; rw [if_neg hin, if_pos hk]
    have hkb : ((T (plc id)).kind != 1) = true := by simpa using hk
    unfold polT
    rw [hs]
    unfold tp at *
    clear h h1 h4 h5 hin hs hit hk hpe
    generalize (T (plc id)).kind = pk at *
    go_enter Try.func50, Try.ntmps50
    go_wp2_with (go_at_call 70; (with_reducible refine C.out.mono ?_); rintro e w2 ⟨rfl, rfl⟩)
    go_ret
    exact ⟨rfl, HH.out, Kp.of_past (Turn.refl _ _)⟩
  have hk1 : (T (plc id)).kind = 1 := by omega
  rw [hk1] at o0
  by_cases hb : b < 0 ∨ 15 < b
  · have hs : polS n T id b = -10 := by unfold polS; rw [if_neg hin, if_neg hk, if_pos hb]
    unfold polT
    rw [hs]
    unfold tp at *
    clear h h1 h4 h5 hin hs hit hk hpe
    by_cases hb0 : b < 0
    · clear hb
      go_enter Try.func50, Try.ntmps50
      go_wp2_with (go_at_call 70; (with_reducible refine C.out.mono ?_); rintro e w2 ⟨rfl, rfl⟩)
      go_ret
      exact ⟨rfl, HH.out, Kp.of_past (Turn.refl _ _)⟩
    · have hb1 : 15 < b := by omega
      clear hb
      go_enter Try.func50, Try.ntmps50
      go_wp2_with (go_at_call 70; (with_reducible refine C.out.mono ?_); rintro e w2 ⟨rfl, rfl⟩)
      go_ret
      exact ⟨rfl, HH.out, Kp.of_past (Turn.refl _ _)⟩
  have b0 : ¬ b < 0 := fun e => hb (.inl e)
  have b1 : ¬ 15 < b := fun e => hb (.inr e)
  by_cases hst : (T (plc id)).st = 2
  · have hs : polS n T id b = -20 := by unfold polS; rw [if_neg hin, if_neg hk, if_neg hb, if_pos (.inl hst)]
    unfold polT
    rw [hs]
    rw [hst] at o2
    unfold tp at *
    clear h h1 h4 h5 hin hs hit hk hpe hb hst hk1
    go_enter Try.func50, Try.ntmps50
    go_wp2_with (go_at_call 70; (with_reducible refine C.out.mono ?_); rintro e w2 ⟨rfl, rfl⟩)
    go_ret
    exact ⟨rfl, HH.out, Kp.of_past (Turn.refl _ _)⟩
  have hsb : ((T (plc id)).st == 2) = false := by simpa using hst
  by_cases hl : 0 < liveK T n (plc id)
  · have hs : polS n T id b = -20 := by unfold polS; rw [if_neg hin, if_neg hk, if_neg hb, if_pos (.inr hl)]
    have hl' : (0 : Int) < (liveK T n (plc id) : Int) := by omega
    unfold polT
    rw [hs]
    unfold tp at *
    clear h h1 h4 h5 hin hs hit hk hpe hb hst hk1 hl
    generalize (T (plc id)).st = ps at *
    generalize liveK T n (plc id) = lk at *
    go_enter Try.func50, Try.ntmps50
    go_wp2_with (go_at_call 70; (with_reducible refine C.out.mono ?_); rintro e w2 ⟨rfl, rfl⟩)
    go_ret
    exact ⟨rfl, HH.out, Kp.of_past (Turn.refl _ _)⟩
  have hl0 : liveK T n (plc id) = 0 := by omega
  have hs : polS n T id b = 0 := by unfold polS; rw [if_neg hin, if_neg hk, if_neg hb, if_neg (by rintro (e | e); exact hst e; exact hl e)]
  have hor := or_ok (h.ok.pol _ hp) (show 0 ≤ b ∧ b ≤ 15 by omega)
  have FIN := Lib.hid (show KSt w0 (w.setCell ⟨B (plc id), 4, none⟩ (.int .i64 (bits .or .i64 (T (plc id)).pol b))) c most n (polT n T id b) X ∧ Kp X w (w.setCell ⟨B (plc id), 4, none⟩ (.int .i64 (bits .or .i64 (T (plc id)).pol b))) from by
    obtain ⟨m, t⟩ := h1.setf hp { T (plc id) with pol := bits .or .i64 (T (plc id)).pol b } rfl rfl 4 (.int .i64 (bits .or .i64 (T (plc id)).pol b)) (fun v g a => rfl)
    have hT : polT n T id b = setT T (plc id) { T (plc id) with pol := bits .or .i64 (T (plc id)).pol b } := by unfold polT; rw [if_pos hs]
    rw [hT]
    exact kst_made h h4 h5 m (h.ok.set hp _ rfl rfl (h.ok.st _ hp) rfl (h.ok.dok.crit _ hp) hor.1 hor.2 (.inr (live_zero hl0))) (fun k hk => .inl hk) t)
  have f4 := free_at (h1.obj _ hp) 4
  rw [hl0] at o8
  rw [hs]
  unfold tp at *
  clear h h1 h4 h5 hin hs hit hk hpe hb hst hk1 hl hl0 hor
  generalize (T (plc id)).st = ps at *
  generalize (T (plc id)).pol = po at *
  go_enter Try.func50, Try.ntmps50
  go_wp2_with (go_at_call 70; (with_reducible refine C.out.mono ?_); rintro e w2 ⟨rfl, rfl⟩)
  go_ret
  exact ⟨rfl, FIN.out⟩
/-- The place of the process's job. -/
def critS (n : Nat) (T : Nat → Tk) (a b : Int) : Int :=
  if inN n a = false ∨ inN n b = false then -25 else if (T (plc a)).kind ≠ 2 ∨ (T (plc b)).kind ≠ 1 then -12 else if underB n T a b = false then -10 else
  if (T (plc a)).st = 2 ∨ (T (plc b)).st = 2 ∨ (T (plc a)).crit ≠ 0 then -20 else if bits .and .i64 (T ((T (plc a)).par.toNat - 1)).pol 8 ≠ 0 then -30 else 0
def critT (n : Nat) (T : Nat → Tk) (a b : Int) : Nat → Tk := if critS n T a b = 0 then setT T (plc a) { T (plc a) with crit := b } else T
theorem KSt.critical (h : KSt w0 w c most n T X) (hn : n ≤ 1000000) (a b : Int) : Calls Try.prog 49 #[tp c, .int .i64 a, .int .i64 b] w fun x w' => x = .returned (.int .i64 (critS n T a b)) ∧ KSt w0 w' c most n (critT n T a b) X ∧ Kp X w w' := by
  obtain ⟨sv, B, V, G, h1, h4, h5⟩ := h.ex
  have HH := Lib.hid h
  by_cases hia : inN n a = false
  · have hs : critS n T a b = -25 := by unfold critS; rw [if_pos (.inl hia)]
    unfold critT
    rw [hs]
    have CA := Lib.hid (find_no h1.fm a hia)
    by_cases hib : inN n b = false
    · have CB := Lib.hid (find_no h1.fm b hib)
      unfold tp at *
      clear h h1 h4 h5 hia hib hs
      go_enter Try.func49, Try.ntmps49
      go_wp2_with (first
        | (go_at_call 70; (with_reducible refine CA.out.mono ?_); rintro e w2 ⟨rfl, rfl⟩)
        | (go_at_call 70; (with_reducible refine CB.out.mono ?_); rintro e w2 ⟨rfl, rfl⟩))
      go_ret
      exact ⟨rfl, HH.out, Kp.of_past (Turn.refl _ _)⟩
    · have hit : inN n b = true := by simpa using hib
      have CB := Lib.hid (find_yes h1.fm hn (plc_lt hit))
      rw [← plc_id hit] at CB
      unfold tp at *
      clear h h1 h4 h5 hia hib hs hit
      go_enter Try.func49, Try.ntmps49
      go_wp2_with (first
        | (go_at_call 70; (with_reducible refine CA.out.mono ?_); rintro e w2 ⟨rfl, rfl⟩)
        | (go_at_call 70; (with_reducible refine CB.out.mono ?_); rintro e w2 ⟨rfl, rfl⟩))
      go_ret
      exact ⟨rfl, HH.out, Kp.of_past (Turn.refl _ _)⟩
  have hat : inN n a = true := by simpa using hia
  have hp := plc_lt hat
  have CA := Lib.hid (find_yes h1.fm hn hp)
  rw [← plc_id hat] at CA
  by_cases hib : inN n b = false
  · have hs : critS n T a b = -25 := by unfold critS; rw [if_pos (.inr hib)]
    unfold critT
    rw [hs]
    have CB := Lib.hid (find_no h1.fm b hib)
    unfold tp at *
    clear h h1 h4 h5 hia hib hs hat
    go_enter Try.func49, Try.ntmps49
    go_wp2_with (first
      | (go_at_call 70; (with_reducible refine CA.out.mono ?_); rintro e w2 ⟨rfl, rfl⟩)
      | (go_at_call 70; (with_reducible refine CB.out.mono ?_); rintro e w2 ⟨rfl, rfl⟩))
    go_ret
    exact ⟨rfl, HH.out, Kp.of_past (Turn.refl _ _)⟩
  have hbt : inN n b = true := by simpa using hib
  have hq := plc_lt hbt
  have CB := Lib.hid (find_yes h1.fm hn hq)
  rw [← plc_id hbt] at CB
  have e0 : ¬ (inN n a = false ∨ inN n b = false) := by rintro (e | e); exact hia e; exact hib e
  have a0 := h1.o0 hp
  have q0 := h1.o0 hq
  by_cases hka : (T (plc a)).kind ≠ 2
  · have hs : critS n T a b = -12 := by unfold critS; rw [if_neg e0, if_pos (.inl hka)]
    have hkb : ((T (plc a)).kind != 2) = true := by simpa using hka
    unfold critT
    rw [hs]
    unfold tp at *
    clear h h1 h4 h5 hia hib hs hat hbt e0 hka
    generalize (T (plc a)).kind = pk at *
    go_enter Try.func49, Try.ntmps49
    go_wp2_with (first
      | (go_at_call 70; (with_reducible refine CA.out.mono ?_); rintro e w2 ⟨rfl, rfl⟩)
      | (go_at_call 70; (with_reducible refine CB.out.mono ?_); rintro e w2 ⟨rfl, rfl⟩))
    go_ret
    exact ⟨rfl, HH.out, Kp.of_past (Turn.refl _ _)⟩
  have hka2 : (T (plc a)).kind = 2 := by omega
  rw [hka2] at a0
  by_cases hkq : (T (plc b)).kind ≠ 1
  · have hs : critS n T a b = -12 := by unfold critS; rw [if_neg e0, if_pos (.inr hkq)]
    have hkb : ((T (plc b)).kind != 1) = true := by simpa using hkq
    unfold critT
    rw [hs]
    unfold tp at *
    clear h h1 h4 h5 hia hib hs hat hbt e0 hka hkq hka2
    generalize (T (plc b)).kind = pk at *
    go_enter Try.func49, Try.ntmps49
    go_wp2_with (first
      | (go_at_call 70; (with_reducible refine CA.out.mono ?_); rintro e w2 ⟨rfl, rfl⟩)
      | (go_at_call 70; (with_reducible refine CB.out.mono ?_); rintro e w2 ⟨rfl, rfl⟩))
    go_ret
    exact ⟨rfl, HH.out, Kp.of_past (Turn.refl _ _)⟩
  have hkq1 : (T (plc b)).kind = 1 := by omega
  rw [hkq1] at q0
  have e1 : ¬ ((T (plc a)).kind ≠ 2 ∨ (T (plc b)).kind ≠ 1) := by rintro (e | e); exact hka e; exact hkq e
  have CU := Lib.hid (under_any h1 h.ok.dok hn a b)
  by_cases hu : underB n T a b = false
  · have hs : critS n T a b = -10 := by unfold critS; rw [if_neg e0, if_neg e1, if_pos hu]
    rw [hu] at CU
    unfold critT
    rw [hs]
    unfold tp at *
    clear h h1 h4 h5 hia hib hs hat hbt e0 hka hkq hka2 hkq1 e1 hu
    go_enter Try.func49, Try.ntmps49
    go_wp2_with (first
      | (go_at_call 70; (with_reducible refine CA.out.mono ?_); rintro e w2 ⟨rfl, rfl⟩)
      | (go_at_call 70; (with_reducible refine CB.out.mono ?_); rintro e w2 ⟨rfl, rfl⟩)
      | (go_at_call 40; (with_reducible refine CU.out.mono ?_); rintro e w2 ⟨rfl, t2⟩; have T2 := Lib.hid t2; clear t2))
    go_ret
    exact ⟨rfl, HH.out.past T2.out, Kp.of_past T2.out⟩
  have hut : underB n T a b = true := by simpa using hu
  rw [hut] at CU
  have HM := Lib.hid h1
  have HPQ := Lib.hid (And.intro hp hq)
  have ST := Lib.hid (fun W (t : Turn NoBlock w W) => And.intro ((h1.past t).o2 hp) (And.intro ((h1.past t).o2 hq) ((h1.past t).o5 hp)))
  by_cases hs1 : (T (plc a)).st = 2 ∨ (T (plc b)).st = 2 ∨ (T (plc a)).crit ≠ 0
  · have hs : critS n T a b = -20 := by unfold critS; rw [if_neg e0, if_neg e1, if_neg hu, if_pos hs1]
    unfold critT
    rw [hs]
    have HS := Lib.hid hs1
    unfold tp at *
    clear h h1 h4 h5 hia hib hs hat hbt e0 hka hkq hka2 hkq1 e1 hu hut hs1
    go_enter Try.func49, Try.ntmps49
    go_upto_region 9 with (first
      | (go_at_call 70; (with_reducible refine CA.out.mono ?_); rintro e w2 ⟨rfl, rfl⟩)
      | (go_at_call 70; (with_reducible refine CB.out.mono ?_); rintro e w2 ⟨rfl, rfl⟩)
      | (go_at_call 40; (with_reducible refine CU.out.mono ?_); rintro e w2 ⟨rfl, t2⟩; have T2 := Lib.hid t2; clear t2))
    obtain ⟨y2, z2, y5⟩ := ST.out _ T2.out
    have hs1 := HS.out
    by_cases s1 : (T (plc a)).st = 2
    · rw [s1] at y2
      clear hs1
      go_wp2
      go_ret
      exact ⟨rfl, HH.out.past T2.out, Kp.of_past T2.out⟩
    · have s1b : ((T (plc a)).st == 2) = false := by simpa using s1
      by_cases s2 : (T (plc b)).st = 2
      · rw [s2] at z2
        clear hs1 s1
        generalize (T (plc a)).st = sa at *
        go_wp2
        go_ret
        exact ⟨rfl, HH.out.past T2.out, Kp.of_past T2.out⟩
      · have s2b : ((T (plc b)).st == 2) = false := by simpa using s2
        have s3 : (T (plc a)).crit ≠ 0 := (hs1.resolve_left s1).resolve_left s2
        have s3b : ((T (plc a)).crit != 0) = true := by simpa using s3
        clear hs1 s1 s2 s3
        generalize (T (plc a)).st = sa at *
        generalize (T (plc b)).st = sb at *
        generalize (T (plc a)).crit = cr at *
        go_wp2
        go_ret
        exact ⟨rfl, HH.out.past T2.out, Kp.of_past T2.out⟩
  have s1b : ((T (plc a)).st == 2) = false := by simpa using fun e => hs1 (.inl e)
  have s2b : ((T (plc b)).st == 2) = false := by simpa using fun e => hs1 (.inr (.inl e))
  have s30 : (T (plc a)).crit = 0 := by
    by_cases e : (T (plc a)).crit = 0
    · exact e
    · exact absurd (.inr (.inr e)) hs1
  have h0 : 0 < plc a := by
    rcases Nat.eq_zero_or_pos (plc a) with e | e
    · have := h.ok.root.2; rw [e] at hka2; omega
    · exact e
  obtain ⟨i, hi, hpi, -⟩ := h.ok.up _ hp h0
  have hin : i < n := by omega
  have hpn : (T (plc a)).par.toNat - 1 = i := by omega
  have CP := Lib.hid (fun W (t : Turn NoBlock w W) => parent_any (h1.past t) hn hp hin hpi)
  have PI := Lib.hid (fun W (t : Turn NoBlock w W) => (h1.past t).o4 hin)
  by_cases hpo : bits .and .i64 (T i).pol 8 ≠ 0
  · have hs : critS n T a b = -30 := by unfold critS; rw [if_neg e0, if_neg e1, if_neg hu, if_neg hs1, hpn, if_pos hpo]
    have hpb : (bits .and .i64 (T i).pol 8 != 0) = true := by simpa using hpo
    unfold critT
    rw [hs]
    rw [s30] at ST
    unfold tp at *
    clear h h1 h4 h5 hia hib hs hat hbt e0 hka hkq hka2 hkq1 e1 hu hut hs1 hpo s30 hpi hpn
    generalize (T (plc a)).st = sa at *
    generalize (T (plc b)).st = sb at *
    generalize (T i).pol = ip at *
    go_enter Try.func49, Try.ntmps49
    go_wp2_with (first
      | (go_at_call 70; (with_reducible refine CA.out.mono ?_); rintro e w2 ⟨rfl, rfl⟩)
      | (go_at_call 70; (with_reducible refine CB.out.mono ?_); rintro e w2 ⟨rfl, rfl⟩)
      | (go_at_call 40; (with_reducible refine CU.out.mono ?_); rintro e w2 ⟨rfl, t2⟩; have T2 := Lib.hid t2; obtain ⟨y2, z2, y5⟩ := ST.out _ t2; clear t2)
      | (go_at_call 77; (with_reducible refine (CP.out _ T2.out).mono ?_); rintro e w3 ⟨rfl, m, rfl⟩; have T3 := Lib.hid (T2.out.drewN m); have x4 := PI.out _ T3.out))
    go_ret
    exact ⟨rfl, HH.out.past T3.out, Kp.of_past T3.out⟩
  have hpb : (bits .and .i64 (T i).pol 8 != 0) = false := by simpa using hpo
  have hs : critS n T a b = 0 := by unfold critS; rw [if_neg e0, if_neg e1, if_neg hu, if_neg hs1, hpn, if_neg hpo]
  have hbn := inN_iff.1 hbt
  have FIN := Lib.hid (show ∀ W, Turn NoBlock w W → KSt w0 (W.setCell ⟨B (plc a), 5, none⟩ (.int .i64 b)) c most n (critT n T a b) X ∧ Kp X w (W.setCell ⟨B (plc a), 5, none⟩ (.int .i64 b)) from fun W tW => by
    obtain ⟨m, t⟩ := (h1.past tW).setf hp { T (plc a) with crit := b } rfl rfl 5 (.int .i64 b) (fun v g a => rfl)
    have hT : critT n T a b = setT T (plc a) { T (plc a) with crit := b } := by unfold critT; rw [if_pos hs]
    rw [hT]
    exact kst_made h h4 h5 m (h.ok.set hp _ rfl rfl (h.ok.st _ hp) rfl (show 0 ≤ b ∧ b ≤ n by omega) (h.ok.pol _ hp) (fun h => h) (.inl rfl)) (fun k hk => .inl hk) ((tW.mono (fun _ h => h.elim)).trans t (fun k hk => .inl hk)))
  have FR := Lib.hid (fun W (t : Turn NoBlock w W) => And.intro (free_at ((h1.past t).obj _ hp) 5) ((h1.past t).o5 hp))
  rw [hs]
  rw [s30] at ST FR
  unfold tp at *
  clear h h1 h4 h5 hia hib hs hat hbt e0 hka hkq hka2 hkq1 e1 hu hut hs1 hpo s30 hpi hpn hbn
  generalize (T (plc a)).st = sa at *
  generalize (T (plc b)).st = sb at *
  generalize (T i).pol = ip at *
  go_enter Try.func49, Try.ntmps49
  go_wp2_with (first
    | (go_at_call 70; (with_reducible refine CA.out.mono ?_); rintro e w2 ⟨rfl, rfl⟩)
    | (go_at_call 70; (with_reducible refine CB.out.mono ?_); rintro e w2 ⟨rfl, rfl⟩)
    | (go_at_call 40; (with_reducible refine CU.out.mono ?_); rintro e w2 ⟨rfl, t2⟩; have T2 := Lib.hid t2; obtain ⟨y2, z2, y5⟩ := ST.out _ t2; clear t2)
    | (go_at_call 77; (with_reducible refine (CP.out _ T2.out).mono ?_); rintro e w3 ⟨rfl, m, rfl⟩; have T3 := Lib.hid (T2.out.drewN m); have x4 := PI.out _ T3.out; obtain ⟨x5, x6⟩ := FR.out _ T3.out))
  go_ret
  exact ⟨rfl, FIN.out _ T3.out⟩
end
end Go.Proofs.Ytabakjimlndhcaa
