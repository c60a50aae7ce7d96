/-
  Start, SetPolicy, SetCritical, Info, Exit of a tree in a law's state. Conditions: there are fewer tasks than a million.
-/
import Derived.Test.YtabakjimlndhcaaTkSt
namespace Go.Proofs.Ytabakjimlndhcaa
open Go.ChangeShapes Go.WideShapes Go.ChangeAt Go.RowKit

section
variable {w0 w w' : World} {c n p q j i : Nat} {most code : Int} {T T' : Nat → Tk} {sv : Value} {B : Nat → Nat} {V : Nat → Value} {G G' : Nat → Nat} {X : Nat → Prop}
theorem alive_st {t t' : Tk} (h : aliveB t = aliveB t') : t.st = 2 ↔ t'.st = 2 := by
  unfold aliveB at h
  simpa using h
/-- One cell of a task is another. -/
theorem KMem.setf (h : KMem w c most n T sv B V G) (hp : p < n) (t : Tk) (ht : t.par = (T p).par) (ha : aliveB t = aliveB (T p)) (j : Nat) (u : Value) (hc : ∀ v g a, (tkc (T p) v g a).setIfInBounds j u = tkc t v g a) :
    KMem (w.setCell ⟨B p, j, none⟩ u) c most n (setT T p t) sv B V G ∧ Turn (KFoot c n sv B V) w (w.setCell ⟨B p, j, none⟩ u) := by
  have t9 := (Turn.refl (KCore c n B) w).setCell (p := ⟨B p, j, none⟩) (.inl (.inr ⟨p, hp, rfl⟩)) u
  have hcp : c ≠ B p := fun e => ((h.bt hp).unlike h.ct (by decide)) e.symm
  refine ⟨h.turned t9 (setT_par t ht) ?_ (fun i hi => ?_) (fun i hi => ⟨(h.gone i hi).1, fun k q hk hq => ?_⟩), t9.mono (fun k hk => .inl (core_foot hk))⟩
  · rw [liveN_set hp t ha]
    exact set_past (p := ⟨B p, j, none⟩) h.head hcp _
  · rw [liveK_set t ht ha]
    by_cases e : i = p
    · subst e
      rw [setT_same, ← hc]
      exact set_at (h.obj i hi) j u
    · rw [setT_other _ _ e]
      exact set_past (p := ⟨B p, j, none⟩) (h.obj i hi) (fun e2 => e (h.inj i p hi hp e2)) _
  · have h2 := (h.gone i hi).2 k q hk hq
    by_cases e : q = p
    · subst e; rw [setT_same]; exact (alive_st ha).2 h2
    · rw [setT_other _ _ e]; exact h2
def startS (n : Nat) (T : Nat → Tk) (id : Int) : Int := if inN n id = false then -25 else if (T (plc id)).kind = 1 then -12 else if (T (plc id)).st ≠ 0 ∨ ((T (plc id)).kind = 3 ∧ (T ((T (plc id)).par.toNat - 1)).st ≠ 1) then -20 else 0
def startT (n : Nat) (T : Nat → Tk) (id : Int) : Nat → Tk := if startS n T id = 0 then setT T (plc id) { T (plc id) with st := 1 } else T
theorem KSt.start (h : KSt w0 w c most n T X) (hn : n ≤ 1000000) (id : Int) : Calls Try.prog 46 #[tp c, .int .i64 id] w fun x w' => x = .returned (.int .i64 (startS n T id)) ∧ KSt w0 w' c most n (startT n T id) X ∧ Kp X w w' := by
  obtain ⟨sv, B, V, G, h1, h4, h5⟩ := h.ex
  have HH := Lib.hid h
  by_cases hin : inN n id = false
  · have hs : startS n T id = -25 := by unfold startS; rw [if_pos hin]
    unfold startT
    rw [hs]
    have C := Lib.hid (find_no h1.fm id hin)
    unfold tp at *
    clear h h1 h4 h5 hin hs
    go_enter Try.func46, Try.ntmps46
    go_wp2_with (go_at_call 70; (with_reducible refine C.out.mono ?_); rintro e w2 ⟨rfl, rfl⟩)
    go_ret
    exact ⟨rfl, HH.out, Kp.of_past (Turn.refl _ _)⟩
  have hit : inN n id = true := by simpa using hin
  have hp := plc_lt hit
  have hpe := plc_id hit
  have C := Lib.hid (find_yes h1.fm hn hp)
  rw [← hpe] at C
  have o0 := h1.o0 hp
  have o2 := h1.o2 hp
  by_cases hk : (T (plc id)).kind = 1
  · have hs : startS n T id = -12 := by unfold startS; rw [if_neg hin, if_pos hk]
    unfold startT
    rw [hs]
    rw [hk] at o0
    unfold tp at *
    clear h h1 h4 h5 hin hs hit hk hpe
    go_enter Try.func46, Try.ntmps46
    go_wp2_with (go_at_call 70; (with_reducible refine C.out.mono ?_); rintro e w2 ⟨rfl, rfl⟩)
    go_ret
    exact ⟨rfl, HH.out, Kp.of_past (Turn.refl _ _)⟩
  have hkb : ((T (plc id)).kind == 1) = false := by simpa using hk
  by_cases hst : (T (plc id)).st ≠ 0
  · have hs : startS n T id = -20 := by unfold startS; rw [if_neg hin, if_neg hk, if_pos (.inl hst)]
    have hsb : ((T (plc id)).st != 0) = true := by simpa using hst
    unfold startT
    rw [hs]
    unfold tp at *
    clear h h1 h4 h5 hin hs hit hk hpe hst
    generalize (T (plc id)).kind = pk at *
    generalize (T (plc id)).st = ps at *
    go_enter Try.func46, Try.ntmps46
    go_wp2_with (go_at_call 70; (with_reducible refine C.out.mono ?_); rintro e w2 ⟨rfl, rfl⟩)
    go_ret
    exact ⟨rfl, HH.out, Kp.of_past (Turn.refl _ _)⟩
  have hst0 : (T (plc id)).st = 0 := by omega
  have fin : ∀ W, Turn NoBlock w W → startS n T id = 0 → KSt w0 (W.setCell ⟨B (plc id), 2, none⟩ (.int .i64 1)) c most n (startT n T id) X ∧ Kp X w (W.setCell ⟨B (plc id), 2, none⟩ (.int .i64 1)) := fun W tW hs0 => by
    have hal : aliveB { T (plc id) with st := 1 } = aliveB (T (plc id)) := by unfold aliveB; dsimp only; rw [hst0]; rfl
    obtain ⟨m, t⟩ := (h1.past tW).setf hp { T (plc id) with st := 1 } rfl hal 2 (.int .i64 1) (fun v g a => rfl)
    have hT : startT n T id = setT T (plc id) { T (plc id) with st := 1 } := by unfold startT; rw [if_pos hs0]
    have hpo := h.ok.pol _ hp
    rw [hT]
    exact kst_made h h4 h5 m (h.ok.set hp _ rfl rfl ⟨by show (0 : Int) ≤ 1; omega, by show (1 : Int) ≤ 2; omega⟩ hal (h.ok.dok.crit _ hp) hpo (fun h => h) (.inl rfl)) (fun k hk => .inl hk) ((tW.mono (fun _ h => h.elim)).trans t (fun k hk => .inl hk))
  by_cases hk3 : (T (plc id)).kind = 3
  · have h0 : 0 < plc id := by
      rcases Nat.eq_zero_or_pos (plc id) with e | e
      · have := h.ok.root.2; rw [e] at hk3; omega
      · exact e
    obtain ⟨i, hi, hpi, -⟩ := h.ok.up _ hp h0
    have CP := Lib.hid (parent_any h1 hn hp (show i < n by omega) hpi)
    have hpn : (T (plc id)).par.toNat - 1 = i := by omega
    by_cases hps : (T i).st ≠ 1
    · have hs : startS n T id = -20 := by unfold startS; rw [if_neg hin, if_neg hk, if_pos (.inr ⟨hk3, by rw [hpn]; exact hps⟩)]
      have hpb : ((T i).st != 1) = true := by simpa using hps
      have oi := Lib.hid (fun m => (h1.past ((Turn.refl NoBlock w).drewN m)).o2 (show i < n by omega))
      unfold startT
      rw [hs]
      rw [hk3] at o0
      rw [hst0] at o2
      unfold tp at *
      clear h h1 h4 h5 hin hs hit hk hpe hst hst0 hps hpn hpi fin hkb hk3
      generalize (T i).st = ps at *
      go_enter Try.func46, Try.ntmps46
      go_wp2_with (first
        | (go_at_call 70; (with_reducible refine C.out.mono ?_); rintro e w2 ⟨rfl, rfl⟩)
        | (go_at_call 77; (with_reducible refine CP.out.mono ?_); rintro e w2 ⟨rfl, m, rfl⟩; have y2 := oi.out m))
      go_ret
      exact ⟨rfl, HH.out.past ((Turn.refl _ _).drewN _), Kp.of_past ((Turn.refl _ _).drewN _)⟩
    · have hps1 : (T i).st = 1 := by omega
      have hs : startS n T id = 0 := by unfold startS; rw [if_neg hin, if_neg hk, if_neg (by rintro (e | ⟨-, e⟩); exact e hst0; rw [hpn] at e; exact e hps1)]
      have oi := Lib.hid (fun m => (h1.past ((Turn.refl NoBlock w).drewN m)).o2 (show i < n by omega))
      have os := Lib.hid (fun m => (h1.past ((Turn.refl NoBlock w).drewN m)).o2 hp)
      have fs := Lib.hid (fun m => free_at ((h1.past ((Turn.refl NoBlock w).drewN m)).obj _ hp) 2)
      have FIN := Lib.hid (fun W t => fin W t hs)
      rw [hps1] at oi
      rw [hs]
      rw [hk3] at o0
      rw [hst0] at o2 os
      unfold tp at *
      clear h h1 h4 h5 hin hs hit hk hpe hst hst0 hps hpn hpi fin hkb hk3 hps1
      go_enter Try.func46, Try.ntmps46
      go_wp2_with (first
        | (go_at_call 70; (with_reducible refine C.out.mono ?_); rintro e w2 ⟨rfl, rfl⟩)
        | (go_at_call 77; (with_reducible refine CP.out.mono ?_); rintro e w2 ⟨rfl, m, rfl⟩; have y2 := oi.out m; have y3 := os.out m; have y4 := fs.out m))
      go_ret
      exact ⟨rfl, FIN.out _ ((Turn.refl _ _).drewN _)⟩
  · have hs : startS n T id = 0 := by unfold startS; rw [if_neg hin, if_neg hk, if_neg (by rintro (e | ⟨e, -⟩); exact e hst0; exact hk3 e)]
    have hk3b : ((T (plc id)).kind == 3) = false := by simpa using hk3
    have fs := free_at (h1.obj _ hp) 2
    have FIN := Lib.hid (fin w (Turn.refl _ _) hs)
    rw [hs]
    rw [hst0] at o2
    unfold tp at *
    clear h h1 h4 h5 hin hs hit hk hpe hst hst0 fin hk3
    generalize (T (plc id)).kind = pk at *
    go_enter Try.func46, Try.ntmps46
    go_wp2_with (go_at_call 70; (with_reducible refine C.out.mono ?_); rintro e w2 ⟨rfl, rfl⟩)
    go_ret
    exact ⟨rfl, FIN.out⟩
end
end Go.Proofs.Ytabakjimlndhcaa
