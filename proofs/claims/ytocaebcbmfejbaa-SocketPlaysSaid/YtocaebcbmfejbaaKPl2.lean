/-
  SocketPlays' state: what Shut and Close make of both sockets; what both show. No conditions.
-/
import Derived.Test.YtocaebcbmfejbaaKPl
namespace Go.Proofs.Ytocaebcbmfejbaa
open Go.RowKit

/-- The law's own status of an end. -/
def stI (K : Nat → En) (e : Int) : Int := if e = 0 then shutS K 0 else if e = 1 then shutS K 1 else -10
def shI (K : Nat → En) (e : Int) (a b : Bool) : Nat → En := if e = 0 then shutK K 0 a b else if e = 1 then shutK K 1 a b else K
def clI (K : Nat → En) (e : Int) : Nat → En := if e = 0 then closeK K 0 else if e = 1 then closeK K 1 else K
section
variable {w0 w w' : World} {c x room : Nat} {dg : Bool} {Y : Nat → Prop} {K1 K : Nat → En} {C M D : Nat → Bool} {U : Nat → Value} {Q : Nat → Pcs}
theorem kp_Y (h : Kp (fun j => RF x U Q j ∨ Y j) w w') : Kp Y w w' := by
  obtain ⟨F, t, hF⟩ := h
  exact ⟨F, t, fun k hk => hF k (.inr hk)⟩
theorem p_shut (h : PSt w0 w c x dg room Y K K C M D U Q) (e : Int) (a b : Bool) :
    Calls Try.prog 30 #[.pointer (some ⟨c, 0, none⟩), .int .i64 e, .bool a, .bool b] w fun y w' => y = .returned (.int .i64 (stI K e)) ∧ PSt w0 w' c x dg room Y (shI K e a b) K C M D U Q ∧ Kp Y w w' := by
  unfold stI shI
  by_cases e0 : e = 0
  · subst e0
    rw [if_pos rfl, if_pos rfl]
    exact (h.k.shut0 a b).mono (fun y w' hh => ⟨hh.1, pst_prog h hh.2.1 hh.2.2, kp_Y hh.2.2⟩)
  · by_cases e1 : e = 1
    · subst e1
      rw [if_neg (show ¬ (1 : Int) = 0 by decide), if_pos rfl, if_neg (show ¬ (1 : Int) = 0 by decide), if_pos rfl]
      exact (h.k.shut1 a b).mono (fun y w' hh => ⟨hh.1, pst_prog h hh.2.1 hh.2.2, kp_Y hh.2.2⟩)
    · rw [if_neg e0, if_neg e1, if_neg e0, if_neg e1]
      exact (kshut_bad c e w e0 e1 a b).mono (fun y w' hh => by
        obtain ⟨rfl, rfl⟩ := hh
        exact ⟨rfl, h, Kp.of_past (Turn.refl _ _)⟩)
theorem p_close (h : PSt w0 w c x dg room Y K K C M D U Q) (e : Int) :
    Calls Try.prog 31 #[.pointer (some ⟨c, 0, none⟩), .int .i64 e] w fun y w' => y = .returned (.int .i64 (stI K e)) ∧ PSt w0 w' c x dg room Y (clI K e) K C M D U Q ∧ Kp Y w w' := by
  unfold stI clI
  by_cases e0 : e = 0
  · subst e0
    rw [if_pos rfl, if_pos rfl]
    exact h.k.close0.mono (fun y w' hh => ⟨hh.1, pst_prog h hh.2.1 hh.2.2, kp_Y hh.2.2⟩)
  · by_cases e1 : e = 1
    · subst e1
      rw [if_neg (show ¬ (1 : Int) = 0 by decide), if_pos rfl, if_neg (show ¬ (1 : Int) = 0 by decide), if_pos rfl]
      exact h.k.close1.mono (fun y w' hh => ⟨hh.1, pst_prog h hh.2.1 hh.2.2, kp_Y hh.2.2⟩)
    · rw [if_neg e0, if_neg e1, if_neg e0, if_neg e1]
      exact (kclose_bad c e w e0 e1).mono (fun y w' hh => by
        obtain ⟨rfl, rfl⟩ := hh
        exact ⟨rfl, h, Kp.of_past (Turn.refl _ _)⟩)
/-- The reference's cells of the ends have been set. -/
theorem pst_set {C' M' D' : Nat → Bool} {U' : Nat → Value} {Q' : Nat → Pcs} {K2 : Nat → En} (h : PSt w0 w c x dg room Y K2 K C M D U Q) (hr : RAt w' x dg room C' M' D' U' Q') (t : Turn (fun k => k = x) w w') (hf : ∀ k, RF x U' Q' k → RF x U Q k) (hrel : Rel dg room K2 C' M' D' Q') : PSx w0 w' c x dg room Y K2 K2 :=
  ⟨C', M', D', U', Q', h.k.more (t.mono (fun _ hk => .inl (.inl (hk ▸ .inl rfl)))) (fun k hk => .inl (hk.imp (hf k) (fun h => h))) h.mine, hr, hrel, fun j hj hx => h.ap j hj (hf j hx), fun j hj => h.mine j (hj.imp (hf j) (fun h => h)), h.r2⟩
theorem pst_x (h : PSt w0 w c x dg room Y K K C M D U Q) : PSx w0 w c x dg room Y K K := ⟨C, M, D, U, Q, h⟩
theorem rel_shut0 (h : Rel dg room K C M D Q) (ho : (K 0).op = true) (a b : Bool) : Rel dg room (shI K 0 a b) C (updN M 0 (M 0 || a)) (updN D 0 (D 0 || b)) Q := by
  have e1 : shI K 0 a b = updN K 0 (clE (K 0) a b) := by
    unfold shI shutK
    simp [ho]
  rw [e1]
  have hok := h.ok 0 (by omega)
  have hm := h.m 0 (by omega) ho
  have hd := h.d 0 (by omega) ho
  refine ⟨fun i hi => ?_, fun i hi => ?_, fun i hi h1 => ?_, fun i hi h1 => ?_, fun i hi => ?_, fun i hi => ?_, h.one, h.pos⟩
  all_goals
    by_cases hie : i = 0
    · subst hie
      first
        | (rw [updN_same] at h1)
        | skip
      rw [updN_same]
      first
        | exact ⟨hok.len, hok.sum, hok.pos, hok.no, fun hc => by rw [show (clE (K 0) a b).op = (K 0).op from rfl, ho] at hc; cases hc⟩
        | exact h.c _ hi
        | (rw [updN_same, hm]; rfl)
        | (rw [updN_same, hd]; rfl)
        | exact h.b _ hi
        | exact h.p _ hi
    · first
        | (rw [updN_other _ _ hie] at h1)
        | skip
      rw [updN_other _ _ hie]
      first
        | exact h.ok i hi
        | exact h.c i hi
        | (rw [updN_other _ _ hie]; exact h.m i hi h1)
        | (rw [updN_other _ _ hie]; exact h.d i hi h1)
        | exact h.b i hi
        | exact h.p i hi
theorem rel_close0 (h : Rel dg room K C M D Q) (ho : (K 0).op = true) : Rel dg room (clI K 0) (updN C 0 true) M D (updN Q 0 []) := by
  have e1 : clI K 0 = updN K 0 En.cl := by
    unfold clI closeK
    simp [ho]
  rw [e1]
  refine ⟨fun i hi => ?_, fun i hi => ?_, fun i hi h1 => ?_, fun i hi h1 => ?_, fun i hi => ?_, fun i hi => ?_, fun i hi => ?_, fun i hi => ?_⟩
  all_goals
    by_cases hie : i = 0
    · subst hie
      first
        | (rw [updN_same] at h1; cases h1)
        | (rw [updN_same]; exact ⟨Nat.zero_le _, fun _ => rfl, (fun _ x hx => by cases hx), fun _ => rfl, fun _ => rfl⟩)
        | (rw [updN_same, updN_same]; rfl)
        | (rw [updN_same, updN_same]; intro _; rfl)
        | (rw [updN_same]; intro _ q hq; cases hq)
        | (rw [updN_same]; intro q hq; cases hq)
    · first
        | (rw [updN_other _ _ hie] at h1; rw [updN_other _ _ hie]; first | exact h.m i hi h1 | exact h.d i hi h1)
        | (rw [updN_other _ _ hie]; exact h.ok i hi)
        | (rw [updN_other _ _ hie, updN_other _ _ hie]; exact h.c i hi)
        | (rw [updN_other _ _ hie, updN_other _ _ hie]; exact h.b i hi)
        | (rw [updN_other _ _ hie, updN_other _ _ hie]; exact h.p i hi)
        | (rw [updN_other _ _ hie]; exact h.one i hi)
        | (rw [updN_other _ _ hie]; exact h.pos i hi)
theorem t_len0 (h : PSt w0 w c x dg room Y K K C M D U Q) : (Calls Try.prog 32 #[.pointer (some ⟨c, 0, none⟩), .int .i64 0] w fun y w' => y = .returned (.int .i64 ((K 0).b.length : Nat)) ∧ w = w') ∧ Calls Try.prog 33 #[.pointer (some ⟨x, 0, none⟩), .int .i64 0] w fun y w' => y = .returned (.int .i64 ((K 0).b.length : Nat)) ∧ w = w' := by
  have h1 := rlen0 h.r (by have := h.rel.blen (e := 0) (by omega); have := h.r2; omega) (by have := h.rel.qlen (e := 0) (by omega); have := h.r2; omega)
  rw [← h.rel.b 0 (by omega)] at h1
  exact ⟨h.k.len0, h1⟩
theorem t_shows0 (h : PSt w0 w c x dg room Y K K C M D U Q) : (Calls Try.prog 36 #[.pointer (some ⟨c, 0, none⟩), .int .i64 0] w fun y w' => y = .returned (.int .i64 (shE room (K 0) (K 1))) ∧ Turn NoBlock w w') ∧ Calls Try.prog 37 #[.pointer (some ⟨x, 0, none⟩), .int .i64 0] w fun y w' => y = .returned (.int .i64 (shE room (K 0) (K 1))) ∧ Turn NoBlock w w' := by
  refine ⟨h.k.shows0, ?_⟩
  cases ho : (K 0).op with
  | false =>
    have hs : shE room (K 0) (K 1) = 0 := by unfold shE; rw [if_pos ho]
    rw [hs]
    exact rshows_closed0 h.r (by rw [h.rel.c 0 (by omega), ho]; rfl)
  | true =>
    refine rshows0 h.r (by rw [h.rel.c 0 (by omega), ho]; rfl) h.r2 (by have := h.rel.blen (e := 0) (by omega); have := h.r2; omega) (by have := h.rel.blen (e := 1) (by omega); have := h.r2; omega) (by have := h.rel.qlen (e := 0) (by omega); have := h.r2; omega) (by have := h.rel.qlen (e := 1) (by omega); have := h.r2; omega) _ ?_
    unfold shE wayS
    rw [if_neg (by rw [ho]; decide), ← h.rel.b 0 (by omega), ← h.rel.b 1 (by omega), h.rel.c 1 (by omega), h.rel.m 0 (by omega) ho]
    cases hp : (K 1).op with
    | false => simp
    | true =>
      rw [h.rel.d 1 (by omega) hp, ho]
      cases (K 0).nw <;> cases (K 1).nr <;> simp
theorem t_cells0 (h : PSt w0 w c x dg room Y K K C M D U Q) : ∃ p ca, w.cell? ⟨x, 0, none⟩ = some (.slice p (Q 0).length ca) ∧ w.cell? ⟨x, 2 + 0, none⟩ = some (.bool (!(K 0).op)) ∧ (K 0).p.length = (if dg then (Q 0).length else 0) ∧ (Q 0).length ≤ 1048576 ∧ (K 0).b.length ≤ 1048576 := by
  obtain ⟨p, ca, hv⟩ := (h.r.row 0 (by omega)).sl
  have c0 : w.cell? ⟨x, 0, none⟩ = some (U 0) := h.r.cw 0 (by omega)
  rw [hv] at c0
  have c1 := h.r.cc 0 (by omega)
  rw [h.rel.c 0 (by omega)] at c1
  refine ⟨p, ca, c0, c1, ?_, Nat.le_trans (h.rel.qlen (by omega)) h.r2, by rw [h.rel.b 0 (by omega)]; exact Nat.le_trans (h.rel.blen (by omega)) h.r2⟩
  cases hdg : dg with
  | true => rw [if_pos rfl, h.rel.p 0 (by omega) hdg, pl_len]
  | false => rw [(h.rel.ok 0 (by omega)).no hdg]; rfl
theorem rel_shut1 (h : Rel dg room K C M D Q) (ho : (K 1).op = true) (a b : Bool) : Rel dg room (shI K 1 a b) C (updN M 1 (M 1 || a)) (updN D 1 (D 1 || b)) Q := by
  have e1 : shI K 1 a b = updN K 1 (clE (K 1) a b) := by
    unfold shI shutK
    simp [ho]
  rw [e1]
  have hok := h.ok 1 (by omega)
  have hm := h.m 1 (by omega) ho
  have hd := h.d 1 (by omega) ho
  refine ⟨fun i hi => ?_, fun i hi => ?_, fun i hi h1 => ?_, fun i hi h1 => ?_, fun i hi => ?_, fun i hi => ?_, h.one, h.pos⟩
  all_goals
    by_cases hie : i = 1
    · subst hie
      first
        | (rw [updN_same] at h1)
        | skip
      rw [updN_same]
      first
        | exact ⟨hok.len, hok.sum, hok.pos, hok.no, fun hc => by rw [show (clE (K 1) a b).op = (K 1).op from rfl, ho] at hc; cases hc⟩
        | exact h.c _ hi
        | (rw [updN_same, hm]; rfl)
        | (rw [updN_same, hd]; rfl)
        | exact h.b _ hi
        | exact h.p _ hi
    · first
        | (rw [updN_other _ _ hie] at h1)
        | skip
      rw [updN_other _ _ hie]
      first
        | exact h.ok i hi
        | exact h.c i hi
        | (rw [updN_other _ _ hie]; exact h.m i hi h1)
        | (rw [updN_other _ _ hie]; exact h.d i hi h1)
        | exact h.b i hi
        | exact h.p i hi
theorem rel_close1 (h : Rel dg room K C M D Q) (ho : (K 1).op = true) : Rel dg room (clI K 1) (updN C 1 true) M D (updN Q 1 []) := by
  have e1 : clI K 1 = updN K 1 En.cl := by
    unfold clI closeK
    simp [ho]
  rw [e1]
  refine ⟨fun i hi => ?_, fun i hi => ?_, fun i hi h1 => ?_, fun i hi h1 => ?_, fun i hi => ?_, fun i hi => ?_, fun i hi => ?_, fun i hi => ?_⟩
  all_goals
    by_cases hie : i = 1
    · subst hie
      first
        | (rw [updN_same] at h1; cases h1)
        | (rw [updN_same]; exact ⟨Nat.zero_le _, fun _ => rfl, (fun _ x hx => by cases hx), fun _ => rfl, fun _ => rfl⟩)
        | (rw [updN_same, updN_same]; rfl)
        | (rw [updN_same, updN_same]; intro _; rfl)
        | (rw [updN_same]; intro _ q hq; cases hq)
        | (rw [updN_same]; intro q hq; cases hq)
    · first
        | (rw [updN_other _ _ hie] at h1; rw [updN_other _ _ hie]; first | exact h.m i hi h1 | exact h.d i hi h1)
        | (rw [updN_other _ _ hie]; exact h.ok i hi)
        | (rw [updN_other _ _ hie, updN_other _ _ hie]; exact h.c i hi)
        | (rw [updN_other _ _ hie, updN_other _ _ hie]; exact h.b i hi)
        | (rw [updN_other _ _ hie, updN_other _ _ hie]; exact h.p i hi)
        | (rw [updN_other _ _ hie]; exact h.one i hi)
        | (rw [updN_other _ _ hie]; exact h.pos i hi)
theorem t_len1 (h : PSt w0 w c x dg room Y K K C M D U Q) : (Calls Try.prog 32 #[.pointer (some ⟨c, 0, none⟩), .int .i64 1] w fun y w' => y = .returned (.int .i64 ((K 1).b.length : Nat)) ∧ w = w') ∧ Calls Try.prog 33 #[.pointer (some ⟨x, 0, none⟩), .int .i64 1] w fun y w' => y = .returned (.int .i64 ((K 1).b.length : Nat)) ∧ w = w' := by
  have h1 := rlen1 h.r (by have := h.rel.blen (e := 1) (by omega); have := h.r2; omega) (by have := h.rel.qlen (e := 1) (by omega); have := h.r2; omega)
  rw [← h.rel.b 1 (by omega)] at h1
  exact ⟨h.k.len1, h1⟩
theorem t_shows1 (h : PSt w0 w c x dg room Y K K C M D U Q) : (Calls Try.prog 36 #[.pointer (some ⟨c, 0, none⟩), .int .i64 1] w fun y w' => y = .returned (.int .i64 (shE room (K 1) (K 0))) ∧ Turn NoBlock w w') ∧ Calls Try.prog 37 #[.pointer (some ⟨x, 0, none⟩), .int .i64 1] w fun y w' => y = .returned (.int .i64 (shE room (K 1) (K 0))) ∧ Turn NoBlock w w' := by
  refine ⟨h.k.shows1, ?_⟩
  cases ho : (K 1).op with
  | false =>
    have hs : shE room (K 1) (K 0) = 0 := by unfold shE; rw [if_pos ho]
    rw [hs]
    exact rshows_closed1 h.r (by rw [h.rel.c 1 (by omega), ho]; rfl)
  | true =>
    refine rshows1 h.r (by rw [h.rel.c 1 (by omega), ho]; rfl) h.r2 (by have := h.rel.blen (e := 1) (by omega); have := h.r2; omega) (by have := h.rel.blen (e := 0) (by omega); have := h.r2; omega) (by have := h.rel.qlen (e := 1) (by omega); have := h.r2; omega) (by have := h.rel.qlen (e := 0) (by omega); have := h.r2; omega) _ ?_
    unfold shE wayS
    rw [if_neg (by rw [ho]; decide), ← h.rel.b 1 (by omega), ← h.rel.b 0 (by omega), h.rel.c 0 (by omega), h.rel.m 1 (by omega) ho]
    cases hp : (K 0).op with
    | false => simp
    | true =>
      rw [h.rel.d 0 (by omega) hp, ho]
      cases (K 1).nw <;> cases (K 0).nr <;> simp
theorem t_cells1 (h : PSt w0 w c x dg room Y K K C M D U Q) : ∃ p ca, w.cell? ⟨x, 1, none⟩ = some (.slice p (Q 1).length ca) ∧ w.cell? ⟨x, 2 + 1, none⟩ = some (.bool (!(K 1).op)) ∧ (K 1).p.length = (if dg then (Q 1).length else 0) ∧ (Q 1).length ≤ 1048576 ∧ (K 1).b.length ≤ 1048576 := by
  obtain ⟨p, ca, hv⟩ := (h.r.row 1 (by omega)).sl
  have c0 : w.cell? ⟨x, 1, none⟩ = some (U 1) := h.r.cw 1 (by omega)
  rw [hv] at c0
  have c1 := h.r.cc 1 (by omega)
  rw [h.rel.c 1 (by omega)] at c1
  refine ⟨p, ca, c0, c1, ?_, Nat.le_trans (h.rel.qlen (by omega)) h.r2, by rw [h.rel.b 1 (by omega)]; exact Nat.le_trans (h.rel.blen (by omega)) h.r2⟩
  cases hdg : dg with
  | true => rw [if_pos rfl, h.rel.p 1 (by omega) hdg, pl_len]
  | false => rw [(h.rel.ok 1 (by omega)).no hdg]; rfl
end
end Go.Proofs.Ytocaebcbmfejbaa
