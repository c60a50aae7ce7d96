/-
  What each call makes of all the handles that wait, whatever is asked. No conditions.
-/
import Derived.Test.YtpfelgbedeiebaaCTot
namespace Go.Proofs.Ytpfelgbedeiebaa
open Go.RowKit

/-- All handles of both queues. -/
def HL (K : Nat → MS) : List Int := (K 0).q.flatMap (·.h) ++ (K 1).q.flatMap (·.h)
theorem hl_upd {K : Nat → MS} {e : Nat} {s : MS} (h : s.q = (K e).q) : HL (updN K e s) = HL K := by
  have h1 : ∀ i, (updN K e s i).q = (K i).q := fun i => by
    by_cases hi : i = e
    · subst hi; rw [updN_same, h]
    · rw [updN_other _ _ hi]
  unfold HL
  rw [h1, h1]
theorem hl_more {K : Nat → MS} {e : Nat} {s : MS} {m : Msg} (he : e < 2) (h : s.q.flatMap (·.h) = (K e).q.flatMap (·.h) ++ m.h ∨ s.q.flatMap (·.h) = m.h ++ (K e).q.flatMap (·.h)) : (HL (updN K e s)).Perm (HL K ++ m.h) := by
  have h2 : e = 0 ∨ e = 1 := by omega
  unfold HL
  rcases h2 with rfl | rfl
  · rw [updN_same, updN_other _ _ (by omega)]
    rcases h with h | h
    · rw [h, List.append_assoc, List.append_assoc]
      exact List.Perm.append_left _ List.perm_append_comm
    · rw [h, List.append_assoc]
      exact List.perm_append_comm
  · rw [updN_same, updN_other _ _ (by omega)]
    rcases h with h | h
    · rw [h, ← List.append_assoc]
    · rw [h, List.append_assoc]
      exact List.Perm.append_left _ List.perm_append_comm
theorem hl_less {K : Nat → MS} {e : Nat} {s : MS} {l : List Int} (he : e < 2) (h : (K e).q.flatMap (·.h) = l ++ s.q.flatMap (·.h)) : (HL K).Perm (l ++ HL (updN K e s)) := by
  have h2 : e = 0 ∨ e = 1 := by omega
  unfold HL
  rcases h2 with rfl | rfl
  · rw [updN_same, updN_other _ _ (by omega), h, List.append_assoc]
  · rw [updN_same, updN_other _ _ (by omega), h, ← List.append_assoc, ← List.append_assoc]
    exact List.Perm.append_right _ List.perm_append_comm
theorem hl_cw {d : Nat} {K : Nat → MS} {e : Nat} {m : Msg} (he : e < 2) (h : cwS d K e m = 0) : (HL (cwK d K e m)).Perm (HL K ++ m.h) := by
  unfold cwK
  rw [if_pos h]
  split
  · exact hl_more (by unfold oth; omega) (.inr (by simp [msAns]))
  · exact hl_more (by unfold oth; omega) (.inl (by simp [msAdd]))
theorem cw_no {d : Nat} {K : Nat → MS} {e : Nat} {m : Msg} (h : cwS d K e m ≠ 0) : cwK d K e m = K := by unfold cwK; rw [if_neg h]
theorem hl_cc {d : Nat} {K : Nat → MS} {e : Nat} {m : Msg} {k : Int} (he : e < 2) (h : ccS d K e m k = 0) : (HL (ccK d K e m k)).Perm (HL K ++ m.h) := by
  have hs : cwS d K e m = 0 := by
    unfold ccS at h
    split at h
    · cases h
    · split at h
      · cases h
      · split at h
        · cases h
        · exact h
  unfold ccK
  rw [if_pos h]
  have e1 : HL (updN (cwK d K e m) e ⟨(cwK d K e m e).op, (cwK d K e m e).q, (cwK d K e m e).ws ++ [Wt.mk k m.tx]⟩) = HL (cwK d K e m) := hl_upd rfl
  rw [e1]
  exact hl_cw he hs
theorem hl_cr {K : Nat → MS} {e : Nat} {b i : Int} (he : e < 2) (h : crS K e b i = 0) : (HL K).Perm ((crM K e b i).h ++ HL (crK K e b i)) := by
  unfold crM crK
  rw [if_pos h, if_pos h]
  have hq : ∃ m r, (K e).q = m :: r := by
    unfold crS at h
    cases hq : (K e).q with
    | nil =>
      rw [hq] at h
      split at h
      · cases h
      · split at h
        · cases h
        · simp only at h; split at h <;> cases h
    | cons m r => exact ⟨m, r, rfl⟩
  obtain ⟨m, r, hq⟩ := hq
  refine hl_less he ?_
  rw [hq]
  simp
theorem hl_cl {K : Nat → MS} {e : Nat} (he : e < 2) : (HL K).Perm (clH K e ++ HL (clK K e)) := by
  unfold clH clK
  split
  · simp
  · have h1 : (updN K e ⟨false, [], []⟩ (oth e)) = K (oth e) := updN_other _ _ (by unfold oth; omega)
    have h2 : HL (updN (updN K e ⟨false, [], []⟩) (oth e) ⟨(K (oth e)).op, (K (oth e)).q, []⟩) = HL (updN K e ⟨false, [], []⟩) := hl_upd (by rw [h1])
    rw [h2]
    exact hl_less he (by simp)
section
variable {w0 w : World} {c depth N : Nat} {K : Nat → MS} {X : Nat → Prop}
theorem kp_write (h : CSt w0 w c depth N K X) (hN : N ≤ 100000) (e : Int) (m : Msg) (hm : m.d.length ≤ 100000 ∧ m.h.length ≤ 100000) (vd vh : Value) (hd : RdB w vd m.d) (hh : RdI w vh m.h) (hA : ∀ j, (Blk vd j ∨ Blk vh j) → X j) :
    Calls Try.prog 39 #[.pointer (some ⟨c, 0, none⟩), .int .i64 e, .agg #[.int .i64 m.tx, vd, vh]] w fun x w' => ∃ n s K', x = .returned (.tuple #[.int .i64 n, .int .i64 s]) ∧ CSt w0 w' c depth (N + 2) K' X ∧ Kp X w w' ∧ (((s == 0) = false ∧ K' = K) ∨ (s = 0 ∧ (HL K').Perm (HL K ++ m.h))) := by
  have hm' : m.d.length ≤ maxLen ∧ m.h.length ≤ maxLen := by unfold maxLen; omega
  by_cases e0 : e = 0
  · subst e0
    refine (h.writeT0 (by omega) m hm' vd vh hd hh hA).mono (fun x w' hx => ⟨_, _, _, hx.1, hx.2.1.mono (by omega), hx.2.2, ?_⟩)
    by_cases hs : cwS depth K 0 m = 0
    · exact .inr ⟨hs, hl_cw (by omega) hs⟩
    · exact .inl ⟨beq_eq_false_iff_ne.2 hs, cw_no hs⟩
  · by_cases e1 : e = 1
    · subst e1
      refine (h.writeT1 (by omega) m hm' vd vh hd hh hA).mono (fun x w' hx => ⟨_, _, _, hx.1, hx.2.1.mono (by omega), hx.2.2, ?_⟩)
      by_cases hs : cwS depth K 1 m = 0
      · exact .inr ⟨hs, hl_cw (by omega) hs⟩
      · exact .inl ⟨beq_eq_false_iff_ne.2 hs, cw_no hs⟩
    · exact (write_bad c e m.tx vd vh ⟨_, _, hd.sl.choose_spec⟩ ⟨_, _, hh.sl.choose_spec⟩ w e0 e1).mono (fun x w' hx => ⟨_, _, K, hx.1, (h.past hx.2).mono (by omega), Kp.of_past hx.2, .inl ⟨by decide, rfl⟩⟩)
theorem kp_call (h : CSt w0 w c depth N K X) (hN : N ≤ 100000) (e k : Int) (m : Msg) (hm : m.d.length ≤ 100000 ∧ m.h.length ≤ 100000) (vd vh : Value) (hd : RdB w vd m.d) (hh : RdI w vh m.h) (hA : ∀ j, (Blk vd j ∨ Blk vh j) → X j) :
    Calls Try.prog 41 #[.pointer (some ⟨c, 0, none⟩), .int .i64 e, .int .i64 k, .agg #[.int .i64 m.tx, vd, vh]] w fun x w' => ∃ s K', x = .returned (.int .i64 s) ∧ CSt w0 w' c depth (N + 2) K' X ∧ Kp X w w' ∧ (((s == 0) = false ∧ K' = K) ∨ (s = 0 ∧ (HL K').Perm (HL K ++ m.h))) := by
  have hm' : m.d.length ≤ maxLen ∧ m.h.length ≤ maxLen := by unfold maxLen; omega
  by_cases e0 : e = 0
  · subst e0
    refine (h.callT0 (by omega) k m hm' vd vh hd hh hA).mono (fun x w' hx => ⟨_, _, hx.1, hx.2.1, hx.2.2, ?_⟩)
    by_cases hs : ccS depth K 0 m k = 0
    · exact .inr ⟨hs, hl_cc (by omega) hs⟩
    · exact .inl ⟨beq_eq_false_iff_ne.2 hs, by unfold ccK; rw [if_neg hs]⟩
  · by_cases e1 : e = 1
    · subst e1
      refine (h.callT1 (by omega) k m hm' vd vh hd hh hA).mono (fun x w' hx => ⟨_, _, hx.1, hx.2.1, hx.2.2, ?_⟩)
      by_cases hs : ccS depth K 1 m k = 0
      · exact .inr ⟨hs, hl_cc (by omega) hs⟩
      · exact .inl ⟨beq_eq_false_iff_ne.2 hs, by unfold ccK; rw [if_neg hs]⟩
    · exact (call_bad c e k m.tx vd vh ⟨_, _, hd.sl.choose_spec⟩ ⟨_, _, hh.sl.choose_spec⟩ w e0 e1).mono (fun x w' hx => ⟨_, K, hx.1, (h.past hx.2).mono (by omega), Kp.of_past hx.2, .inl ⟨by decide, rfl⟩⟩)
theorem kp_read (h : CSt w0 w c depth N K X) (hN : N ≤ 100000) (e b i : Int) :
    Calls Try.prog 40 #[.pointer (some ⟨c, 0, none⟩), .int .i64 e, .int .i64 b, .int .i64 i] w fun x w' => ∃ (tx s : Int) (vd : Value) (p : Option Addr) (n ca : Nat) (l : List Int) (K' : Nat → MS), x = .returned (.tuple #[.agg #[.int .i64 tx, vd, .slice p n ca], .int .i64 s]) ∧ (∃ p n c, vd = .slice p n c) ∧ l.length = n ∧ CSt w0 w' c depth (N + 2) K' X ∧ Kp X w w' ∧ (((s == 0) = false ∧ K' = K) ∨ (s = 0 ∧ (HL K).Perm (l ++ HL K'))) := by
  have go : ∀ (E : Nat), E < 2 → (∀ x w', (∃ q : QM, x = Ending.returned (.tuple #[q.agg, .int .i64 (crS K E b i)]) ∧ q.m = crM K E b i ∧ q.Ok w' ∧ CSt w0 w' c depth N (crK K E b i) (fun k => X k ∨ q.F k) ∧ Kp X w w' ∧ ∀ k, q.F k → w0.heap.size ≤ k) → ∃ (tx s : Int) (vd : Value) (p : Option Addr) (n ca : Nat) (l : List Int) (K' : Nat → MS), x = .returned (.tuple #[.agg #[.int .i64 tx, vd, .slice p n ca], .int .i64 s]) ∧ (∃ p n c, vd = .slice p n c) ∧ l.length = n ∧ CSt w0 w' c depth (N + 2) K' X ∧ Kp X w w' ∧ (((s == 0) = false ∧ K' = K) ∨ (s = 0 ∧ (HL K).Perm (l ++ HL K')))) := by
    rintro E hE x w' ⟨q, rfl, hq, ho, hc, hk, -⟩
    obtain ⟨p, ca, hv⟩ := ho.h.sl
    obtain ⟨p2, ca2, hv2⟩ := ho.d.sl
    refine ⟨q.m.tx, _, q.vd, p, _, ca, q.m.h, _, by rw [← hv]; rfl, ⟨_, _, _, hv2⟩, rfl, (hc.fewer (fun k hk => .inl hk)).mono (by omega), hk, ?_⟩
    by_cases hs : crS K E b i = 0
    · right; rw [hq]; exact ⟨hs, hl_cr hE hs⟩
    · left; exact ⟨beq_eq_false_iff_ne.2 hs, by unfold crK; rw [if_neg hs]⟩
  by_cases e0 : e = 0
  · subst e0
    exact (h.readT0 (by omega) b i).mono (go 0 (by omega))
  · by_cases e1 : e = 1
    · subst e1
      exact (h.readT1 (by omega) b i).mono (go 1 (by omega))
    · exact (read_bad e b i e0 e1).mono (fun x w' hx => ⟨0, -10, _, none, 0, 0, [], K, hx.1, ⟨_, _, _, rfl⟩, rfl, (h.past hx.2).mono (by omega), Kp.of_past hx.2, .inl ⟨by decide, rfl⟩⟩)
theorem kp_close (h : CSt w0 w c depth N K X) (hN : N ≤ 100000) (e : Int) :
    Calls Try.prog 42 #[.pointer (some ⟨c, 0, none⟩), .int .i64 e] w fun x w' => ∃ (p : Option Addr) (n ca : Nat) (vc : Value) (s : Int) (l : List Int) (K' : Nat → MS), x = .returned (.tuple #[.slice p n ca, vc, .int .i64 s]) ∧ l.length = n ∧ CSt w0 w' c depth (N + 2) K' X ∧ Kp X w w' ∧ (HL K).Perm (l ++ HL K') := by
  have go : ∀ (E : Nat), E < 2 → (∀ x w', (∃ vh vc, x = Ending.returned (.tuple #[vh, vc, .int .i64 (clS K E)]) ∧ Nums vh (clH K E) w' ∧ Nums vc (clW K E) w' ∧ CSt w0 w' c depth N (clK K E) X ∧ Kp X w w') → ∃ (p : Option Addr) (n ca : Nat) (vc : Value) (s : Int) (l : List Int) (K' : Nat → MS), x = .returned (.tuple #[.slice p n ca, vc, .int .i64 s]) ∧ l.length = n ∧ CSt w0 w' c depth (N + 2) K' X ∧ Kp X w w' ∧ (HL K).Perm (l ++ HL K')) := by
    rintro E hE x w' ⟨vh, vc, rfl, h1, h2, h3, h4⟩
    obtain ⟨p, ca, rfl⟩ := WRow.sl h1
    exact ⟨p, _, ca, vc, _, clH K E, _, rfl, rfl, h3.mono (by omega), h4, hl_cl hE⟩
  by_cases e0 : e = 0
  · subst e0
    exact (h.closeT0 (by omega)).mono (go 0 (by omega))
  · by_cases e1 : e = 1
    · subst e1
      exact (h.closeT1 (by omega)).mono (go 1 (by omega))
    · exact (close_bad e e0 e1).mono (fun x w' hx => ⟨none, 0, 0, _, _, [], K, hx.1, rfl, (h.past hx.2).mono (by omega), Kp.of_past hx.2, by simp⟩)
theorem kp_handles (h : CSt w0 w c depth N K X) (hN : N ≤ 100000) :
    Calls Try.prog 37 #[.pointer (some ⟨c, 0, none⟩)] w fun x w' => ∃ p ca, x = .returned (.slice p (HL K).length ca) ∧ Nums (.slice p (HL K).length ca) (HL K) w' ∧ Turn NoBlock w w' := by
  obtain ⟨S, V, hC, rfl, ht, hf0, hx⟩ := h
  refine (handles_any hC hN).mono ?_
  rintro x w' ⟨u, rfl, hu, -, t⟩
  have e1 : hsOf (S 0).q ++ hsOf (S 1).q = HL (planeOf S) := by
    unfold HL hsOf
    show _ = ((S 0).q.map (·.m)).flatMap (·.h) ++ ((S 1).q.map (·.m)).flatMap (·.h)
    rw [List.flatMap_map, List.flatMap_map]
  rw [e1] at hu
  obtain ⟨p, ca, rfl⟩ := WRow.sl hu
  exact ⟨p, ca, rfl, hu, t⟩
end
end Go.Proofs.Ytpfelgbedeiebaa
