/-
  Merged: CKeepM, RCPl, CTot2, RCPl2, CMsgs, CMsgs2, RCPl3, RCPl4, CSame, CSpoil, CKeepS. No conditions but theirs.
-/
import Derived.Test.YtcbphfpfdfgehaaCTot
import Derived.Test.YtcbphfpfdfgehaaRCTot
import Derived.Test.YtcbphfpfdfgehaaCMsg
import Derived.OrdersIn
import Derived.Deep.RegionHeld3
import Derived.Deep.LoopGhost
import Derived.Deep.DeepCutAuto

namespace Go.Proofs.Ytcbphfpfdfgehaa
open Go.RowKit

/-- All handles of both queues. -/
def HL (K : Nat → MS) : List Int := (K 0).q.flatMap (·.h) ++ (K 1).q.flatMap (·.h)
theorem hl_upd {K : Nat → MS} {e : Nat} {s : MS} (h : s.q = (K e).q) : HL (updN K e s) = HL K := by
  have h1 : ∀ i, (updN K e s i).q = (K i).q := fun i => by
    by_cases hi : i = e
    · subst hi; rw [updN_same, h]
    · rw [updN_other _ _ hi]
  unfold HL
  rw [h1, h1]
theorem hl_more {K : Nat → MS} {e : Nat} {s : MS} {m : Msg} (he : e < 2) (h : s.q.flatMap (·.h) = (K e).q.flatMap (·.h) ++ m.h ∨ s.q.flatMap (·.h) = m.h ++ (K e).q.flatMap (·.h)) : (HL (updN K e s)).Perm (HL K ++ m.h) := by
  have h2 : e = 0 ∨ e = 1 := by omega
  unfold HL
  rcases h2 with rfl | rfl
  · rw [updN_same, updN_other _ _ (by omega)]
    rcases h with h | h
    · rw [h, List.append_assoc, List.append_assoc]
      exact List.Perm.append_left _ List.perm_append_comm
    · rw [h, List.append_assoc]
      exact List.perm_append_comm
  · rw [updN_same, updN_other _ _ (by omega)]
    rcases h with h | h
    · rw [h, ← List.append_assoc]
    · rw [h, List.append_assoc]
      exact List.Perm.append_left _ List.perm_append_comm
theorem hl_less {K : Nat → MS} {e : Nat} {s : MS} {l : List Int} (he : e < 2) (h : (K e).q.flatMap (·.h) = l ++ s.q.flatMap (·.h)) : (HL K).Perm (l ++ HL (updN K e s)) := by
  have h2 : e = 0 ∨ e = 1 := by omega
  unfold HL
  rcases h2 with rfl | rfl
  · rw [updN_same, updN_other _ _ (by omega), h, List.append_assoc]
  · rw [updN_same, updN_other _ _ (by omega), h, ← List.append_assoc, ← List.append_assoc]
    exact List.Perm.append_right _ List.perm_append_comm
theorem hl_cw {d : Nat} {K : Nat → MS} {e : Nat} {m : Msg} (he : e < 2) (h : cwS d K e m = 0) : (HL (cwK d K e m)).Perm (HL K ++ m.h) := by
  unfold cwK
  rw [if_pos h]
  split
  · exact hl_more (by unfold oth; omega) (.inr (by simp [msAns]))
  · exact hl_more (by unfold oth; omega) (.inl (by simp [msAdd]))
theorem cw_no {d : Nat} {K : Nat → MS} {e : Nat} {m : Msg} (h : cwS d K e m ≠ 0) : cwK d K e m = K := by unfold cwK; rw [if_neg h]
theorem hl_cc {d : Nat} {K : Nat → MS} {e : Nat} {m : Msg} {k : Int} (he : e < 2) (h : ccS d K e m k = 0) : (HL (ccK d K e m k)).Perm (HL K ++ m.h) := by
  have hs : cwS d K e m = 0 := by
    unfold ccS at h
    split at h
    · cases h
    · split at h
      · cases h
      · split at h
        · cases h
        · exact h
  unfold ccK
  rw [if_pos h]
  have e1 : HL (updN (cwK d K e m) e ⟨(cwK d K e m e).op, (cwK d K e m e).q, (cwK d K e m e).ws ++ [Wt.mk k m.tx]⟩) = HL (cwK d K e m) := hl_upd rfl
  rw [e1]
  exact hl_cw he hs
theorem hl_cr {K : Nat → MS} {e : Nat} {b i : Int} (he : e < 2) (h : crS K e b i = 0) : (HL K).Perm ((crM K e b i).h ++ HL (crK K e b i)) := by
  unfold crM crK
  rw [if_pos h, if_pos h]
  have hq : ∃ m r, (K e).q = m :: r := by
    unfold crS at h
    cases hq : (K e).q with
    | nil =>
      rw [hq] at h
      split at h
      · cases h
      · split at h
        · cases h
        · simp only at h; split at h <;> cases h
    | cons m r => exact ⟨m, r, rfl⟩
  obtain ⟨m, r, hq⟩ := hq
  refine hl_less he ?_
  rw [hq]
  simp
theorem hl_cl {K : Nat → MS} {e : Nat} (he : e < 2) : (HL K).Perm (clH K e ++ HL (clK K e)) := by
  unfold clH clK
  split
  · simp
  · have h1 : (updN K e ⟨false, [], []⟩ (oth e)) = K (oth e) := updN_other _ _ (by unfold oth; omega)
    have h2 : HL (updN (updN K e ⟨false, [], []⟩) (oth e) ⟨(K (oth e)).op, (K (oth e)).q, []⟩) = HL (updN K e ⟨false, [], []⟩) := hl_upd (by rw [h1])
    rw [h2]
    exact hl_less he (by simp)
section
variable {w0 w : World} {c depth N : Nat} {K : Nat → MS} {X : Nat → Prop}
theorem kp_write (h : CSt w0 w c depth N K X) (hN : N ≤ 100000) (e : Int) (m : Msg) (hm : m.d.length ≤ 100000 ∧ m.h.length ≤ 100000) (vd vh : Value) (hd : RdB w vd m.d) (hh : RdI w vh m.h) (hA : ∀ j, (Blk vd j ∨ Blk vh j) → X j) :
    Calls Try.prog 36 #[.pointer (some ⟨c, 0, none⟩), .int .i64 e, .agg #[.int .i64 m.tx, vd, vh]] w fun x w' => ∃ n s K', x = .returned (.tuple #[.int .i64 n, .int .i64 s]) ∧ CSt w0 w' c depth (N + 2) K' X ∧ Kp X w w' ∧ (((s == 0) = false ∧ K' = K) ∨ (s = 0 ∧ (HL K').Perm (HL K ++ m.h))) := by
  have hm' : m.d.length ≤ maxLen ∧ m.h.length ≤ maxLen := by unfold maxLen; omega
  by_cases e0 : e = 0
  · subst e0
    refine (h.writeT0 (by omega) m hm' vd vh hd hh hA).mono (fun x w' hx => ⟨_, _, _, hx.1, hx.2.1.mono (by omega), hx.2.2, ?_⟩)
    by_cases hs : cwS depth K 0 m = 0
    · exact .inr ⟨hs, hl_cw (by omega) hs⟩
    · exact .inl ⟨beq_eq_false_iff_ne.2 hs, cw_no hs⟩
  · by_cases e1 : e = 1
    · subst e1
      refine (h.writeT1 (by omega) m hm' vd vh hd hh hA).mono (fun x w' hx => ⟨_, _, _, hx.1, hx.2.1.mono (by omega), hx.2.2, ?_⟩)
      by_cases hs : cwS depth K 1 m = 0
      · exact .inr ⟨hs, hl_cw (by omega) hs⟩
      · exact .inl ⟨beq_eq_false_iff_ne.2 hs, cw_no hs⟩
    · exact (write_bad c e m.tx vd vh ⟨_, _, hd.sl.choose_spec⟩ ⟨_, _, hh.sl.choose_spec⟩ w e0 e1).mono (fun x w' hx => ⟨_, _, K, hx.1, (h.past hx.2).mono (by omega), Kp.of_past hx.2, .inl ⟨by decide, rfl⟩⟩)
theorem kp_call (h : CSt w0 w c depth N K X) (hN : N ≤ 100000) (e k : Int) (m : Msg) (hm : m.d.length ≤ 100000 ∧ m.h.length ≤ 100000) (vd vh : Value) (hd : RdB w vd m.d) (hh : RdI w vh m.h) (hA : ∀ j, (Blk vd j ∨ Blk vh j) → X j) :
    Calls Try.prog 42 #[.pointer (some ⟨c, 0, none⟩), .int .i64 e, .int .i64 k, .agg #[.int .i64 m.tx, vd, vh]] w fun x w' => ∃ s K', x = .returned (.int .i64 s) ∧ CSt w0 w' c depth (N + 2) K' X ∧ Kp X w w' ∧ (((s == 0) = false ∧ K' = K) ∨ (s = 0 ∧ (HL K').Perm (HL K ++ m.h))) := by
  have hm' : m.d.length ≤ maxLen ∧ m.h.length ≤ maxLen := by unfold maxLen; omega
  by_cases e0 : e = 0
  · subst e0
    refine (h.callT0 (by omega) k m hm' vd vh hd hh hA).mono (fun x w' hx => ⟨_, _, hx.1, hx.2.1, hx.2.2, ?_⟩)
    by_cases hs : ccS depth K 0 m k = 0
    · exact .inr ⟨hs, hl_cc (by omega) hs⟩
    · exact .inl ⟨beq_eq_false_iff_ne.2 hs, by unfold ccK; rw [if_neg hs]⟩
  · by_cases e1 : e = 1
    · subst e1
      refine (h.callT1 (by omega) k m hm' vd vh hd hh hA).mono (fun x w' hx => ⟨_, _, hx.1, hx.2.1, hx.2.2, ?_⟩)
      by_cases hs : ccS depth K 1 m k = 0
      · exact .inr ⟨hs, hl_cc (by omega) hs⟩
      · exact .inl ⟨beq_eq_false_iff_ne.2 hs, by unfold ccK; rw [if_neg hs]⟩
    · exact (call_bad c e k m.tx vd vh ⟨_, _, hd.sl.choose_spec⟩ ⟨_, _, hh.sl.choose_spec⟩ w e0 e1).mono (fun x w' hx => ⟨_, K, hx.1, (h.past hx.2).mono (by omega), Kp.of_past hx.2, .inl ⟨by decide, rfl⟩⟩)
theorem kp_read (h : CSt w0 w c depth N K X) (hN : N ≤ 100000) (e b i : Int) :
    Calls Try.prog 37 #[.pointer (some ⟨c, 0, none⟩), .int .i64 e, .int .i64 b, .int .i64 i] w fun x w' => ∃ (tx s : Int) (vd : Value) (p : Option Addr) (n ca : Nat) (l : List Int) (K' : Nat → MS), x = .returned (.tuple #[.agg #[.int .i64 tx, vd, .slice p n ca], .int .i64 s]) ∧ (∃ p n c, vd = .slice p n c) ∧ l.length = n ∧ CSt w0 w' c depth (N + 2) K' X ∧ Kp X w w' ∧ (((s == 0) = false ∧ K' = K) ∨ (s = 0 ∧ (HL K).Perm (l ++ HL K'))) := by
  have go : ∀ (E : Nat), E < 2 → (∀ x w', (∃ q : QM, x = Ending.returned (.tuple #[q.agg, .int .i64 (crS K E b i)]) ∧ q.m = crM K E b i ∧ q.Ok w' ∧ CSt w0 w' c depth N (crK K E b i) (fun k => X k ∨ q.F k) ∧ Kp X w w' ∧ ∀ k, q.F k → w0.heap.size ≤ k) → ∃ (tx s : Int) (vd : Value) (p : Option Addr) (n ca : Nat) (l : List Int) (K' : Nat → MS), x = .returned (.tuple #[.agg #[.int .i64 tx, vd, .slice p n ca], .int .i64 s]) ∧ (∃ p n c, vd = .slice p n c) ∧ l.length = n ∧ CSt w0 w' c depth (N + 2) K' X ∧ Kp X w w' ∧ (((s == 0) = false ∧ K' = K) ∨ (s = 0 ∧ (HL K).Perm (l ++ HL K')))) := by
    rintro E hE x w' ⟨q, rfl, hq, ho, hc, hk, -⟩
    obtain ⟨p, ca, hv⟩ := ho.h.sl
    obtain ⟨p2, ca2, hv2⟩ := ho.d.sl
    refine ⟨q.m.tx, _, q.vd, p, _, ca, q.m.h, _, by rw [← hv]; rfl, ⟨_, _, _, hv2⟩, rfl, (hc.fewer (fun k hk => .inl hk)).mono (by omega), hk, ?_⟩
    by_cases hs : crS K E b i = 0
    · right; rw [hq]; exact ⟨hs, hl_cr hE hs⟩
    · left; exact ⟨beq_eq_false_iff_ne.2 hs, by unfold crK; rw [if_neg hs]⟩
  by_cases e0 : e = 0
  · subst e0
    exact (h.readT0 (by omega) b i).mono (go 0 (by omega))
  · by_cases e1 : e = 1
    · subst e1
      exact (h.readT1 (by omega) b i).mono (go 1 (by omega))
    · exact (read_bad e b i e0 e1).mono (fun x w' hx => ⟨0, -10, _, none, 0, 0, [], K, hx.1, ⟨_, _, _, rfl⟩, rfl, (h.past hx.2).mono (by omega), Kp.of_past hx.2, .inl ⟨by decide, rfl⟩⟩)
theorem kp_close (h : CSt w0 w c depth N K X) (hN : N ≤ 100000) (e : Int) :
    Calls Try.prog 46 #[.pointer (some ⟨c, 0, none⟩), .int .i64 e] w fun x w' => ∃ (p : Option Addr) (n ca : Nat) (vc : Value) (s : Int) (l : List Int) (K' : Nat → MS), x = .returned (.tuple #[.slice p n ca, vc, .int .i64 s]) ∧ l.length = n ∧ CSt w0 w' c depth (N + 2) K' X ∧ Kp X w w' ∧ (HL K).Perm (l ++ HL K') := by
  have go : ∀ (E : Nat), E < 2 → (∀ x w', (∃ vh vc, x = Ending.returned (.tuple #[vh, vc, .int .i64 (clS K E)]) ∧ Nums vh (clH K E) w' ∧ Nums vc (clW K E) w' ∧ CSt w0 w' c depth N (clK K E) X ∧ Kp X w w') → ∃ (p : Option Addr) (n ca : Nat) (vc : Value) (s : Int) (l : List Int) (K' : Nat → MS), x = .returned (.tuple #[.slice p n ca, vc, .int .i64 s]) ∧ l.length = n ∧ CSt w0 w' c depth (N + 2) K' X ∧ Kp X w w' ∧ (HL K).Perm (l ++ HL K')) := by
    rintro E hE x w' ⟨vh, vc, rfl, h1, h2, h3, h4⟩
    obtain ⟨p, ca, rfl⟩ := WRow.sl h1
    exact ⟨p, _, ca, vc, _, clH K E, _, rfl, rfl, h3.mono (by omega), h4, hl_cl hE⟩
  by_cases e0 : e = 0
  · subst e0
    exact (h.closeT0 (by omega)).mono (go 0 (by omega))
  · by_cases e1 : e = 1
    · subst e1
      exact (h.closeT1 (by omega)).mono (go 1 (by omega))
    · exact (close_bad e e0 e1).mono (fun x w' hx => ⟨none, 0, 0, _, _, [], K, hx.1, rfl, (h.past hx.2).mono (by omega), Kp.of_past hx.2, by simp⟩)
theorem kp_handles (h : CSt w0 w c depth N K X) (hN : N ≤ 100000) :
    Calls Try.prog 20 #[.pointer (some ⟨c, 0, none⟩)] w fun x w' => ∃ p ca, x = .returned (.slice p (HL K).length ca) ∧ Nums (.slice p (HL K).length ca) (HL K) w' ∧ Turn NoBlock w w' := by
  obtain ⟨S, V, hC, rfl, ht, hf0, hx⟩ := h
  refine (handles_any hC hN).mono ?_
  rintro x w' ⟨u, rfl, hu, -, t⟩
  have e1 : hsOf (S 0).q ++ hsOf (S 1).q = HL (planeOf S) := by
    unfold HL hsOf
    show _ = ((S 0).q.map (·.m)).flatMap (·.h) ++ ((S 1).q.map (·.m)).flatMap (·.h)
    rw [List.flatMap_map, List.flatMap_map]
  rw [e1] at hu
  obtain ⟨p, ca, rfl⟩ := WRow.sl hu
  exact ⟨p, ca, rfl, hu, t⟩
end
end Go.Proofs.Ytcbphfpfdfgehaa

namespace Go.Proofs.Ytcbphfpfdfgehaa
open Go.RowKit

/-- What stands at an end, of whatever number; d for none. -/
def at2 {A : Type} (f : Nat → A) (d : A) (e : Int) : A := if e = 0 then f 0 else if e = 1 then f 1 else d
theorem at2_0 {A : Type} (f : Nat → A) (d : A) : at2 f d 0 = f 0 := rfl
theorem at2_1 {A : Type} (f : Nat → A) (d : A) : at2 f d 1 = f 1 := rfl
theorem at2_no {A : Type} (f : Nat → A) (d : A) {e : Int} (h0 : e ≠ 0) (h1 : e ≠ 1) : at2 f d e = d := by unfold at2; rw [if_neg h0, if_neg h1]
/-- The program's channel has the planes K1, the reference's K; the blocks of Y lie beside both. -/
structure PSt (w0 w : World) (c x depth N : Nat) (Y : Nat → Prop) (K1 K : Nat → MS) (U V : Nat → Value) (Q : Nat → List QM) : Prop where
  k : CSt w0 w c depth N K1 (fun j => RF x U V j ∨ Y j)
  r : RC w0 w x depth K U V Q
  ln : ∀ e, e < 2 → (K e).q.length ≤ 2 * N ∧ (K e).ws.length ≤ N
  ap : ∀ j, Y j → ¬ RF x U V j
  mine : ∀ j, RF x U V j ∨ Y j → w0.heap.size ≤ j
def PSx (w0 w : World) (c x depth N : Nat) (Y : Nat → Prop) (K1 K : Nat → MS) : Prop := ∃ U V Q, PSt w0 w c x depth N Y K1 K U V Q
theorem cst_ln {w0 w : World} {c depth N : Nat} {K : Nat → MS} {X : Nat → Prop} (h : CSt w0 w c depth N K X) : ∀ e, e < 2 → (K e).q.length ≤ 2 * N ∧ (K e).ws.length ≤ N := by
  obtain ⟨S, V, h1, rfl, h3, h4, h5⟩ := h
  intro e he
  have h2 := h1.len e he
  refine ⟨?_, h2.2.2⟩
  show ((S e).q.map (·.m)).length ≤ 2 * N
  rw [List.length_map]
  simp [Sd.q]
  omega
section
variable {w0 w w' : World} {c x depth N : Nat} {Y Z : Nat → Prop} {K1 K : Nat → MS}
theorem PSx.turn (h : PSx w0 w c x depth N Y K1 K) : Turn NoBlock w0 w := by
  obtain ⟨U, V, Q, h⟩ := h
  exact h.k.turn
theorem PSt.past {U V : Nat → Value} {Q : Nat → List QM} (h : PSt w0 w c x depth N Y K1 K U V Q) (t : Turn NoBlock w w') : PSt w0 w' c x depth N Y K1 K U V Q := ⟨h.k.past t, h.r.past t, h.ln, h.ap, h.mine⟩
theorem PSx.past (h : PSx w0 w c x depth N Y K1 K) (t : Turn NoBlock w w') : PSx w0 w' c x depth N Y K1 K := by
  obtain ⟨U, V, Q, h⟩ := h
  exact ⟨U, V, Q, h.past t⟩
/-- What lies beside has turned, or has become other blocks. -/
theorem PSx.more (h : PSx w0 w c x depth N Y K1 K) (t : Turn Y w w') (hZ : ∀ k, Z k → Y k ∨ (w.heap.size ≤ k ∧ k < w'.heap.size)) : PSx w0 w' c x depth N Z K1 K := by
  obtain ⟨U, V, Q, h⟩ := h
  have hr := h.r.kept t (fun k hk hy => h.ap k hy hk)
  have hz : ∀ k, Z k → ¬ RF x U V k ∧ w0.heap.size ≤ k := fun k hk => by
    rcases hZ k hk with h1 | h1
    · exact ⟨h.ap k h1, h.mine k (.inr h1)⟩
    · exact ⟨fun h2 => by have := h.r.lt h2; omega, by have := h.k.turn.size; omega⟩
  refine ⟨U, V, Q, h.k.more (t.mono (fun k hk => .inl (.inr hk))) (fun k hk => ?_) h.mine, hr, h.ln, fun k hk => (hz k hk).1, fun k hk => ?_⟩
  · rcases hk with hk | hk
    · exact .inl (.inl hk)
    · rcases hZ k hk with h1 | h1
      · exact .inl (.inr h1)
      · exact .inr h1
  · rcases hk with hk | hk
    · exact h.mine k (.inl hk)
    · exact (hz k hk).2
theorem PSx.fewer (h : PSx w0 w c x depth N Y K1 K) (hZ : ∀ k, Z k → Y k) : PSx w0 w c x depth N Z K1 K := by
  obtain ⟨U, V, Q, h⟩ := h
  exact ⟨U, V, Q, h.k.fewer (fun k hk => hk.imp (fun h => h) (hZ k)), h.r, h.ln, fun k hk => h.ap k (hZ k hk), fun k hk => h.mine k (hk.imp (fun h => h) (hZ k))⟩
theorem PSx.mono {M : Nat} (h : PSx w0 w c x depth N Y K1 K) (hM : N ≤ M) : PSx w0 w c x depth M Y K1 K := by
  obtain ⟨U, V, Q, h⟩ := h
  exact ⟨U, V, Q, h.k.mono hM, h.r, fun e he => by have := h.ln e he; omega, h.ap, h.mine⟩
theorem kp_Y {U V : Nat → Value} (h : Kp (fun j => RF x U V j ∨ Y j) w w') : Kp Y w w' := by
  obtain ⟨F, t, hF⟩ := h
  exact ⟨F, t, fun k hk => hF k (.inr hk)⟩
/-- The program's call has been made. -/
theorem pst_prog {U V : Nat → Value} {Q : Nat → List QM} {K2 : Nat → MS} {M : Nat} (h : PSt w0 w c x depth N Y K1 K U V Q) (hk : CSt w0 w' c depth M K2 (fun j => RF x U V j ∨ Y j)) (hM : N ≤ M) (kp : Kp (fun j => RF x U V j ∨ Y j) w w') : PSx w0 w' c x depth M Y K2 K := by
  obtain ⟨F, t, hF⟩ := kp
  exact ⟨U, V, Q, hk, h.r.kept t (fun k hk hf => hF k (.inl hk) hf), fun e he => by have := h.ln e he; omega, h.ap, h.mine⟩
/-- The reference's call has been made. -/
theorem pst_ref {U V : Nat → Value} {Q : Nat → List QM} {K2 : Nat → MS} (h : PSt w0 w c x depth N Y K2 K U V Q) (hm : RMk w0 w w' x depth U V K2) : PSx w0 w' c x depth N Y K2 K2 ∧ Kp Y w w' := by
  obtain ⟨U', V', Q', h1, t, h3⟩ := hm
  have ht := h.k.turn.size
  have hlt : ∀ j, Y j → j < w.heap.size := fun j hj => by
    obtain ⟨S, W, g1, g2, g3, g4, g5⟩ := h.k
    exact (g5 j (.inr hj)).1
  refine ⟨⟨U', V', Q', h.k.more (t.mono (fun k hk => .inl (.inl (hk ▸ .inl rfl)))) (fun k hk => ?_) h.mine, h1, cst_ln h.k, fun j hj hf => ?_, fun j hj => ?_⟩, _, t, fun k hk e => h.ap k hk (e ▸ .inl rfl)⟩
  · rcases hk with hk | hk
    · rcases h3 k hk with h4 | h4
      · exact .inl (.inl h4)
      · exact .inr h4
    · exact .inl (.inr hk)
  · rcases h3 j hf with h4 | h4
    · exact h.ap j hj h4
    · have := hlt j hj; omega
  · rcases hj with hj | hj
    · rcases h3 j hj with h4 | h4
      · exact h.mine j (.inl h4)
      · omega
    · exact h.mine j (.inr hj)
/-- The program's Write. -/
theorem p_write (h : PSx w0 w c x depth N Y K K) (hN : N ≤ 100000) (e : Int) (m : Msg) (vd vh : Value) (hm : m.d.length ≤ 100000 ∧ m.h.length ≤ 100000) (hd : RdB w vd m.d) (hh : RdI w vh m.h) (hA : ∀ j, (Blk vd j ∨ Blk vh j) → Y j) :
    Calls Try.prog 36 #[.pointer (some ⟨c, 0, none⟩), .int .i64 e, .agg #[.int .i64 m.tx, vd, vh]] w fun y w' => y = .returned (.tuple #[.int .i64 (at2 (fun i => cwN depth K i m) 0 e), .int .i64 (at2 (fun i => cwS depth K i m) (-10) e)]) ∧ PSx w0 w' c x depth (N + 2) Y (at2 (fun i => cwK depth K i m) K e) K ∧ Kp Y w w' := by
  obtain ⟨U, V, Q, h⟩ := h
  by_cases e0 : e = 0
  · subst e0
    simp only [at2_0]
    exact (h.k.writeT0 (by omega) m (by unfold maxLen; omega) vd vh hd hh (fun j hj => .inr (hA j hj))).mono (fun y w' hh => ⟨hh.1, pst_prog h (hh.2.1.mono (by omega)) (by omega) hh.2.2, kp_Y hh.2.2⟩)
  · by_cases e1 : e = 1
    · subst e1
      simp only [at2_1]
      exact (h.k.writeT1 (by omega) m (by unfold maxLen; omega) vd vh hd hh (fun j hj => .inr (hA j hj))).mono (fun y w' hh => ⟨hh.1, pst_prog h (hh.2.1.mono (by omega)) (by omega) hh.2.2, kp_Y hh.2.2⟩)
    · simp only [at2_no _ _ e0 e1]
      exact (write_bad c e m.tx vd vh ⟨_, _, hd.sl.choose_spec⟩ ⟨_, _, hh.sl.choose_spec⟩ w e0 e1).mono (fun y w' hh => ⟨hh.1, PSx.mono ⟨U, V, Q, h.past hh.2⟩ (by omega), Kp.of_past hh.2⟩)
/-- The reference's Write, behind the program's. -/
theorem p_write2 (e : Int) (m : Msg) (vd vh : Value) (h : PSx w0 w c x depth N Y (at2 (fun i => cwK depth K i m) K e) K) (hN : N ≤ 100000) (hd : RzB w0 vd m.d) (hh : RzI w0 vh m.h) :
    Calls Try.prog 39 #[.pointer (some ⟨x, 0, none⟩), .int .i64 e, .agg #[.int .i64 m.tx, vd, vh]] w fun y w' => y = .returned (.tuple #[.int .i64 (at2 (fun i => cwN depth K i m) 0 e), .int .i64 (at2 (fun i => cwS depth K i m) (-10) e)]) ∧ PSx w0 w' c x depth N Y (at2 (fun i => cwK depth K i m) K e) (at2 (fun i => cwK depth K i m) K e) ∧ Kp Y w w' := by
  obtain ⟨U, V, Q, h⟩ := h
  have l0 := h.ln 0 (by omega)
  have l1 := h.ln 1 (by omega)
  by_cases e0 : e = 0
  · subst e0
    simp only [at2_0] at h ⊢
    exact (rwriteT0 h.r h.k.turn (by omega) (by omega) m vd vh hd hh).mono (fun y w' hh => ⟨hh.1, pst_ref h hh.2⟩)
  · by_cases e1 : e = 1
    · subst e1
      simp only [at2_1] at h ⊢
      exact (rwriteT1 h.r h.k.turn (by omega) (by omega) m vd vh hd hh).mono (fun y w' hh => ⟨hh.1, pst_ref h hh.2⟩)
    · simp only [at2_no _ _ e0 e1] at h ⊢
      exact ((rwrite_bad x e m.tx vd vh w e0 e1 ⟨_, _, hd.sl.choose_spec⟩ ⟨_, _, hh.sl.choose_spec⟩).mono (fun y w' hh => ⟨hh.1, PSx.past ⟨U, V, Q, h⟩ hh.2, Kp.of_past hh.2⟩))
/-- The program's Call. -/
theorem p_call (h : PSx w0 w c x depth N Y K K) (hN : N ≤ 100000) (e : Int) (k : Int) (m : Msg) (vd vh : Value) (hm : m.d.length ≤ 100000 ∧ m.h.length ≤ 100000) (hd : RdB w vd m.d) (hh : RdI w vh m.h) (hA : ∀ j, (Blk vd j ∨ Blk vh j) → Y j) :
    Calls Try.prog 42 #[.pointer (some ⟨c, 0, none⟩), .int .i64 e, .int .i64 k, .agg #[.int .i64 m.tx, vd, vh]] w fun y w' => y = .returned (.int .i64 (at2 (fun i => ccS depth K i m k) (-10) e)) ∧ PSx w0 w' c x depth (N + 2) Y (at2 (fun i => ccK depth K i m k) K e) K ∧ Kp Y w w' := by
  obtain ⟨U, V, Q, h⟩ := h
  by_cases e0 : e = 0
  · subst e0
    simp only [at2_0]
    exact (h.k.callT0 (by omega) k m (by unfold maxLen; omega) vd vh hd hh (fun j hj => .inr (hA j hj))).mono (fun y w' hh => ⟨hh.1, pst_prog h (hh.2.1.mono (by omega)) (by omega) hh.2.2, kp_Y hh.2.2⟩)
  · by_cases e1 : e = 1
    · subst e1
      simp only [at2_1]
      exact (h.k.callT1 (by omega) k m (by unfold maxLen; omega) vd vh hd hh (fun j hj => .inr (hA j hj))).mono (fun y w' hh => ⟨hh.1, pst_prog h (hh.2.1.mono (by omega)) (by omega) hh.2.2, kp_Y hh.2.2⟩)
    · simp only [at2_no _ _ e0 e1]
      exact (call_bad c e k m.tx vd vh ⟨_, _, hd.sl.choose_spec⟩ ⟨_, _, hh.sl.choose_spec⟩ w e0 e1).mono (fun y w' hh => ⟨hh.1, PSx.mono ⟨U, V, Q, h.past hh.2⟩ (by omega), Kp.of_past hh.2⟩)
/-- The reference's Call, behind the program's. -/
theorem p_call2 (e : Int) (k : Int) (m : Msg) (vd vh : Value) (h : PSx w0 w c x depth N Y (at2 (fun i => ccK depth K i m k) K e) K) (hN : N ≤ 100000) (hd : RzB w0 vd m.d) (hh : RzI w0 vh m.h) :
    Calls Try.prog 43 #[.pointer (some ⟨x, 0, none⟩), .int .i64 e, .int .i64 k, .agg #[.int .i64 m.tx, vd, vh]] w fun y w' => y = .returned (.int .i64 (at2 (fun i => ccS depth K i m k) (-10) e)) ∧ PSx w0 w' c x depth N Y (at2 (fun i => ccK depth K i m k) K e) (at2 (fun i => ccK depth K i m k) K e) ∧ Kp Y w w' := by
  obtain ⟨U, V, Q, h⟩ := h
  have l0 := h.ln 0 (by omega)
  have l1 := h.ln 1 (by omega)
  by_cases e0 : e = 0
  · subst e0
    simp only [at2_0] at h ⊢
    exact (rcallT0 h.r h.k.turn (fun e he => by have := h.ln e he; omega) (by omega) k m vd vh hd hh).mono (fun y w' hh => ⟨hh.1, pst_ref h hh.2⟩)
  · by_cases e1 : e = 1
    · subst e1
      simp only [at2_1] at h ⊢
      exact (rcallT1 h.r h.k.turn (fun e he => by have := h.ln e he; omega) (by omega) k m vd vh hd hh).mono (fun y w' hh => ⟨hh.1, pst_ref h hh.2⟩)
    · simp only [at2_no _ _ e0 e1] at h ⊢
      exact ((rcall_bad x e k m.tx vd vh w e0 e1 ⟨_, _, hd.sl.choose_spec⟩ ⟨_, _, hh.sl.choose_spec⟩).mono (fun y w' hh => ⟨hh.1, PSx.past ⟨U, V, Q, h⟩ hh.2, Kp.of_past hh.2⟩))
/-- The program's Forget. -/
theorem p_forget (h : PSx w0 w c x depth N Y K K) (hN : N ≤ 100000) (e : Int) (k : Int)  :
    Calls Try.prog 44 #[.pointer (some ⟨c, 0, none⟩), .int .i64 e, .int .i64 k] w fun y w' => y = .returned (.int .i64 (at2 (fun i => cfS K i k) (-10) e)) ∧ PSx w0 w' c x depth (N + 2) Y (at2 (fun i => cfK K i k) K e) K ∧ Kp Y w w' := by
  obtain ⟨U, V, Q, h⟩ := h
  by_cases e0 : e = 0
  · subst e0
    simp only [at2_0]
    exact (h.k.forgetT0 (by omega) k).mono (fun y w' hh => ⟨hh.1, pst_prog h (hh.2.1.mono (by omega)) (by omega) hh.2.2, kp_Y hh.2.2⟩)
  · by_cases e1 : e = 1
    · subst e1
      simp only [at2_1]
      exact (h.k.forgetT1 (by omega) k).mono (fun y w' hh => ⟨hh.1, pst_prog h (hh.2.1.mono (by omega)) (by omega) hh.2.2, kp_Y hh.2.2⟩)
    · simp only [at2_no _ _ e0 e1]
      exact (forget_bad e k e0 e1).mono (fun y w' hh => ⟨hh.1, PSx.mono ⟨U, V, Q, h.past hh.2⟩ (by omega), Kp.of_past hh.2⟩)
/-- The reference's Forget, behind the program's. -/
theorem p_forget2 (e : Int) (k : Int) (h : PSx w0 w c x depth N Y (at2 (fun i => cfK K i k) K e) K) (hN : N ≤ 100000)  :
    Calls Try.prog 45 #[.pointer (some ⟨x, 0, none⟩), .int .i64 e, .int .i64 k] w fun y w' => y = .returned (.int .i64 (at2 (fun i => cfS K i k) (-10) e)) ∧ PSx w0 w' c x depth N Y (at2 (fun i => cfK K i k) K e) (at2 (fun i => cfK K i k) K e) ∧ Kp Y w w' := by
  obtain ⟨U, V, Q, h⟩ := h
  have l0 := h.ln 0 (by omega)
  have l1 := h.ln 1 (by omega)
  by_cases e0 : e = 0
  · subst e0
    simp only [at2_0] at h ⊢
    exact (rforget0 h.r (by omega) k).mono (fun y w' hh => ⟨hh.1, pst_ref h hh.2⟩)
  · by_cases e1 : e = 1
    · subst e1
      simp only [at2_1] at h ⊢
      exact (rforget1 h.r (by omega) k).mono (fun y w' hh => ⟨hh.1, pst_ref h hh.2⟩)
    · simp only [at2_no _ _ e0 e1] at h ⊢
      exact ((rforget_bad x e k w e0 e1).mono (fun y w' hh => by obtain ⟨rfl, rfl⟩ := hh; exact ⟨rfl, ⟨U, V, Q, h⟩, Kp.of_past (Turn.refl _ _)⟩))
end
end Go.Proofs.Ytcbphfpfdfgehaa

namespace Go.Proofs.Ytcbphfpfdfgehaa
open Go.RowKit

section
variable {w0 w : World} {c depth N : Nat} {K : Nat → MS} {X : Nat → Prop}
theorem CSt.readU0 (h : CSt w0 w c depth N K X) (hN : N ≤ 1000000) (b i : Int) :
    Calls Try.prog 37 #[.pointer (some ⟨c, 0, none⟩), .int .i64 0, .int .i64 b, .int .i64 i] w fun x w' => ∃ q : QM, x = .returned (.tuple #[q.agg, .int .i64 (crS K 0 b i)]) ∧ q.m = crM K 0 b i ∧ q.Ok w' ∧ CSt w0 w' c depth N (crK K 0 b i) (fun k => X k ∨ q.F k) ∧ Kp X w w' ∧ (∀ k, q.F k → w0.heap.size ≤ k) ∧ ∀ k, q.F k → ¬ X k := by
  have hst := h
  obtain ⟨S, V, hC, rfl, ht, hf0, hx⟩ := h
  have no : ∀ u : Int, u ≠ 0 → u ≠ -15 → crS (planeOf S) 0 b i = u → ∀ (x : Ending) (w' : World), (x = .returned (.tuple #[.agg #[.int .i64 0, .slice none 0 0, .slice none 0 0], .int .i64 u]) ∧ Turn NoBlock w w') → ∃ q : QM, x = .returned (.tuple #[q.agg, .int .i64 (crS (planeOf S) 0 b i)]) ∧ q.m = crM (planeOf S) 0 b i ∧ q.Ok w' ∧ CSt w0 w' c depth N (crK (planeOf S) 0 b i) (fun k => X k ∨ q.F k) ∧ Kp X w w' ∧ (∀ k, q.F k → w0.heap.size ≤ k) ∧ ∀ k, q.F k → ¬ X k := by
    rintro u hu hu2 hs x w' ⟨rfl, t⟩
    have hM : crM (planeOf S) 0 b i = ⟨0, [], []⟩ := by unfold crM; rw [hs, if_neg hu, if_neg hu2]
    have hK : crK (planeOf S) 0 b i = planeOf S := by unfold crK; rw [hs, if_neg hu]
    rw [hM, hK, hs]
    exact ⟨⟨⟨0, [], []⟩, .slice none 0 0, .slice none 0 0⟩, rfl, rfl, zeroQ _, (hst.past t).fewer (fun k hk => hk.elim (fun h => h) (fun h => (zeroQ_F k h).elim)), Kp.of_past t, fun k hk => (zeroQ_F k hk).elim, fun k hk => (zeroQ_F k hk).elim⟩
  cases ho : (S 0).op with
  | false => exact (read_shut hC (e := 0) (by omega) ho b i).mono (no (-24) (by decide) (by decide) (by unfold crS; rw [if_pos (show (planeOf S 0).op = false from ho)]))
  | true =>
    have e1 : ¬ (planeOf S 0).op = false := by show ¬ (S 0).op = false; rw [ho]; decide
    by_cases hn : b < 0 ∨ i < 0
    · exact (read_neg hC (e := 0) (by omega) ho b i hn).mono (no (-10) (by decide) (by decide) (by unfold crS; rw [if_neg e1, if_pos hn]))
    · have hcore : Calls Try.prog 37 #[.pointer (some ⟨c, 0, none⟩), .int .i64 0, .int .i64 b, .int .i64 i] w (RPost w c 1 (S 0) (V 0) (S 1).op b i) := by
        rcases (show b ≤ i ∨ i < b by omega) with h2 | h2
        · exact read_core0a hC hN b i (by omega) h2 ho
        · exact read_core0b hC hN b i (by omega) h2 ho
      refine hcore.mono (fun x w' hp => ?_)
      rcases hp with ⟨q, qs, hs, hh⟩ | ⟨hs, h3⟩
      · have hq' : (planeOf S 0).q = q.m :: qs.map (·.m) := by show (S 0).q.map (·.m) = _; rw [hs]; rfl
        rcases hh with ⟨hbig, r, hrm, rfl, hro, hrf, t⟩ | ⟨hbig, rfl, hdr⟩
        · have hb : b < q.m.d.length ∨ i < q.m.h.length := hbig
          have hs2 : crS (planeOf S) 0 b i = -15 := by unfold crS; rw [if_neg e1, if_neg hn, hq']; simp only [if_pos hb]
          have hM : crM (planeOf S) 0 b i = q.m.blank := by unfold crM; rw [hs2, if_neg (by decide), if_pos rfl, hq']
          have hK : crK (planeOf S) 0 b i = planeOf S := by unfold crK; rw [hs2, if_neg (by decide)]
          rw [hs2, hM, hK]
          refine ⟨r, rfl, hrm, hro, ⟨S, V, hC.past t, rfl, ht.trans t (fun _ h => .inl h), hf0, fun k hk => ?_⟩, Kp.of_past t, fun k hk => by have := hrf k hk; have := ht.size; omega, fun k hk hX => by have := hrf k hk; have := (hx k hX).1; omega⟩
          rcases hk with hk | hk
          · exact ⟨Nat.lt_of_lt_of_le (hx k hk).1 t.size, (hx k hk).2⟩
          · exact ⟨hro.lt hk, fun hh => by have := hC.lt hh; have := hrf k hk; omega⟩
        · have hb : ¬ (b < q.m.d.length ∨ i < q.m.h.length) := hbig
          have hs2 : crS (planeOf S) 0 b i = 0 := by unfold crS; rw [if_neg e1, if_neg hn, hq']; simp only [if_neg hb]
          have hM : crM (planeOf S) 0 b i = q.m := by unfold crM; rw [hs2, if_pos rfl, hq']
          have hK : crK (planeOf S) 0 b i = updN (planeOf S) 0 ⟨(planeOf S 0).op, qs.map (·.m), (planeOf S 0).ws⟩ := by unfold crK; rw [hs2, if_pos rfl, hq']; rfl
          rw [hs2, hM, hK]
          obtain ⟨S', V', hmm, hqo, hqf⟩ := made_drop hC (e := 0) (by omega) ho hdr
          refine ⟨q, rfl, rfl, hqo, ⟨S', V', hmm.1, hmm.2.1, ht.trans hmm.2.2.1 (fun k hk => .inr (hf0 k hk)), fun k hk => ?_, fun k hk => ?_⟩, ⟨_, hmm.2.2.1, fun k hk => (hx k hk).2⟩, fun k hk => hf0 k (hqf k hk).1, fun k hk hX => (hx k hX).2 (hqf k hk).1⟩
          · rcases hmm.2.2.2 k hk with h | h
            · exact hf0 k h
            · have := ht.size; omega
          · rcases hk with hk | hk
            · refine ⟨Nat.lt_of_lt_of_le (hx k hk).1 hmm.2.2.1.size, fun hh => ?_⟩
              rcases hmm.2.2.2 k hh with h | h
              · exact (hx k hk).2 h
              · have := (hx k hk).1; omega
            · exact ⟨hqo.lt hk, (hqf k hk).2⟩
      · have hq' : (planeOf S 0).q = [] := by show (S 0).q.map (·.m) = _; rw [hs]; rfl
        refine no _ ?_ ?_ (by unfold crS; rw [if_neg e1, if_neg hn, hq']; rfl) x w' h3
        · split <;> decide
        · split <;> decide
theorem CSt.readU1 (h : CSt w0 w c depth N K X) (hN : N ≤ 1000000) (b i : Int) :
    Calls Try.prog 37 #[.pointer (some ⟨c, 0, none⟩), .int .i64 1, .int .i64 b, .int .i64 i] w fun x w' => ∃ q : QM, x = .returned (.tuple #[q.agg, .int .i64 (crS K 1 b i)]) ∧ q.m = crM K 1 b i ∧ q.Ok w' ∧ CSt w0 w' c depth N (crK K 1 b i) (fun k => X k ∨ q.F k) ∧ Kp X w w' ∧ (∀ k, q.F k → w0.heap.size ≤ k) ∧ ∀ k, q.F k → ¬ X k := by
  have hst := h
  obtain ⟨S, V, hC, rfl, ht, hf0, hx⟩ := h
  have no : ∀ u : Int, u ≠ 0 → u ≠ -15 → crS (planeOf S) 1 b i = u → ∀ (x : Ending) (w' : World), (x = .returned (.tuple #[.agg #[.int .i64 0, .slice none 0 0, .slice none 0 0], .int .i64 u]) ∧ Turn NoBlock w w') → ∃ q : QM, x = .returned (.tuple #[q.agg, .int .i64 (crS (planeOf S) 1 b i)]) ∧ q.m = crM (planeOf S) 1 b i ∧ q.Ok w' ∧ CSt w0 w' c depth N (crK (planeOf S) 1 b i) (fun k => X k ∨ q.F k) ∧ Kp X w w' ∧ (∀ k, q.F k → w0.heap.size ≤ k) ∧ ∀ k, q.F k → ¬ X k := by
    rintro u hu hu2 hs x w' ⟨rfl, t⟩
    have hM : crM (planeOf S) 1 b i = ⟨0, [], []⟩ := by unfold crM; rw [hs, if_neg hu, if_neg hu2]
    have hK : crK (planeOf S) 1 b i = planeOf S := by unfold crK; rw [hs, if_neg hu]
    rw [hM, hK, hs]
    exact ⟨⟨⟨0, [], []⟩, .slice none 0 0, .slice none 0 0⟩, rfl, rfl, zeroQ _, (hst.past t).fewer (fun k hk => hk.elim (fun h => h) (fun h => (zeroQ_F k h).elim)), Kp.of_past t, fun k hk => (zeroQ_F k hk).elim, fun k hk => (zeroQ_F k hk).elim⟩
  cases ho : (S 1).op with
  | false => exact (read_shut hC (e := 1) (by omega) ho b i).mono (no (-24) (by decide) (by decide) (by unfold crS; rw [if_pos (show (planeOf S 1).op = false from ho)]))
  | true =>
    have e1 : ¬ (planeOf S 1).op = false := by show ¬ (S 1).op = false; rw [ho]; decide
    by_cases hn : b < 0 ∨ i < 0
    · exact (read_neg hC (e := 1) (by omega) ho b i hn).mono (no (-10) (by decide) (by decide) (by unfold crS; rw [if_neg e1, if_pos hn]))
    · have hcore : Calls Try.prog 37 #[.pointer (some ⟨c, 0, none⟩), .int .i64 1, .int .i64 b, .int .i64 i] w (RPost w c 5 (S 1) (V 1) (S 0).op b i) := by
        rcases (show b ≤ i ∨ i < b by omega) with h2 | h2
        · exact read_core1a hC hN b i (by omega) h2 ho
        · exact read_core1b hC hN b i (by omega) h2 ho
      refine hcore.mono (fun x w' hp => ?_)
      rcases hp with ⟨q, qs, hs, hh⟩ | ⟨hs, h3⟩
      · have hq' : (planeOf S 1).q = q.m :: qs.map (·.m) := by show (S 1).q.map (·.m) = _; rw [hs]; rfl
        rcases hh with ⟨hbig, r, hrm, rfl, hro, hrf, t⟩ | ⟨hbig, rfl, hdr⟩
        · have hb : b < q.m.d.length ∨ i < q.m.h.length := hbig
          have hs2 : crS (planeOf S) 1 b i = -15 := by unfold crS; rw [if_neg e1, if_neg hn, hq']; simp only [if_pos hb]
          have hM : crM (planeOf S) 1 b i = q.m.blank := by unfold crM; rw [hs2, if_neg (by decide), if_pos rfl, hq']
          have hK : crK (planeOf S) 1 b i = planeOf S := by unfold crK; rw [hs2, if_neg (by decide)]
          rw [hs2, hM, hK]
          refine ⟨r, rfl, hrm, hro, ⟨S, V, hC.past t, rfl, ht.trans t (fun _ h => .inl h), hf0, fun k hk => ?_⟩, Kp.of_past t, fun k hk => by have := hrf k hk; have := ht.size; omega, fun k hk hX => by have := hrf k hk; have := (hx k hX).1; omega⟩
          rcases hk with hk | hk
          · exact ⟨Nat.lt_of_lt_of_le (hx k hk).1 t.size, (hx k hk).2⟩
          · exact ⟨hro.lt hk, fun hh => by have := hC.lt hh; have := hrf k hk; omega⟩
        · have hb : ¬ (b < q.m.d.length ∨ i < q.m.h.length) := hbig
          have hs2 : crS (planeOf S) 1 b i = 0 := by unfold crS; rw [if_neg e1, if_neg hn, hq']; simp only [if_neg hb]
          have hM : crM (planeOf S) 1 b i = q.m := by unfold crM; rw [hs2, if_pos rfl, hq']
          have hK : crK (planeOf S) 1 b i = updN (planeOf S) 1 ⟨(planeOf S 1).op, qs.map (·.m), (planeOf S 1).ws⟩ := by unfold crK; rw [hs2, if_pos rfl, hq']; rfl
          rw [hs2, hM, hK]
          obtain ⟨S', V', hmm, hqo, hqf⟩ := made_drop hC (e := 1) (by omega) ho hdr
          refine ⟨q, rfl, rfl, hqo, ⟨S', V', hmm.1, hmm.2.1, ht.trans hmm.2.2.1 (fun k hk => .inr (hf0 k hk)), fun k hk => ?_, fun k hk => ?_⟩, ⟨_, hmm.2.2.1, fun k hk => (hx k hk).2⟩, fun k hk => hf0 k (hqf k hk).1, fun k hk hX => (hx k hX).2 (hqf k hk).1⟩
          · rcases hmm.2.2.2 k hk with h | h
            · exact hf0 k h
            · have := ht.size; omega
          · rcases hk with hk | hk
            · refine ⟨Nat.lt_of_lt_of_le (hx k hk).1 hmm.2.2.1.size, fun hh => ?_⟩
              rcases hmm.2.2.2 k hh with h | h
              · exact (hx k hk).2 h
              · have := (hx k hk).1; omega
            · exact ⟨hqo.lt hk, (hqf k hk).2⟩
      · have hq' : (planeOf S 1).q = [] := by show (S 1).q.map (·.m) = _; rw [hs]; rfl
        refine no _ ?_ ?_ (by unfold crS; rw [if_neg e1, if_neg hn, hq']; rfl) x w' h3
        · split <;> decide
        · split <;> decide
end
end Go.Proofs.Ytcbphfpfdfgehaa

namespace Go.Proofs.Ytcbphfpfdfgehaa
open Go.RowKit

def zM : Msg := ⟨0, [], []⟩
section
variable {w0 w w' : World} {c x depth N : Nat} {Y Z : Nat → Prop} {K1 K : Nat → MS}
theorem pst_lt {U V : Nat → Value} {Q : Nat → List QM} (h : PSt w0 w c x depth N Y K1 K U V Q) {j : Nat} (hj : Y j) : j < w.heap.size := by
  obtain ⟨S, W, g1, g2, g3, g4, g5⟩ := h.k
  exact (g5 j (.inr hj)).1
/-- The program's Read. -/
theorem p_read (h : PSx w0 w c x depth N Y K K) (hN : N ≤ 100000) (e b i : Int) :
    Calls Try.prog 37 #[.pointer (some ⟨c, 0, none⟩), .int .i64 e, .int .i64 b, .int .i64 i] w fun y w' => ∃ q : QM, y = .returned (.tuple #[q.agg, .int .i64 (at2 (fun a => crS K a b i) (-10) e)]) ∧ q.m = at2 (fun a => crM K a b i) zM e ∧ q.Ok w' ∧ PSx w0 w' c x depth N (fun j => Y j ∨ q.F j) (at2 (fun a => crK K a b i) K e) K ∧ Kp Y w w' ∧ ∀ j, q.F j → ¬ Y j := by
  obtain ⟨U, V, Q, h⟩ := h
  have go : ∀ (st : Int) (m : Msg) (K2 : Nat → MS) (y : Ending) (w' : World), (∃ q : QM, y = .returned (.tuple #[q.agg, .int .i64 st]) ∧ q.m = m ∧ q.Ok w' ∧ CSt w0 w' c depth N K2 (fun k => (RF x U V k ∨ Y k) ∨ q.F k) ∧ Kp (fun k => RF x U V k ∨ Y k) w w' ∧ (∀ k, q.F k → w0.heap.size ≤ k) ∧ ∀ k, q.F k → ¬ (RF x U V k ∨ Y k)) → ∃ q : QM, y = .returned (.tuple #[q.agg, .int .i64 st]) ∧ q.m = m ∧ q.Ok w' ∧ PSx w0 w' c x depth N (fun j => Y j ∨ q.F j) K2 K ∧ Kp Y w w' ∧ ∀ j, q.F j → ¬ Y j := by
    rintro st m K2 y w' ⟨q, rfl, h1, h2, h3, ⟨F, t, hF⟩, h5, h6⟩
    refine ⟨q, rfl, h1, h2, ⟨U, V, Q, h3.fewer (fun k hk => ?_), h.r.kept t (fun k hk hf => hF k (.inl hk) hf), h.ln, fun j hj hf => ?_, fun j hj => ?_⟩, ⟨F, t, fun k hk => hF k (.inr hk)⟩, fun j hj hy => h6 j hj (.inr hy)⟩
    · rcases hk with hk | hk | hk
      · exact .inl (.inl hk)
      · exact .inl (.inr hk)
      · exact .inr hk
    · rcases hj with hj | hj
      · exact h.ap j hj hf
      · exact h6 j hj (.inl hf)
    · rcases hj with hj | hj | hj
      · exact h.mine j (.inl hj)
      · exact h.mine j (.inr hj)
      · exact h5 j hj
  by_cases e0 : e = 0
  · subst e0
    simp only [at2_0]
    exact (h.k.readU0 (by omega) b i).mono (go _ _ _)
  · by_cases e1 : e = 1
    · subst e1
      simp only [at2_1]
      exact (h.k.readU1 (by omega) b i).mono (go _ _ _)
    · simp only [at2_no _ _ e0 e1]
      exact (read_bad e b i e0 e1).mono (fun y w' hh => ⟨⟨zM, .slice none 0 0, .slice none 0 0⟩, hh.1, rfl, zeroQ _, PSx.fewer (PSx.past ⟨U, V, Q, h⟩ hh.2) (fun k hk => hk.elim (fun h => h) (fun h => (zeroQ_F k h).elim)), Kp.of_past hh.2, fun j hj => (zeroQ_F j hj).elim⟩)
/-- The reference's Read, behind the program's. -/
theorem p_read2 (e b i : Int) (h : PSx w0 w c x depth N Y (at2 (fun a => crK K a b i) K e) K) (hN : N ≤ 100000) :
    Calls Try.prog 40 #[.pointer (some ⟨x, 0, none⟩), .int .i64 e, .int .i64 b, .int .i64 i] w fun y w' => ∃ v, y = .returned (.tuple #[v, .int .i64 (at2 (fun a => crS K a b i) (-10) e)]) ∧ QTold w' v (at2 (fun a => crM K a b i) zM e) ∧ PSx w0 w' c x depth N Y (at2 (fun a => crK K a b i) K e) (at2 (fun a => crK K a b i) K e) ∧ Kp Y w w' := by
  obtain ⟨U, V, Q, h⟩ := h
  have l0 := h.ln 0 (by omega)
  have l1 := h.ln 1 (by omega)
  have hx := h.mine x (.inl (.inl rfl))
  by_cases e0 : e = 0
  · subst e0
    simp only [at2_0] at h ⊢
    refine (rreadT0 h.r h.k.turn hx (by omega) b i).mono ?_
    rintro y w' ⟨v, rfl, h1, h2⟩
    exact ⟨v, rfl, h1, pst_ref h h2⟩
  · by_cases e1 : e = 1
    · subst e1
      simp only [at2_1] at h ⊢
      refine (rreadT1 h.r h.k.turn hx (by omega) b i).mono ?_
      rintro y w' ⟨v, rfl, h1, h2⟩
      exact ⟨v, rfl, h1, pst_ref h h2⟩
    · simp only [at2_no _ _ e0 e1] at h ⊢
      exact (rread_bad x e b i w e0 e1).mono (fun y w' hh => ⟨_, hh.1, ⟨_, _, rfl, RdB.rz (Byts.rd (wrow_nil _ _ _)), RdI.rz (Nums.rd (wrow_nil _ _ _))⟩, PSx.past ⟨U, V, Q, h⟩ hh.2, Kp.of_past hh.2⟩)
/-- The program's Close. -/
theorem p_close (h : PSx w0 w c x depth N Y K K) (hN : N ≤ 100000) (e : Int) :
    Calls Try.prog 46 #[.pointer (some ⟨c, 0, none⟩), .int .i64 e] w fun y w' => ∃ vh vc, y = .returned (.tuple #[vh, vc, .int .i64 (at2 (clS K) (-10) e)]) ∧ Nums vh (at2 (clH K) [] e) w' ∧ Nums vc (at2 (clW K) [] e) w' ∧ PSx w0 w' c x depth N Y (at2 (clK K) K e) K ∧ Kp Y w w' := by
  obtain ⟨U, V, Q, h⟩ := h
  by_cases e0 : e = 0
  · subst e0
    simp only [at2_0]
    refine (h.k.closeT0 (by omega)).mono ?_
    rintro y w' ⟨vh, vc, rfl, h1, h2, h3, h4⟩
    exact ⟨vh, vc, rfl, h1, h2, pst_prog h h3 (Nat.le_refl _) h4, kp_Y h4⟩
  · by_cases e1 : e = 1
    · subst e1
      simp only [at2_1]
      refine (h.k.closeT1 (by omega)).mono ?_
      rintro y w' ⟨vh, vc, rfl, h1, h2, h3, h4⟩
      exact ⟨vh, vc, rfl, h1, h2, pst_prog h h3 (Nat.le_refl _) h4, kp_Y h4⟩
    · simp only [at2_no _ _ e0 e1]
      exact (close_bad e e0 e1).mono (fun y w' hh => ⟨_, _, hh.1, wrow_nil _ _ _, wrow_nil _ _ _, PSx.past ⟨U, V, Q, h⟩ hh.2, Kp.of_past hh.2⟩)
/-- The reference's Close, behind the program's. -/
theorem p_close2 (e : Int) (h : PSx w0 w c x depth N Y (at2 (clK K) K e) K) (hN : N ≤ 100000) :
    Calls Try.prog 47 #[.pointer (some ⟨x, 0, none⟩), .int .i64 e] w fun y w' => ∃ vh vc, y = .returned (.tuple #[vh, vc, .int .i64 (at2 (clS K) (-10) e)]) ∧ Nums vh (at2 (clH K) [] e) w' ∧ Nums vc (at2 (clW K) [] e) w' ∧ PSx w0 w' c x depth N Y (at2 (clK K) K e) (at2 (clK K) K e) ∧ Kp Y w w' := by
  obtain ⟨U, V, Q, h⟩ := h
  have l0 := h.ln 0 (by omega)
  have l1 := h.ln 1 (by omega)
  by_cases e0 : e = 0
  · subst e0
    simp only [at2_0] at h ⊢
    refine (rcloseT0 h.r h.k.turn (fun e he => by have := h.ln e he; omega) (by omega)).mono ?_
    rintro y w' ⟨vh, vc, rfl, h1, h2, h3⟩
    exact ⟨vh, vc, rfl, h1, h2, pst_ref h h3⟩
  · by_cases e1 : e = 1
    · subst e1
      simp only [at2_1] at h ⊢
      refine (rcloseT1 h.r h.k.turn (fun e he => by have := h.ln e he; omega) (by omega)).mono ?_
      rintro y w' ⟨vh, vc, rfl, h1, h2, h3⟩
      exact ⟨vh, vc, rfl, h1, h2, pst_ref h h3⟩
    · simp only [at2_no _ _ e0 e1] at h ⊢
      exact (rclose_bad x e w e0 e1).mono (fun y w' hh => by
        obtain ⟨rfl, rfl⟩ := hh
        exact ⟨_, _, rfl, wrow_nil _ _ _, wrow_nil _ _ _, ⟨U, V, Q, h⟩, Kp.of_past (Turn.refl _ _)⟩)
/-- What both show. -/
theorem t_shows0 {U V : Nat → Value} {Q : Nat → List QM} (h : PSt w0 w c x depth N Y K K U V Q) (hN : N ≤ 100000) : (Calls Try.prog 16 #[.pointer (some ⟨c, 0, none⟩), .int .i64 0] w fun y w' => y = .returned (.int .i64 (shK depth (K 0) (K 1))) ∧ Turn NoBlock w w') ∧ Calls Try.prog 17 #[.pointer (some ⟨x, 0, none⟩), .int .i64 0] w fun y w' => y = .returned (.int .i64 (shK depth (K 0) (K 1))) ∧ Turn NoBlock w w' :=
  ⟨h.k.shows0 (by omega), rshows0 h.r (by have := h.ln 0 (by omega); omega)⟩
theorem t_shows1 {U V : Nat → Value} {Q : Nat → List QM} (h : PSt w0 w c x depth N Y K K U V Q) (hN : N ≤ 100000) : (Calls Try.prog 16 #[.pointer (some ⟨c, 0, none⟩), .int .i64 1] w fun y w' => y = .returned (.int .i64 (shK depth (K 1) (K 0))) ∧ Turn NoBlock w w') ∧ Calls Try.prog 17 #[.pointer (some ⟨x, 0, none⟩), .int .i64 1] w fun y w' => y = .returned (.int .i64 (shK depth (K 1) (K 0))) ∧ Turn NoBlock w w' :=
  ⟨h.k.shows1 (by omega), rshows1 h.r (by have := h.ln 1 (by omega); omega)⟩
/-- Both channels, new. -/
theorem pst_new {ob : Array Value} (h : CSt w0 w c depth 0 (fun _ => ⟨true, [], []⟩) NoBlock) (hob : ob = #[.slice none 0 0, .slice none 0 0, .slice none 0 0, .slice none 0 0, .bool false, .bool false, .int .i64 (depth : Int)]) :
    PSx w0 (w.alloc (.cells ob 34 (0, 0))) c w.heap.size depth 0 NoBlock (fun _ => ⟨true, [], []⟩) (fun _ => ⟨true, [], []⟩) := by
  have hc : ∀ j u, ob[j]? = some u → (w.alloc (.cells ob 34 (0, 0))).cell? ⟨w.heap.size, j, none⟩ = some u := fun j u hu => by
    rw [cell_at (heap_alloc_new w _)]
    exact hu
  subst hob
  have hF : ∀ k, RF w.heap.size (fun _ => .slice none 0 0) (fun _ => .slice none 0 0) k → k = w.heap.size := by
    rintro k (h | ⟨e, -, h | h⟩)
    · exact h
    · exact (blk_nil k h).elim
    · exact (blk_nil k h).elim
  have two : ∀ e, e < 2 → e = 0 ∨ e = 1 := fun e he => by omega
  refine ⟨fun _ => .slice none 0 0, fun _ => .slice none 0 0, fun _ => [], h.more (((Turn.refl NoBlock w).alloc _).mono (fun k hk => hk.elim)) (fun k hk => .inr ?_) (fun k hk => hk.elim), ⟨⟨_, heap_alloc_new w _⟩, ?_, ?_, ?_, hc 6 _ rfl, fun e _ => wrow_nil _ _ _, fun e _ => wrow_nil _ _ _, (fun e _ q hq => (List.not_mem_nil hq).elim), fun e _ => rfl, (fun e _ t ht => (List.not_mem_nil ht).elim)⟩, fun e _ => ⟨Nat.zero_le _, Nat.zero_le _⟩, fun j hj => hj.elim, ?_⟩
  · rcases hk with hk | hk
    · obtain rfl := hF k hk
      exact ⟨Nat.le_refl _, lt_of_block (heap_alloc_new w _)⟩
    · exact hk.elim
  · intro e he; rcases two e he with rfl | rfl <;> exact hc _ _ rfl
  · intro e he; rcases two e he with rfl | rfl <;> exact hc _ _ rfl
  · intro e he; rcases two e he with rfl | rfl <;> exact hc _ _ rfl
  · intro k hk
    rcases hk with hk | hk
    · rw [hF k hk]; exact h.turn.size
    · exact hk.elim
end
end Go.Proofs.Ytcbphfpfdfgehaa

namespace Go.Proofs.Ytcbphfpfdfgehaa
open Go.ChangeShapes Go.WideShapes Go.ChangeAt Go.RowKit Go.Shelf

attribute [local go_sem] Oper.semAt_some

def noDefer (o : Oper) : Bool := match o.op with
  | .defer _ => false
  | _ => true
theorem noDefer_ne {o : Oper} (h : noDefer o = true) : ∀ c, o.op ≠ .defer c := by
  intro c hc
  unfold noDefer at h
  rw [hc] at h
  cases h

section
variable {P : Program} {ops : Array Oper} {Q : Exit → Act → World → Prop} {n l : Nat}
theorem wpOpIn_round {i : Nat} {K : Act → World → Prop} {a : Act} {w : World} (hd : ops.all noDefer = true) (hL : ¬ LetsOut Q) (h : wpOp P ops Q i K a w) : wpOpIn (Fence.wide.inRound l) n P ops Q i K a w := by
  unfold wpOp at h
  unfold wpOpIn
  cases ho : ops[i]? with
  | none => simpa [ho] using h
  | some o =>
    have hnd : noDefer o = true := by
      have := Array.all_eq_true'.1 hd o (Array.mem_of_getElem? ho)
      exact this
    simp only [ho] at h ⊢
    by_cases hw : Region.wanted o (yielded ops a.tmps) = true
    · simp only [hw, if_true] at h ⊢
      rcases h with h | h
      · unfold Oper.wp at h
        refine ⟨fun _ _ => trivial, ?_⟩
        rw [Oper.semAt_eq _ _ _ (noDefer_ne hnd)]
        generalize (execOp a.eval o).run P w = r at *
        cases r with
        | ok x w' =>
          cases x <;> simp only [Oper.upon, Oper.uponIn] at h ⊢ <;> first
            | exact h
            | exact ⟨fun h => (by cases h), CallsIn.inRound l ((callsIn_wide.2 h).mono (fun e w'' he => by cases e <;> exact he))⟩
            | exact ⟨fun h => (by cases h), fun c cs _ => let ⟨v, w', r, s⟩ := h c cs; ⟨v, w', r, stepsIn_wide.2 s⟩⟩
            | exact h.elim
        | halt x w' => cases x <;> simp only [Oper.upon, Oper.uponIn] at h ⊢ <;> exact h
      · exact absurd h.2 hL
    · simp only [hw] at h ⊢
      exact ⟨fun _ _ => trivial, h⟩
theorem wpAnyIn_held {md : Region.Mode} {S : World → Prop} (hd : ops.all noDefer = true) (hL : ¬ LetsOut Q) : ∀ (fuel : Nat) (listed : Array Bool) (a : Act) (w : World), wpAnyH P md ops Q S fuel listed a w → wpAnyIn (Fence.wide.inRound l) n P md ops Q fuel listed a w
  | 0, _, _, _, h => h
  | fuel + 1, _, _, _, h => ⟨h.1, fun i hi => wpOpIn_mono (fun a' w' h' => wpAnyIn_held hd hL fuel _ a' w' h'.2) (wpOpIn_round hd hL (h.2 i hi))⟩
theorem round_held {id : Nat} {S : World → Prop} {a : Act} {w : World} (hm : P.follows .mixedOrders = true) (hd : ops.all noDefer = true) (hL : ¬ LetsOut Q) (hS : S w.drew)
    (h : S w.drew → wpAnyH P .any ops Q S ops.size (Array.replicate ops.size false) a w.drew) : (Code.region id ops true).wpIn (Fence.wide.inRound l) n P Q a w :=
  wpIn_region_any hm (wpAnyIn_held hd hL _ _ _ _ (h hS))
end
set_option maxRecDepth 100000 in
set_option maxHeartbeats 4000000 in
theorem cmessages0 {w : World} {c depth N : Nat} {S : Nat → Sd} {V : Nat → SV} (hC : CMem w c depth N S V) (hN : N ≤ 100000) (ho : (S 0).op = true) :
    Calls Try.prog 13 #[.pointer (some ⟨c, 0, none⟩), .int .i64 0] w fun e w' => ∃ u L, e = .returned u ∧ WRow w' 49 3 u L.length (qcells L) ∧ L.map (·.m) = (S 0).q.map (·.m) ∧ (∀ q ∈ L, q.Ok w') ∧ (∀ k, (Blk u k ∨ ∃ q ∈ L, q.F k) → w.heap.size ≤ k) ∧ Turn NoBlock w w' := by
  obtain ⟨iM, hiM, hzM, hsM, hbM⟩ := info_parts infoM
  have HIM := Lib.hid (And.intro hiM (And.intro hzM (And.intro hsM hbM)))
  have H := Lib.hid (show SAt w c 1 (S 0) (V 0) from hC.s 0 (by omega))
  have HR := Lib.hid (fun W (t : Turn NoBlock w W) => show Calls Try.prog 48 #[.pointer (some ⟨c, 0, none⟩), .int .i64 0] W _ from right_yes (hC.past t) (e := 0) (by omega) ho)
  have H1 := Lib.hid (show (S 0).an.length ≤ 1000000 ∧ (S 0).ot.length ≤ 1000000 by have := hC.len 0 (by omega); omega)
  generalize S 0 = s at *
  generalize V 0 = v at *
  clear hC ho hN hiM hzM hsM hbM
  refine (callsIn_wide (n := 6)).1 ?_
  refine callsIn_of_wp_marks (F := Fence.wide) Try.func13 rfl trivial ?_ rfl
  simp only [Try.ntmps13, List.size_toArray, List.length_cons, List.length_nil, Nat.reduceAdd, Nat.reduceSub, Array.replicate_succ, Array.replicate_zero, List.push_toArray, List.append_toArray, List.nil_append, List.cons_append]
  gi_wp2_with (first
    | (refine ⟨trivial, ?_⟩; gi_at_call 48; refine (callsIn_wide.2 (HR.out _ (Turn.refl _ _))).mono ?_; rintro e w' ⟨rfl, rfl⟩)
    | (refine ⟨trivial, ?_⟩; gi_at_call 49; refine (callsIn_wide.2 (queue_any _ _)).mono ?_; rintro e w' ⟨rfl, rfl⟩))
  obtain ⟨E, hE⟩ : ∃ E, w.heap.size = E := ⟨_, rfl⟩
  have hst : ((w.alloc (.cells #[.slice none 0 0] 42)).alloc (.cells #[.pointer (some ⟨c, 1, none⟩)] 111)).heap.size = E + 2 := by simp [hE]
  have bx0 := (Boxed.new w 42 (.slice none 0 0)).alloc (.cells #[.pointer (some ⟨c, 1, none⟩)] 111)
  have bx1 := Boxed.new (w.alloc (.cells #[.slice none 0 0] 42)) 111 (.pointer (some ⟨c, 1, none⟩))
  rw [World.size_alloc, hE] at bx1
  rw [hE] at bx0
  have hT : Turn NoBlock w ((w.alloc (.cells #[.slice none 0 0] 42)).alloc (.cells #[.pointer (some ⟨c, 1, none⟩)] 111)) := ((Turn.refl _ w).alloc _).alloc _
  have hS0 : SAt ((w.alloc (.cells #[.slice none 0 0] 42)).alloc (.cells #[.pointer (some ⟨c, 1, none⟩)] 111)) c 1 s v := H.out.past hT
  generalize ((w.alloc (.cells #[.slice none 0 0] 42)).alloc (.cells #[.pointer (some ⟨c, 1, none⟩)] 111)) = W0 at *
  rw [hE]
  have hQ0 : QSees (E + 1) c 1 s v W0 := ⟨bx1, hS0⟩
  refine range2 (gf := 72) (lb := #[.pointer (some ⟨E + 1, 0, none⟩)]) rfl (enters_of Try.func72 (by kernel_rfl) rfl)
    (queue_gives (E + 1) c 1 s v (by have := H1.out.1; omega) (by have := H1.out.2; omega)) (fun _ => rfl)
    (fun pre X => (∃ u L, Boxed X E 42 u ∧ WRow X 49 3 u L.length (qcells L) ∧ L.map (·.m) = pre.map (·.m) ∧ (∀ q ∈ L, q.Ok X) ∧ ∀ k, (Blk u k ∨ ∃ q ∈ L, q.F k) → E ≤ k) ∧ QSees (E + 1) c 1 s v X ∧ Turn NoBlock w X)
    (fun _ _ _ => False) ?hI (fun _ _ _ _ _ hs _ _ => hs) (fun _ _ h => h.2.1) ⟨⟨_, [], bx0, wrow_nil _ _ _, rfl, (fun q hq => by cases hq), fun k hk => hk.elim (fun h => (blk_nil k h).elim) (fun ⟨q, hq, _⟩ => by cases hq)⟩, hQ0, hT⟩
    (fun x a' X => ∃ Bx, X.heap[Bx]? = some (.cells #[.int .i64 x.m.tx, x.vd, x.vh] 49 (0, 0)) ∧ a' = { tmps := #[.pointer (some ⟨c, 0, none⟩), .int .i64 0, undef, undef, .slice none 0 0, .pointer (some ⟨E, 0, none⟩), .pointer (some ⟨Bx, 0, none⟩), .pointer (some ⟨c, 0, none⟩), .int .i64 0, .int .i64 0, .bool false, .pointer (some ⟨c, 0, none⟩), .int .i64 0, .pointer (some ⟨c, 0, none⟩), .pointer (some ⟨c, 1, none⟩), .pointer (some ⟨c, 1, none⟩), .func (.func 72) #[] #[.pointer (some ⟨E + 1, 0, none⟩)], x.agg, undef, undef, undef, undef, undef, undef], defers := [] } ∧ Shown x) ?hAx ?assign ?body ?done ?stop
  case hI =>
    rintro pre X Y row ⟨⟨u, L, hb, hu, hm, hok, hk⟩, hq, ht⟩ hg hr
    exact ⟨⟨u, L, boxed_nocell hb hg (fun r e => (hr r e).2), WRow.nocell hu hg (fun r e => (hr r e).2), hm, fun q hq2 => ⟨WRow.nocell (hok q hq2).d hg (fun r e => (hr r e).2), WRow.nocell (hok q hq2).h hg (fun r e => (hr r e).2), (hok q hq2).fits⟩, hk⟩, hq.grown hQ0 hg (fun r e => (hr r e).1), ht.grown hg (fun r e => .inr (by have := (hr r e).1; omega))⟩
  case hAx =>
    rintro x a' - X Y row ⟨Bx, hb, rfl, hsh⟩ hg hr
    exact ⟨Bx, heap_nocell hb hg (fun r e => (hr r e).2), rfl, hsh⟩
  case assign =>
    rintro l pre q X K ⟨⟨u, L, hb, hu, hm, hok, hk⟩, hq, ht⟩ ⟨hmem, hlen⟩ hX hK
    have hsh := (hq.at'.ok q hmem).shown
    obtain ⟨⟨p1, c1, hvd⟩, p2, c2, hvh⟩ := hsh
    have HK := Lib.hid hK
    have HI := Lib.hid (And.intro hb (And.intro hu (And.intro hq ht)))
    have HKK := Lib.hid (And.intro hk (And.intro hm hok))
    have HD := Lib.hid (And.intro hvd hvh)
    unfold QM.agg
    rw [hvd, hvh]
    clear hb hu hk hm hok hq ht hmem hlen hX hK hvd hvh hE hst hQ0 hS0 hT bx0 bx1
    gi_wp2
    have ta : Turn NoBlock X (X.alloc (.cells #[.int .i64 q.m.tx, .slice p1 q.m.d.length c1, .slice p2 q.m.h.length c2] 49)) := (Turn.refl _ X).alloc _
    refine HK.out _ _ (KeepsAll.of_turn ta (fun _ h => h.elim)) ⟨⟨u, L, HI.out.1.alloc _, HI.out.2.1.past ta, HKK.out.2.1, fun q2 h2 => (HKK.out.2.2 q2 h2).kept ta (fun _ _ h => h), HKK.out.1⟩, HI.out.2.2.1.kept ta (fun _ _ h => h), TT HI.out.2.2.2 ta⟩ ⟨X.heap.size, ?_, ?_, ⟨p1, c1, HD.out.1⟩, p2, c2, HD.out.2⟩
    · rw [heap_alloc_new, HD.out.1, HD.out.2]
    · unfold QM.agg; rw [HD.out.1, HD.out.2]
  case body =>
    rintro l pre q a' X hX ⟨⟨u, L, hb, hu, hm, hok, hk⟩, hq, ht⟩ ⟨Bx, hbx, rfl, hsh⟩ ⟨hmem, hlen⟩
    obtain ⟨⟨p1, c1, hvd⟩, p2, c2, hvh⟩ := hsh
    have hqok := hq.at'.ok q hmem
    have CC := Lib.hid (fun W (t : Turn NoBlock X W) => copied_any W q.m q.vd q.vh (Byts.rd (hqok.d.past t)) (Nums.rd (hqok.h.past t)) hqok.fits)
    obtain ⟨pu, cu, rfl⟩ := hu.sl
    have hub := H1.out
    have hll : L.length = pre.length := by have := congrArg List.length hm; simpa using this
    have f1 : L.length + 1 ≤ maxLen := by unfold maxLen; omega
    have f2 : (L.length + 1) * 56 ≤ 140737488355328 := by omega
    have hty : TBlk X E 42 := ⟨_, hb⟩
    have e0 := hb.cell
    have elt := hb.lt
    rw [hvd, hvh] at hbx CC
    unfold QM.agg
    rw [hvd, hvh]
    obtain ⟨x0, x1, x2⟩ := box3 hbx
    have bxl := lt_of_block hbx
    obtain ⟨n, hn⟩ : ∃ n, L.length = n := ⟨_, rfl⟩
    rw [hn] at hu e0 f1 f2 hk hb
    have F := Lib.hid (And.intro f1 f2)
    have HU := Lib.hid hu
    have HB := Lib.hid (And.intro hb hty)
    have HQ := Lib.hid hq
    have HT := Lib.hid ht
    have HE := Lib.hid hE
    have HST := Lib.hid hst
    have HKK := Lib.hid (And.intro hk (And.intro hm (And.intro hok hn)))
    have HQ0 := Lib.hid hQ0
    have HX := Lib.hid hX
    clear hb hu hk hm hok hn hll hq ht hbx hvd hvh hqok hub f1 f2 hty hE hst hQ0 hS0 hT bx0 bx1 hX hmem hlen
    gi_wp2
    refine round_held (S := fun _ => True) (by kernel_rfl) (by kernel_rfl) (fun ⟨a, w, h⟩ => h) trivial (fun _ => ?_)
    refine wpAnyH_ready (rs := [0, 1]) (by kernel_rfl) (by simp) ?_
    refine AllReadyH.cons rfl (fun K' hK' => ?_) ?_
    · go_simp
      refine hK' _ _ trivial (fun _ => ?_)
      clear hK' K'
      (try simp only [Act.put, List.setIfInBounds_toArray, List.set_cons_zero, List.set_cons_succ])
      refine wpAnyH_ready (rs := [1]) (by kernel_rfl) (by simp) ?_
      refine AllReadyH.cons rfl (fun K' hK' => ?_) AllReadyH.nil
      go_simp
      refine hK' _ _ trivial (fun _ => ?_)
      clear hK' K'
      (try simp only [Act.put, List.setIfInBounds_toArray, List.set_cons_zero, List.set_cons_succ])
      refine wpAnyH_ready (rs := [2]) (by kernel_rfl) (by simp) ?_
      refine AllReadyH.cons rfl (fun K' hK' => ?_) AllReadyH.nil
      go_simp
      (go_at_call 50; (with_reducible refine (CC.out _ ((Turn.refl NoBlock X).drew)).mono ?_); rintro y w2 ⟨q2, hq2, rfl, ok2, fr2, t2⟩)
      have OK2 := Lib.hid (And.intro hq2 (And.intro ok2 (And.intro fr2 t2)))
      have TT2 := Lib.hid (TT ((Turn.refl NoBlock X).drew) t2)
      have e0 := TT2.out.cell e0 (fun h => h)
      have elt := Nat.lt_of_lt_of_le elt TT2.out.size
      obtain ⟨pd2, cd2, hvd2⟩ := ok2.d.sl
      obtain ⟨ph2, ch2, hvh2⟩ := ok2.h.sl
      obtain ⟨m2, vd2, vh2⟩ := q2
      simp only [QM.agg] at hvd2 hvh2 ⊢
      subst hvd2 hvh2
      clear hq2 ok2 fr2 t2
      go_simp
      refine hK' _ _ trivial (fun _ => ?_)
      clear hK' K'
      (try simp only [Act.put, List.setIfInBounds_toArray, List.set_cons_zero, List.set_cons_succ])
      refine wpAnyH_ready (rs := [3]) (by kernel_rfl) (by simp) ?_
      refine AllReadyH.cons rfl (fun K' hK' => ?_) AllReadyH.nil
      go_simp
      refine hK' _ _ trivial (fun _ => ?_)
      clear hK' K'
      (try simp only [Act.put, List.setIfInBounds_toArray, List.set_cons_zero, List.set_cons_succ])
      refine wpAnyH_ready (rs := [4]) (by kernel_rfl) (by simp) ?_
      refine AllReadyH.cons rfl (fun K' hK' => ?_) AllReadyH.nil
      refine step_append_r rfl (.tmp 18) (.tmp 21) 42 42 rfl ((HU.out.past TT2.out).past ((Turn.refl NoBlock w2).alloc _)) iM _ 56 msgsT HIM.out.1 HIM.out.2.1 HIM.out.2.2.1 HIM.out.2.2.2 (by rfl) (by rfl) (by rfl) (Rd.src (rd_new w2 49 3 #[.int .i64 m2.tx, .slice pd2 m2.d.length cd2, .slice ph2 m2.h.length ch2] rfl) 42 49 msgsT (fun u hu => by simp at hu; rcases hu with rfl | rfl | rfl <;> rfl)) F.out.1 F.out.2 ?_
      intro v' W1 z1 r1 t1 k1
      clear z1
      obtain ⟨p', c', rfl⟩ := r1.sl
      have hEu := blk_typed HU.out HB.out.2 (by decide)
      have g0 := t1.cell (((Turn.refl NoBlock w2).alloc _).cell e0 (fun h => h)) hEu
      have g1 := ((HB.out.2.kept (TT TT2.out ((Turn.refl NoBlock w2).alloc _)) (fun h => h)).kept t1 hEu).free 0
      have g2 := ((HB.out.2.kept (TT TT2.out ((Turn.refl NoBlock w2).alloc _)) (fun h => h)).kept t1 hEu).lt
      have R1 := Lib.hid r1
      have T1 := Lib.hid t1
      have K1 := Lib.hid k1
      clear r1 t1 k1
      try go_simp
      refine hK' _ _ trivial (fun _ => ?_)
      clear hK' K'
      (try simp only [Act.put, List.setIfInBounds_toArray, List.set_cons_zero, List.set_cons_succ])
      refine wpAnyH_ready (rs := [5]) (by kernel_rfl) (by simp) ?_
      refine AllReadyH.cons rfl (fun K' hK' => ?_) AllReadyH.nil
      go_simp
      refine hK' _ _ trivial (fun _ => ?_)
      clear hK' K'
      (try simp only [Act.put, List.setIfInBounds_toArray, List.set_cons_zero, List.set_cons_succ])
      refine wpAnyH_done (by kernel_rfl) ?_ _
      gi_wp2
      have hEu := blk_typed HU.out HB.out.2 (by decide)
      have hEE := HE.out
      have hSS := HST.out
      have hXX := HX.out
      have hEl := HB.out.2.lt
      have TA := TT TT2.out ((Turn.refl NoBlock w2).alloc (.cells #[.int .i64 m2.tx, .slice pd2 m2.d.length cd2, .slice ph2 m2.h.length ch2] 49))
      have hTA := TA.size
      have tW : Turn (Blk (.slice pu n cu)) X W1 := (TU (F := Blk (.slice pu n cu)) TA).trans T1.out (fun k hk => .inl hk)
      have tall : Turn (fun k => k = E ∨ Blk (.slice pu n cu) k) X (W1.setCell ⟨E, 0, none⟩ (.slice p' (n + 1) c')) := (tW.mono (fun k hk => .inl (.inr hk))).setCell (p := ⟨E, 0, none⟩) (.inl (.inl rfl)) _
      have tyE := HB.out.2.kept tW hEu
      have tE : Turn (fun k => k = E) W1 (W1.setCell ⟨E, 0, none⟩ (.slice p' (n + 1) c')) := (Turn.refl (fun k => k = E) W1).setCell (p := ⟨E, 0, none⟩) (.inl rfl) _
      have huw : WRow w2 49 3 (.slice pu n cu) n (qcells L) := HU.out.past TT2.out
      have tw : Turn (Blk (.slice pu n cu)) w2 W1 := (TU (F := Blk (.slice pu n cu)) ((Turn.refl NoBlock w2).alloc _)).trans T1.out (fun k hk => .inl hk)
      refine ⟨KeepsAll.of_turn tall (fun k hk => ?_), ⟨.slice p' (n + 1) c', ?_, L ++ [⟨m2, .slice pd2 m2.d.length cd2, .slice ph2 m2.h.length ch2⟩], ?_, ?_, ?_, ?_⟩, HQ.out.kept tall (fun k hk hh => ?_), HT.out.trans tall (fun k hk => .inr ?_)⟩
      · rcases hk with rfl | hk
        · left; omega
        · exact .inr (.inr ⟨49, HU.out.typed hk, by decide, by decide⟩)
      · exact set_at (tW.heap (show X.heap[E]? = some (.cells #[_] 42 (0, 0)) from HB.out.1) hEu) 0 _
      · rw [List.length_append, HKK.out.2.2.2, qcells_app]
        exact WRow.setC R1.out tyE (by decide)
      · rw [List.map_append, List.map_append, HKK.out.2.1, show m2 = q.m from OK2.out.1]
        rfl
      · intro q' h'
        rcases List.mem_append.1 h' with h5 | h5
        · have ok' := HKK.out.2.2.1 q' h5
          refine ok'.kept tall (fun k hk hh => ?_)
          rcases hh with rfl | hh
          · rcases hk with hk | hk
            · exact blk_typed ok'.d HB.out.2 (by decide) hk
            · exact blk_typed ok'.h HB.out.2 (by decide) hk
          · rcases hk with hk | hk
            · exact blks_typed ok'.d HU.out (by decide) k hk hh
            · exact blks_typed ok'.h HU.out (by decide) k hk hh
        · simp at h5
          subst h5
          have ok' := OK2.out.2.1
          have ok1 := ok'.kept tw (fun k hk hh => by
            rcases hk with hk | hk
            · exact blks_typed ok'.d huw (by decide) k hk hh
            · exact blks_typed ok'.h huw (by decide) k hk hh)
          refine ok1.kept tE (fun k hk e1 => ?_)
          subst e1
          rcases hk with hk | hk
          · exact blk_typed ok1.d tyE (by decide) hk
          · exact blk_typed ok1.h tyE (by decide) hk
      · intro k hk
        rcases hk with hk | ⟨q', h', hk⟩
        · rcases K1.out k hk with h6 | h6
          · exact HKK.out.1 k (.inl h6)
          · have := h6.1; omega
        · rcases List.mem_append.1 h' with h5 | h5
          · exact HKK.out.1 k (.inr ⟨q', h5, hk⟩)
          · simp at h5
            subst h5
            have h8 := OK2.out.2.2.1 k hk
            have h9 : X.drew.heap.size = X.heap.size := rfl
            omega
      · rcases hh with rfl | hh
        · have h7 := HQ0.out
          rcases hk with hk | hk | hk
          · omega
          · subst hk
            exact (HQ.out.at'.typ.unlike HB.out.2 (by decide)) rfl
          · have := H.out.lt (.inr hk); omega
        · have h8 := HKK.out.1 k (.inl hh)
          rcases hk with rfl | hk
          · exact (TBlk.unlike (show TBlk X (E + 1) 111 from ⟨_, HQ.out.box⟩) (HU.out.typed hh) (by decide)) rfl
          · have := H.out.lt hk; omega
      · rcases hk with rfl | hk
        · omega
        · have := HKK.out.1 k (.inl hk); omega
    refine AllReadyH.cons rfl (fun K' hK' => ?_) AllReadyH.nil
    go_simp
    refine hK' _ _ trivial (fun _ => ?_)
    clear hK' K'
    (try simp only [Act.put, List.setIfInBounds_toArray, List.set_cons_zero, List.set_cons_succ])
    refine wpAnyH_ready (rs := [0, 2]) (by kernel_rfl) (by simp) ?_
    refine AllReadyH.cons rfl (fun K' hK' => ?_) ?_
    · go_simp
      refine hK' _ _ trivial (fun _ => ?_)
      clear hK' K'
      (try simp only [Act.put, List.setIfInBounds_toArray, List.set_cons_zero, List.set_cons_succ])
      refine wpAnyH_ready (rs := [2]) (by kernel_rfl) (by simp) ?_
      refine AllReadyH.cons rfl (fun K' hK' => ?_) AllReadyH.nil
      go_simp
      (go_at_call 50; (with_reducible refine (CC.out _ ((Turn.refl NoBlock X).drew)).mono ?_); rintro y w2 ⟨q2, hq2, rfl, ok2, fr2, t2⟩)
      have OK2 := Lib.hid (And.intro hq2 (And.intro ok2 (And.intro fr2 t2)))
      have TT2 := Lib.hid (TT ((Turn.refl NoBlock X).drew) t2)
      have e0 := TT2.out.cell e0 (fun h => h)
      have elt := Nat.lt_of_lt_of_le elt TT2.out.size
      obtain ⟨pd2, cd2, hvd2⟩ := ok2.d.sl
      obtain ⟨ph2, ch2, hvh2⟩ := ok2.h.sl
      obtain ⟨m2, vd2, vh2⟩ := q2
      simp only [QM.agg] at hvd2 hvh2 ⊢
      subst hvd2 hvh2
      clear hq2 ok2 fr2 t2
      go_simp
      refine hK' _ _ trivial (fun _ => ?_)
      clear hK' K'
      (try simp only [Act.put, List.setIfInBounds_toArray, List.set_cons_zero, List.set_cons_succ])
      refine wpAnyH_ready (rs := [3]) (by kernel_rfl) (by simp) ?_
      refine AllReadyH.cons rfl (fun K' hK' => ?_) AllReadyH.nil
      go_simp
      refine hK' _ _ trivial (fun _ => ?_)
      clear hK' K'
      (try simp only [Act.put, List.setIfInBounds_toArray, List.set_cons_zero, List.set_cons_succ])
      refine wpAnyH_ready (rs := [4]) (by kernel_rfl) (by simp) ?_
      refine AllReadyH.cons rfl (fun K' hK' => ?_) AllReadyH.nil
      refine step_append_r rfl (.tmp 18) (.tmp 21) 42 42 rfl ((HU.out.past TT2.out).past ((Turn.refl NoBlock w2).alloc _)) iM _ 56 msgsT HIM.out.1 HIM.out.2.1 HIM.out.2.2.1 HIM.out.2.2.2 (by rfl) (by rfl) (by rfl) (Rd.src (rd_new w2 49 3 #[.int .i64 m2.tx, .slice pd2 m2.d.length cd2, .slice ph2 m2.h.length ch2] rfl) 42 49 msgsT (fun u hu => by simp at hu; rcases hu with rfl | rfl | rfl <;> rfl)) F.out.1 F.out.2 ?_
      intro v' W1 z1 r1 t1 k1
      clear z1
      obtain ⟨p', c', rfl⟩ := r1.sl
      have hEu := blk_typed HU.out HB.out.2 (by decide)
      have g0 := t1.cell (((Turn.refl NoBlock w2).alloc _).cell e0 (fun h => h)) hEu
      have g1 := ((HB.out.2.kept (TT TT2.out ((Turn.refl NoBlock w2).alloc _)) (fun h => h)).kept t1 hEu).free 0
      have g2 := ((HB.out.2.kept (TT TT2.out ((Turn.refl NoBlock w2).alloc _)) (fun h => h)).kept t1 hEu).lt
      have R1 := Lib.hid r1
      have T1 := Lib.hid t1
      have K1 := Lib.hid k1
      clear r1 t1 k1
      try go_simp
      refine hK' _ _ trivial (fun _ => ?_)
      clear hK' K'
      (try simp only [Act.put, List.setIfInBounds_toArray, List.set_cons_zero, List.set_cons_succ])
      refine wpAnyH_ready (rs := [5]) (by kernel_rfl) (by simp) ?_
      refine AllReadyH.cons rfl (fun K' hK' => ?_) AllReadyH.nil
      go_simp
      refine hK' _ _ trivial (fun _ => ?_)
      clear hK' K'
      (try simp only [Act.put, List.setIfInBounds_toArray, List.set_cons_zero, List.set_cons_succ])
      refine wpAnyH_done (by kernel_rfl) ?_ _
      gi_wp2
      have hEu := blk_typed HU.out HB.out.2 (by decide)
      have hEE := HE.out
      have hSS := HST.out
      have hXX := HX.out
      have hEl := HB.out.2.lt
      have TA := TT TT2.out ((Turn.refl NoBlock w2).alloc (.cells #[.int .i64 m2.tx, .slice pd2 m2.d.length cd2, .slice ph2 m2.h.length ch2] 49))
      have hTA := TA.size
      have tW : Turn (Blk (.slice pu n cu)) X W1 := (TU (F := Blk (.slice pu n cu)) TA).trans T1.out (fun k hk => .inl hk)
      have tall : Turn (fun k => k = E ∨ Blk (.slice pu n cu) k) X (W1.setCell ⟨E, 0, none⟩ (.slice p' (n + 1) c')) := (tW.mono (fun k hk => .inl (.inr hk))).setCell (p := ⟨E, 0, none⟩) (.inl (.inl rfl)) _
      have tyE := HB.out.2.kept tW hEu
      have tE : Turn (fun k => k = E) W1 (W1.setCell ⟨E, 0, none⟩ (.slice p' (n + 1) c')) := (Turn.refl (fun k => k = E) W1).setCell (p := ⟨E, 0, none⟩) (.inl rfl) _
      have huw : WRow w2 49 3 (.slice pu n cu) n (qcells L) := HU.out.past TT2.out
      have tw : Turn (Blk (.slice pu n cu)) w2 W1 := (TU (F := Blk (.slice pu n cu)) ((Turn.refl NoBlock w2).alloc _)).trans T1.out (fun k hk => .inl hk)
      refine ⟨KeepsAll.of_turn tall (fun k hk => ?_), ⟨.slice p' (n + 1) c', ?_, L ++ [⟨m2, .slice pd2 m2.d.length cd2, .slice ph2 m2.h.length ch2⟩], ?_, ?_, ?_, ?_⟩, HQ.out.kept tall (fun k hk hh => ?_), HT.out.trans tall (fun k hk => .inr ?_)⟩
      · rcases hk with rfl | hk
        · left; omega
        · exact .inr (.inr ⟨49, HU.out.typed hk, by decide, by decide⟩)
      · exact set_at (tW.heap (show X.heap[E]? = some (.cells #[_] 42 (0, 0)) from HB.out.1) hEu) 0 _
      · rw [List.length_append, HKK.out.2.2.2, qcells_app]
        exact WRow.setC R1.out tyE (by decide)
      · rw [List.map_append, List.map_append, HKK.out.2.1, show m2 = q.m from OK2.out.1]
        rfl
      · intro q' h'
        rcases List.mem_append.1 h' with h5 | h5
        · have ok' := HKK.out.2.2.1 q' h5
          refine ok'.kept tall (fun k hk hh => ?_)
          rcases hh with rfl | hh
          · rcases hk with hk | hk
            · exact blk_typed ok'.d HB.out.2 (by decide) hk
            · exact blk_typed ok'.h HB.out.2 (by decide) hk
          · rcases hk with hk | hk
            · exact blks_typed ok'.d HU.out (by decide) k hk hh
            · exact blks_typed ok'.h HU.out (by decide) k hk hh
        · simp at h5
          subst h5
          have ok' := OK2.out.2.1
          have ok1 := ok'.kept tw (fun k hk hh => by
            rcases hk with hk | hk
            · exact blks_typed ok'.d huw (by decide) k hk hh
            · exact blks_typed ok'.h huw (by decide) k hk hh)
          refine ok1.kept tE (fun k hk e1 => ?_)
          subst e1
          rcases hk with hk | hk
          · exact blk_typed ok1.d tyE (by decide) hk
          · exact blk_typed ok1.h tyE (by decide) hk
      · intro k hk
        rcases hk with hk | ⟨q', h', hk⟩
        · rcases K1.out k hk with h6 | h6
          · exact HKK.out.1 k (.inl h6)
          · have := h6.1; omega
        · rcases List.mem_append.1 h' with h5 | h5
          · exact HKK.out.1 k (.inr ⟨q', h5, hk⟩)
          · simp at h5
            subst h5
            have h8 := OK2.out.2.2.1 k hk
            have h9 : X.drew.heap.size = X.heap.size := rfl
            omega
      · rcases hh with rfl | hh
        · have h7 := HQ0.out
          rcases hk with hk | hk | hk
          · omega
          · subst hk
            exact (HQ.out.at'.typ.unlike HB.out.2 (by decide)) rfl
          · have := H.out.lt (.inr hk); omega
        · have h8 := HKK.out.1 k (.inl hh)
          rcases hk with rfl | hk
          · exact (TBlk.unlike (show TBlk X (E + 1) 111 from ⟨_, HQ.out.box⟩) (HU.out.typed hh) (by decide)) rfl
          · have := H.out.lt hk; omega
      · rcases hk with rfl | hk
        · omega
        · have := HKK.out.1 k (.inl hk); omega
    refine AllReadyH.cons rfl (fun K' hK' => ?_) AllReadyH.nil
    go_simp
    (go_at_call 50; (with_reducible refine (CC.out _ ((Turn.refl NoBlock X).drew)).mono ?_); rintro y w2 ⟨q2, hq2, rfl, ok2, fr2, t2⟩)
    have OK2 := Lib.hid (And.intro hq2 (And.intro ok2 (And.intro fr2 t2)))
    have TT2 := Lib.hid (TT ((Turn.refl NoBlock X).drew) t2)
    have e0 := TT2.out.cell e0 (fun h => h)
    have elt := Nat.lt_of_lt_of_le elt TT2.out.size
    obtain ⟨pd2, cd2, hvd2⟩ := ok2.d.sl
    obtain ⟨ph2, ch2, hvh2⟩ := ok2.h.sl
    obtain ⟨m2, vd2, vh2⟩ := q2
    simp only [QM.agg] at hvd2 hvh2 ⊢
    subst hvd2 hvh2
    clear hq2 ok2 fr2 t2
    go_simp
    refine hK' _ _ trivial (fun _ => ?_)
    clear hK' K'
    (try simp only [Act.put, List.setIfInBounds_toArray, List.set_cons_zero, List.set_cons_succ])
    refine wpAnyH_ready (rs := [0, 3]) (by kernel_rfl) (by simp) ?_
    refine AllReadyH.cons rfl (fun K' hK' => ?_) ?_
    · go_simp
      refine hK' _ _ trivial (fun _ => ?_)
      clear hK' K'
      (try simp only [Act.put, List.setIfInBounds_toArray, List.set_cons_zero, List.set_cons_succ])
      refine wpAnyH_ready (rs := [3]) (by kernel_rfl) (by simp) ?_
      refine AllReadyH.cons rfl (fun K' hK' => ?_) AllReadyH.nil
      go_simp
      refine hK' _ _ trivial (fun _ => ?_)
      clear hK' K'
      (try simp only [Act.put, List.setIfInBounds_toArray, List.set_cons_zero, List.set_cons_succ])
      refine wpAnyH_ready (rs := [4]) (by kernel_rfl) (by simp) ?_
      refine AllReadyH.cons rfl (fun K' hK' => ?_) AllReadyH.nil
      refine step_append_r rfl (.tmp 18) (.tmp 21) 42 42 rfl ((HU.out.past TT2.out).past ((Turn.refl NoBlock w2).alloc _)) iM _ 56 msgsT HIM.out.1 HIM.out.2.1 HIM.out.2.2.1 HIM.out.2.2.2 (by rfl) (by rfl) (by rfl) (Rd.src (rd_new w2 49 3 #[.int .i64 m2.tx, .slice pd2 m2.d.length cd2, .slice ph2 m2.h.length ch2] rfl) 42 49 msgsT (fun u hu => by simp at hu; rcases hu with rfl | rfl | rfl <;> rfl)) F.out.1 F.out.2 ?_
      intro v' W1 z1 r1 t1 k1
      clear z1
      obtain ⟨p', c', rfl⟩ := r1.sl
      have hEu := blk_typed HU.out HB.out.2 (by decide)
      have g0 := t1.cell (((Turn.refl NoBlock w2).alloc _).cell e0 (fun h => h)) hEu
      have g1 := ((HB.out.2.kept (TT TT2.out ((Turn.refl NoBlock w2).alloc _)) (fun h => h)).kept t1 hEu).free 0
      have g2 := ((HB.out.2.kept (TT TT2.out ((Turn.refl NoBlock w2).alloc _)) (fun h => h)).kept t1 hEu).lt
      have R1 := Lib.hid r1
      have T1 := Lib.hid t1
      have K1 := Lib.hid k1
      clear r1 t1 k1
      try go_simp
      refine hK' _ _ trivial (fun _ => ?_)
      clear hK' K'
      (try simp only [Act.put, List.setIfInBounds_toArray, List.set_cons_zero, List.set_cons_succ])
      refine wpAnyH_ready (rs := [5]) (by kernel_rfl) (by simp) ?_
      refine AllReadyH.cons rfl (fun K' hK' => ?_) AllReadyH.nil
      go_simp
      refine hK' _ _ trivial (fun _ => ?_)
      clear hK' K'
      (try simp only [Act.put, List.setIfInBounds_toArray, List.set_cons_zero, List.set_cons_succ])
      refine wpAnyH_done (by kernel_rfl) ?_ _
      gi_wp2
      have hEu := blk_typed HU.out HB.out.2 (by decide)
      have hEE := HE.out
      have hSS := HST.out
      have hXX := HX.out
      have hEl := HB.out.2.lt
      have TA := TT TT2.out ((Turn.refl NoBlock w2).alloc (.cells #[.int .i64 m2.tx, .slice pd2 m2.d.length cd2, .slice ph2 m2.h.length ch2] 49))
      have hTA := TA.size
      have tW : Turn (Blk (.slice pu n cu)) X W1 := (TU (F := Blk (.slice pu n cu)) TA).trans T1.out (fun k hk => .inl hk)
      have tall : Turn (fun k => k = E ∨ Blk (.slice pu n cu) k) X (W1.setCell ⟨E, 0, none⟩ (.slice p' (n + 1) c')) := (tW.mono (fun k hk => .inl (.inr hk))).setCell (p := ⟨E, 0, none⟩) (.inl (.inl rfl)) _
      have tyE := HB.out.2.kept tW hEu
      have tE : Turn (fun k => k = E) W1 (W1.setCell ⟨E, 0, none⟩ (.slice p' (n + 1) c')) := (Turn.refl (fun k => k = E) W1).setCell (p := ⟨E, 0, none⟩) (.inl rfl) _
      have huw : WRow w2 49 3 (.slice pu n cu) n (qcells L) := HU.out.past TT2.out
      have tw : Turn (Blk (.slice pu n cu)) w2 W1 := (TU (F := Blk (.slice pu n cu)) ((Turn.refl NoBlock w2).alloc _)).trans T1.out (fun k hk => .inl hk)
      refine ⟨KeepsAll.of_turn tall (fun k hk => ?_), ⟨.slice p' (n + 1) c', ?_, L ++ [⟨m2, .slice pd2 m2.d.length cd2, .slice ph2 m2.h.length ch2⟩], ?_, ?_, ?_, ?_⟩, HQ.out.kept tall (fun k hk hh => ?_), HT.out.trans tall (fun k hk => .inr ?_)⟩
      · rcases hk with rfl | hk
        · left; omega
        · exact .inr (.inr ⟨49, HU.out.typed hk, by decide, by decide⟩)
      · exact set_at (tW.heap (show X.heap[E]? = some (.cells #[_] 42 (0, 0)) from HB.out.1) hEu) 0 _
      · rw [List.length_append, HKK.out.2.2.2, qcells_app]
        exact WRow.setC R1.out tyE (by decide)
      · rw [List.map_append, List.map_append, HKK.out.2.1, show m2 = q.m from OK2.out.1]
        rfl
      · intro q' h'
        rcases List.mem_append.1 h' with h5 | h5
        · have ok' := HKK.out.2.2.1 q' h5
          refine ok'.kept tall (fun k hk hh => ?_)
          rcases hh with rfl | hh
          · rcases hk with hk | hk
            · exact blk_typed ok'.d HB.out.2 (by decide) hk
            · exact blk_typed ok'.h HB.out.2 (by decide) hk
          · rcases hk with hk | hk
            · exact blks_typed ok'.d HU.out (by decide) k hk hh
            · exact blks_typed ok'.h HU.out (by decide) k hk hh
        · simp at h5
          subst h5
          have ok' := OK2.out.2.1
          have ok1 := ok'.kept tw (fun k hk hh => by
            rcases hk with hk | hk
            · exact blks_typed ok'.d huw (by decide) k hk hh
            · exact blks_typed ok'.h huw (by decide) k hk hh)
          refine ok1.kept tE (fun k hk e1 => ?_)
          subst e1
          rcases hk with hk | hk
          · exact blk_typed ok1.d tyE (by decide) hk
          · exact blk_typed ok1.h tyE (by decide) hk
      · intro k hk
        rcases hk with hk | ⟨q', h', hk⟩
        · rcases K1.out k hk with h6 | h6
          · exact HKK.out.1 k (.inl h6)
          · have := h6.1; omega
        · rcases List.mem_append.1 h' with h5 | h5
          · exact HKK.out.1 k (.inr ⟨q', h5, hk⟩)
          · simp at h5
            subst h5
            have h8 := OK2.out.2.2.1 k hk
            have h9 : X.drew.heap.size = X.heap.size := rfl
            omega
      · rcases hh with rfl | hh
        · have h7 := HQ0.out
          rcases hk with hk | hk | hk
          · omega
          · subst hk
            exact (HQ.out.at'.typ.unlike HB.out.2 (by decide)) rfl
          · have := H.out.lt (.inr hk); omega
        · have h8 := HKK.out.1 k (.inl hh)
          rcases hk with rfl | hk
          · exact (TBlk.unlike (show TBlk X (E + 1) 111 from ⟨_, HQ.out.box⟩) (HU.out.typed hh) (by decide)) rfl
          · have := H.out.lt hk; omega
      · rcases hk with rfl | hk
        · omega
        · have := HKK.out.1 k (.inl hk); omega
    refine AllReadyH.cons rfl (fun K' hK' => ?_) AllReadyH.nil
    go_simp
    refine hK' _ _ trivial (fun _ => ?_)
    clear hK' K'
    (try simp only [Act.put, List.setIfInBounds_toArray, List.set_cons_zero, List.set_cons_succ])
    refine wpAnyH_ready (rs := [0]) (by kernel_rfl) (by simp) ?_
    refine AllReadyH.cons rfl (fun K' hK' => ?_) AllReadyH.nil
    go_simp
    refine hK' _ _ trivial (fun _ => ?_)
    clear hK' K'
    (try simp only [Act.put, List.setIfInBounds_toArray, List.set_cons_zero, List.set_cons_succ])
    refine wpAnyH_ready (rs := [4]) (by kernel_rfl) (by simp) ?_
    refine AllReadyH.cons rfl (fun K' hK' => ?_) AllReadyH.nil
    refine step_append_r rfl (.tmp 18) (.tmp 21) 42 42 rfl ((HU.out.past TT2.out).past ((Turn.refl NoBlock w2).alloc _)) iM _ 56 msgsT HIM.out.1 HIM.out.2.1 HIM.out.2.2.1 HIM.out.2.2.2 (by rfl) (by rfl) (by rfl) (Rd.src (rd_new w2 49 3 #[.int .i64 m2.tx, .slice pd2 m2.d.length cd2, .slice ph2 m2.h.length ch2] rfl) 42 49 msgsT (fun u hu => by simp at hu; rcases hu with rfl | rfl | rfl <;> rfl)) F.out.1 F.out.2 ?_
    intro v' W1 z1 r1 t1 k1
    clear z1
    obtain ⟨p', c', rfl⟩ := r1.sl
    have hEu := blk_typed HU.out HB.out.2 (by decide)
    have g0 := t1.cell (((Turn.refl NoBlock w2).alloc _).cell e0 (fun h => h)) hEu
    have g1 := ((HB.out.2.kept (TT TT2.out ((Turn.refl NoBlock w2).alloc _)) (fun h => h)).kept t1 hEu).free 0
    have g2 := ((HB.out.2.kept (TT TT2.out ((Turn.refl NoBlock w2).alloc _)) (fun h => h)).kept t1 hEu).lt
    have R1 := Lib.hid r1
    have T1 := Lib.hid t1
    have K1 := Lib.hid k1
    clear r1 t1 k1
    try go_simp
    refine hK' _ _ trivial (fun _ => ?_)
    clear hK' K'
    (try simp only [Act.put, List.setIfInBounds_toArray, List.set_cons_zero, List.set_cons_succ])
    refine wpAnyH_ready (rs := [5]) (by kernel_rfl) (by simp) ?_
    refine AllReadyH.cons rfl (fun K' hK' => ?_) AllReadyH.nil
    go_simp
    refine hK' _ _ trivial (fun _ => ?_)
    clear hK' K'
    (try simp only [Act.put, List.setIfInBounds_toArray, List.set_cons_zero, List.set_cons_succ])
    refine wpAnyH_done (by kernel_rfl) ?_ _
    gi_wp2
    have hEu := blk_typed HU.out HB.out.2 (by decide)
    have hEE := HE.out
    have hSS := HST.out
    have hXX := HX.out
    have hEl := HB.out.2.lt
    have TA := TT TT2.out ((Turn.refl NoBlock w2).alloc (.cells #[.int .i64 m2.tx, .slice pd2 m2.d.length cd2, .slice ph2 m2.h.length ch2] 49))
    have hTA := TA.size
    have tW : Turn (Blk (.slice pu n cu)) X W1 := (TU (F := Blk (.slice pu n cu)) TA).trans T1.out (fun k hk => .inl hk)
    have tall : Turn (fun k => k = E ∨ Blk (.slice pu n cu) k) X (W1.setCell ⟨E, 0, none⟩ (.slice p' (n + 1) c')) := (tW.mono (fun k hk => .inl (.inr hk))).setCell (p := ⟨E, 0, none⟩) (.inl (.inl rfl)) _
    have tyE := HB.out.2.kept tW hEu
    have tE : Turn (fun k => k = E) W1 (W1.setCell ⟨E, 0, none⟩ (.slice p' (n + 1) c')) := (Turn.refl (fun k => k = E) W1).setCell (p := ⟨E, 0, none⟩) (.inl rfl) _
    have huw : WRow w2 49 3 (.slice pu n cu) n (qcells L) := HU.out.past TT2.out
    have tw : Turn (Blk (.slice pu n cu)) w2 W1 := (TU (F := Blk (.slice pu n cu)) ((Turn.refl NoBlock w2).alloc _)).trans T1.out (fun k hk => .inl hk)
    refine ⟨KeepsAll.of_turn tall (fun k hk => ?_), ⟨.slice p' (n + 1) c', ?_, L ++ [⟨m2, .slice pd2 m2.d.length cd2, .slice ph2 m2.h.length ch2⟩], ?_, ?_, ?_, ?_⟩, HQ.out.kept tall (fun k hk hh => ?_), HT.out.trans tall (fun k hk => .inr ?_)⟩
    · rcases hk with rfl | hk
      · left; omega
      · exact .inr (.inr ⟨49, HU.out.typed hk, by decide, by decide⟩)
    · exact set_at (tW.heap (show X.heap[E]? = some (.cells #[_] 42 (0, 0)) from HB.out.1) hEu) 0 _
    · rw [List.length_append, HKK.out.2.2.2, qcells_app]
      exact WRow.setC R1.out tyE (by decide)
    · rw [List.map_append, List.map_append, HKK.out.2.1, show m2 = q.m from OK2.out.1]
      rfl
    · intro q' h'
      rcases List.mem_append.1 h' with h5 | h5
      · have ok' := HKK.out.2.2.1 q' h5
        refine ok'.kept tall (fun k hk hh => ?_)
        rcases hh with rfl | hh
        · rcases hk with hk | hk
          · exact blk_typed ok'.d HB.out.2 (by decide) hk
          · exact blk_typed ok'.h HB.out.2 (by decide) hk
        · rcases hk with hk | hk
          · exact blks_typed ok'.d HU.out (by decide) k hk hh
          · exact blks_typed ok'.h HU.out (by decide) k hk hh
      · simp at h5
        subst h5
        have ok' := OK2.out.2.1
        have ok1 := ok'.kept tw (fun k hk hh => by
          rcases hk with hk | hk
          · exact blks_typed ok'.d huw (by decide) k hk hh
          · exact blks_typed ok'.h huw (by decide) k hk hh)
        refine ok1.kept tE (fun k hk e1 => ?_)
        subst e1
        rcases hk with hk | hk
        · exact blk_typed ok1.d tyE (by decide) hk
        · exact blk_typed ok1.h tyE (by decide) hk
    · intro k hk
      rcases hk with hk | ⟨q', h', hk⟩
      · rcases K1.out k hk with h6 | h6
        · exact HKK.out.1 k (.inl h6)
        · have := h6.1; omega
      · rcases List.mem_append.1 h' with h5 | h5
        · exact HKK.out.1 k (.inr ⟨q', h5, hk⟩)
        · simp at h5
          subst h5
          have h8 := OK2.out.2.2.1 k hk
          have h9 : X.drew.heap.size = X.heap.size := rfl
          omega
    · rcases hh with rfl | hh
      · have h7 := HQ0.out
        rcases hk with hk | hk | hk
        · omega
        · subst hk
          exact (HQ.out.at'.typ.unlike HB.out.2 (by decide)) rfl
        · have := H.out.lt (.inr hk); omega
      · have h8 := HKK.out.1 k (.inl hh)
        rcases hk with rfl | hk
        · exact (TBlk.unlike (show TBlk X (E + 1) 111 from ⟨_, HQ.out.box⟩) (HU.out.typed hh) (by decide)) rfl
        · have := H.out.lt hk; omega
    · rcases hk with rfl | hk
      · omega
      · have := HKK.out.1 k (.inl hk); omega
  case done =>
    rintro D xs X hD rfl ⟨⟨u, L, hb, hu, hm, hok, hk⟩, hq, ht⟩ hK
    have e0 := hb.cell
    have e1 := hb.lt
    obtain ⟨pu, cu, rfl⟩ := hu.sl
    have HK := Lib.hid hK
    have HI := Lib.hid (And.intro hu (And.intro hk (And.intro ht (And.intro hm hok))))
    have HD := Lib.hid (And.intro hD (And.intro hst hE))
    clear hu hk hq ht hm hok hK hD hE hst hQ0 hS0 hT bx0 bx1 hb
    gi_wp2
    have hDD := HD.out
    have tp := turn_putObj X D (.deferred none)
    refine ⟨by simp, .inl ⟨_, _, rfl, run_takeDeferred HK.out, ?_⟩⟩
    have gr := grownBy_putObj' X D (.deferred none)
    refine ⟨_, results_tmp rfl _ _ _, .slice pu L.length cu, rfl, L, WRow.nocell HI.out.1 gr (fun r e => by cases e; exact ⟨_, HK.out, rfl⟩), HI.out.2.2.2.1, fun q hq => ⟨WRow.nocell (HI.out.2.2.2.2 q hq).d gr (fun r e => by cases e; exact ⟨_, HK.out, rfl⟩), WRow.nocell (HI.out.2.2.2.2 q hq).h gr (fun r e => by cases e; exact ⟨_, HK.out, rfl⟩), (HI.out.2.2.2.2 q hq).fits⟩, fun k hk => by have := HI.out.2.1 k hk; omega, HI.out.2.2.1.trans tp (fun k hk => .inr (by omega))⟩
  case stop =>
    rintro D c' pre X - - h -
    exact h.elim
set_option maxRecDepth 100000 in
set_option maxHeartbeats 4000000 in
theorem cmessages1 {w : World} {c depth N : Nat} {S : Nat → Sd} {V : Nat → SV} (hC : CMem w c depth N S V) (hN : N ≤ 100000) (ho : (S 1).op = true) :
    Calls Try.prog 13 #[.pointer (some ⟨c, 0, none⟩), .int .i64 1] w fun e w' => ∃ u L, e = .returned u ∧ WRow w' 49 3 u L.length (qcells L) ∧ L.map (·.m) = (S 1).q.map (·.m) ∧ (∀ q ∈ L, q.Ok w') ∧ (∀ k, (Blk u k ∨ ∃ q ∈ L, q.F k) → w.heap.size ≤ k) ∧ Turn NoBlock w w' := by
  obtain ⟨iM, hiM, hzM, hsM, hbM⟩ := info_parts infoM
  have HIM := Lib.hid (And.intro hiM (And.intro hzM (And.intro hsM hbM)))
  have H := Lib.hid (show SAt w c 5 (S 1) (V 1) from hC.s 1 (by omega))
  have HR := Lib.hid (fun W (t : Turn NoBlock w W) => show Calls Try.prog 48 #[.pointer (some ⟨c, 0, none⟩), .int .i64 1] W _ from right_yes (hC.past t) (e := 1) (by omega) ho)
  have H1 := Lib.hid (show (S 1).an.length ≤ 1000000 ∧ (S 1).ot.length ≤ 1000000 by have := hC.len 1 (by omega); omega)
  generalize S 1 = s at *
  generalize V 1 = v at *
  clear hC ho hN hiM hzM hsM hbM
  refine (callsIn_wide (n := 6)).1 ?_
  refine callsIn_of_wp_marks (F := Fence.wide) Try.func13 rfl trivial ?_ rfl
  simp only [Try.ntmps13, List.size_toArray, List.length_cons, List.length_nil, Nat.reduceAdd, Nat.reduceSub, Array.replicate_succ, Array.replicate_zero, List.push_toArray, List.append_toArray, List.nil_append, List.cons_append]
  gi_wp2_with (first
    | (refine ⟨trivial, ?_⟩; gi_at_call 48; refine (callsIn_wide.2 (HR.out _ (Turn.refl _ _))).mono ?_; rintro e w' ⟨rfl, rfl⟩)
    | (refine ⟨trivial, ?_⟩; gi_at_call 49; refine (callsIn_wide.2 (queue_any _ _)).mono ?_; rintro e w' ⟨rfl, rfl⟩))
  obtain ⟨E, hE⟩ : ∃ E, w.heap.size = E := ⟨_, rfl⟩
  have hst : ((w.alloc (.cells #[.slice none 0 0] 42)).alloc (.cells #[.pointer (some ⟨c, 5, none⟩)] 111)).heap.size = E + 2 := by simp [hE]
  have bx0 := (Boxed.new w 42 (.slice none 0 0)).alloc (.cells #[.pointer (some ⟨c, 5, none⟩)] 111)
  have bx1 := Boxed.new (w.alloc (.cells #[.slice none 0 0] 42)) 111 (.pointer (some ⟨c, 5, none⟩))
  rw [World.size_alloc, hE] at bx1
  rw [hE] at bx0
  have hT : Turn NoBlock w ((w.alloc (.cells #[.slice none 0 0] 42)).alloc (.cells #[.pointer (some ⟨c, 5, none⟩)] 111)) := ((Turn.refl _ w).alloc _).alloc _
  have hS0 : SAt ((w.alloc (.cells #[.slice none 0 0] 42)).alloc (.cells #[.pointer (some ⟨c, 5, none⟩)] 111)) c 5 s v := H.out.past hT
  generalize ((w.alloc (.cells #[.slice none 0 0] 42)).alloc (.cells #[.pointer (some ⟨c, 5, none⟩)] 111)) = W0 at *
  rw [hE]
  have hQ0 : QSees (E + 1) c 5 s v W0 := ⟨bx1, hS0⟩
  refine range2 (gf := 72) (lb := #[.pointer (some ⟨E + 1, 0, none⟩)]) rfl (enters_of Try.func72 (by kernel_rfl) rfl)
    (queue_gives (E + 1) c 5 s v (by have := H1.out.1; omega) (by have := H1.out.2; omega)) (fun _ => rfl)
    (fun pre X => (∃ u L, Boxed X E 42 u ∧ WRow X 49 3 u L.length (qcells L) ∧ L.map (·.m) = pre.map (·.m) ∧ (∀ q ∈ L, q.Ok X) ∧ ∀ k, (Blk u k ∨ ∃ q ∈ L, q.F k) → E ≤ k) ∧ QSees (E + 1) c 5 s v X ∧ Turn NoBlock w X)
    (fun _ _ _ => False) ?hI (fun _ _ _ _ _ hs _ _ => hs) (fun _ _ h => h.2.1) ⟨⟨_, [], bx0, wrow_nil _ _ _, rfl, (fun q hq => by cases hq), fun k hk => hk.elim (fun h => (blk_nil k h).elim) (fun ⟨q, hq, _⟩ => by cases hq)⟩, hQ0, hT⟩
    (fun x a' X => ∃ Bx, X.heap[Bx]? = some (.cells #[.int .i64 x.m.tx, x.vd, x.vh] 49 (0, 0)) ∧ a' = { tmps := #[.pointer (some ⟨c, 0, none⟩), .int .i64 1, undef, undef, .slice none 0 0, .pointer (some ⟨E, 0, none⟩), .pointer (some ⟨Bx, 0, none⟩), .pointer (some ⟨c, 0, none⟩), .int .i64 1, .int .i64 0, .bool false, .pointer (some ⟨c, 0, none⟩), .int .i64 1, .pointer (some ⟨c, 0, none⟩), .pointer (some ⟨c, 1, none⟩), .pointer (some ⟨c, 5, none⟩), .func (.func 72) #[] #[.pointer (some ⟨E + 1, 0, none⟩)], x.agg, undef, undef, undef, undef, undef, undef], defers := [] } ∧ Shown x) ?hAx ?assign ?body ?done ?stop
  case hI =>
    rintro pre X Y row ⟨⟨u, L, hb, hu, hm, hok, hk⟩, hq, ht⟩ hg hr
    exact ⟨⟨u, L, boxed_nocell hb hg (fun r e => (hr r e).2), WRow.nocell hu hg (fun r e => (hr r e).2), hm, fun q hq2 => ⟨WRow.nocell (hok q hq2).d hg (fun r e => (hr r e).2), WRow.nocell (hok q hq2).h hg (fun r e => (hr r e).2), (hok q hq2).fits⟩, hk⟩, hq.grown hQ0 hg (fun r e => (hr r e).1), ht.grown hg (fun r e => .inr (by have := (hr r e).1; omega))⟩
  case hAx =>
    rintro x a' - X Y row ⟨Bx, hb, rfl, hsh⟩ hg hr
    exact ⟨Bx, heap_nocell hb hg (fun r e => (hr r e).2), rfl, hsh⟩
  case assign =>
    rintro l pre q X K ⟨⟨u, L, hb, hu, hm, hok, hk⟩, hq, ht⟩ ⟨hmem, hlen⟩ hX hK
    have hsh := (hq.at'.ok q hmem).shown
    obtain ⟨⟨p1, c1, hvd⟩, p2, c2, hvh⟩ := hsh
    have HK := Lib.hid hK
    have HI := Lib.hid (And.intro hb (And.intro hu (And.intro hq ht)))
    have HKK := Lib.hid (And.intro hk (And.intro hm hok))
    have HD := Lib.hid (And.intro hvd hvh)
    unfold QM.agg
    rw [hvd, hvh]
    clear hb hu hk hm hok hq ht hmem hlen hX hK hvd hvh hE hst hQ0 hS0 hT bx0 bx1
    gi_wp2
    have ta : Turn NoBlock X (X.alloc (.cells #[.int .i64 q.m.tx, .slice p1 q.m.d.length c1, .slice p2 q.m.h.length c2] 49)) := (Turn.refl _ X).alloc _
    refine HK.out _ _ (KeepsAll.of_turn ta (fun _ h => h.elim)) ⟨⟨u, L, HI.out.1.alloc _, HI.out.2.1.past ta, HKK.out.2.1, fun q2 h2 => (HKK.out.2.2 q2 h2).kept ta (fun _ _ h => h), HKK.out.1⟩, HI.out.2.2.1.kept ta (fun _ _ h => h), TT HI.out.2.2.2 ta⟩ ⟨X.heap.size, ?_, ?_, ⟨p1, c1, HD.out.1⟩, p2, c2, HD.out.2⟩
    · rw [heap_alloc_new, HD.out.1, HD.out.2]
    · unfold QM.agg; rw [HD.out.1, HD.out.2]
  case body =>
    rintro l pre q a' X hX ⟨⟨u, L, hb, hu, hm, hok, hk⟩, hq, ht⟩ ⟨Bx, hbx, rfl, hsh⟩ ⟨hmem, hlen⟩
    obtain ⟨⟨p1, c1, hvd⟩, p2, c2, hvh⟩ := hsh
    have hqok := hq.at'.ok q hmem
    have CC := Lib.hid (fun W (t : Turn NoBlock X W) => copied_any W q.m q.vd q.vh (Byts.rd (hqok.d.past t)) (Nums.rd (hqok.h.past t)) hqok.fits)
    obtain ⟨pu, cu, rfl⟩ := hu.sl
    have hub := H1.out
    have hll : L.length = pre.length := by have := congrArg List.length hm; simpa using this
    have f1 : L.length + 1 ≤ maxLen := by unfold maxLen; omega
    have f2 : (L.length + 1) * 56 ≤ 140737488355328 := by omega
    have hty : TBlk X E 42 := ⟨_, hb⟩
    have e0 := hb.cell
    have elt := hb.lt
    rw [hvd, hvh] at hbx CC
    unfold QM.agg
    rw [hvd, hvh]
    obtain ⟨x0, x1, x2⟩ := box3 hbx
    have bxl := lt_of_block hbx
    obtain ⟨n, hn⟩ : ∃ n, L.length = n := ⟨_, rfl⟩
    rw [hn] at hu e0 f1 f2 hk hb
    have F := Lib.hid (And.intro f1 f2)
    have HU := Lib.hid hu
    have HB := Lib.hid (And.intro hb hty)
    have HQ := Lib.hid hq
    have HT := Lib.hid ht
    have HE := Lib.hid hE
    have HST := Lib.hid hst
    have HKK := Lib.hid (And.intro hk (And.intro hm (And.intro hok hn)))
    have HQ0 := Lib.hid hQ0
    have HX := Lib.hid hX
    clear hb hu hk hm hok hn hll hq ht hbx hvd hvh hqok hub f1 f2 hty hE hst hQ0 hS0 hT bx0 bx1 hX hmem hlen
    gi_wp2
    refine round_held (S := fun _ => True) (by kernel_rfl) (by kernel_rfl) (fun ⟨a, w, h⟩ => h) trivial (fun _ => ?_)
    refine wpAnyH_ready (rs := [0, 1]) (by kernel_rfl) (by simp) ?_
    refine AllReadyH.cons rfl (fun K' hK' => ?_) ?_
    · go_simp
      refine hK' _ _ trivial (fun _ => ?_)
      clear hK' K'
      (try simp only [Act.put, List.setIfInBounds_toArray, List.set_cons_zero, List.set_cons_succ])
      refine wpAnyH_ready (rs := [1]) (by kernel_rfl) (by simp) ?_
      refine AllReadyH.cons rfl (fun K' hK' => ?_) AllReadyH.nil
      go_simp
      refine hK' _ _ trivial (fun _ => ?_)
      clear hK' K'
      (try simp only [Act.put, List.setIfInBounds_toArray, List.set_cons_zero, List.set_cons_succ])
      refine wpAnyH_ready (rs := [2]) (by kernel_rfl) (by simp) ?_
      refine AllReadyH.cons rfl (fun K' hK' => ?_) AllReadyH.nil
      go_simp
      (go_at_call 50; (with_reducible refine (CC.out _ ((Turn.refl NoBlock X).drew)).mono ?_); rintro y w2 ⟨q2, hq2, rfl, ok2, fr2, t2⟩)
      have OK2 := Lib.hid (And.intro hq2 (And.intro ok2 (And.intro fr2 t2)))
      have TT2 := Lib.hid (TT ((Turn.refl NoBlock X).drew) t2)
      have e0 := TT2.out.cell e0 (fun h => h)
      have elt := Nat.lt_of_lt_of_le elt TT2.out.size
      obtain ⟨pd2, cd2, hvd2⟩ := ok2.d.sl
      obtain ⟨ph2, ch2, hvh2⟩ := ok2.h.sl
      obtain ⟨m2, vd2, vh2⟩ := q2
      simp only [QM.agg] at hvd2 hvh2 ⊢
      subst hvd2 hvh2
      clear hq2 ok2 fr2 t2
      go_simp
      refine hK' _ _ trivial (fun _ => ?_)
      clear hK' K'
      (try simp only [Act.put, List.setIfInBounds_toArray, List.set_cons_zero, List.set_cons_succ])
      refine wpAnyH_ready (rs := [3]) (by kernel_rfl) (by simp) ?_
      refine AllReadyH.cons rfl (fun K' hK' => ?_) AllReadyH.nil
      go_simp
      refine hK' _ _ trivial (fun _ => ?_)
      clear hK' K'
      (try simp only [Act.put, List.setIfInBounds_toArray, List.set_cons_zero, List.set_cons_succ])
      refine wpAnyH_ready (rs := [4]) (by kernel_rfl) (by simp) ?_
      refine AllReadyH.cons rfl (fun K' hK' => ?_) AllReadyH.nil
      refine step_append_r rfl (.tmp 18) (.tmp 21) 42 42 rfl ((HU.out.past TT2.out).past ((Turn.refl NoBlock w2).alloc _)) iM _ 56 msgsT HIM.out.1 HIM.out.2.1 HIM.out.2.2.1 HIM.out.2.2.2 (by rfl) (by rfl) (by rfl) (Rd.src (rd_new w2 49 3 #[.int .i64 m2.tx, .slice pd2 m2.d.length cd2, .slice ph2 m2.h.length ch2] rfl) 42 49 msgsT (fun u hu => by simp at hu; rcases hu with rfl | rfl | rfl <;> rfl)) F.out.1 F.out.2 ?_
      intro v' W1 z1 r1 t1 k1
      clear z1
      obtain ⟨p', c', rfl⟩ := r1.sl
      have hEu := blk_typed HU.out HB.out.2 (by decide)
      have g0 := t1.cell (((Turn.refl NoBlock w2).alloc _).cell e0 (fun h => h)) hEu
      have g1 := ((HB.out.2.kept (TT TT2.out ((Turn.refl NoBlock w2).alloc _)) (fun h => h)).kept t1 hEu).free 0
      have g2 := ((HB.out.2.kept (TT TT2.out ((Turn.refl NoBlock w2).alloc _)) (fun h => h)).kept t1 hEu).lt
      have R1 := Lib.hid r1
      have T1 := Lib.hid t1
      have K1 := Lib.hid k1
      clear r1 t1 k1
      try go_simp
      refine hK' _ _ trivial (fun _ => ?_)
      clear hK' K'
      (try simp only [Act.put, List.setIfInBounds_toArray, List.set_cons_zero, List.set_cons_succ])
      refine wpAnyH_ready (rs := [5]) (by kernel_rfl) (by simp) ?_
      refine AllReadyH.cons rfl (fun K' hK' => ?_) AllReadyH.nil
      go_simp
      refine hK' _ _ trivial (fun _ => ?_)
      clear hK' K'
      (try simp only [Act.put, List.setIfInBounds_toArray, List.set_cons_zero, List.set_cons_succ])
      refine wpAnyH_done (by kernel_rfl) ?_ _
      gi_wp2
      have hEu := blk_typed HU.out HB.out.2 (by decide)
      have hEE := HE.out
      have hSS := HST.out
      have hXX := HX.out
      have hEl := HB.out.2.lt
      have TA := TT TT2.out ((Turn.refl NoBlock w2).alloc (.cells #[.int .i64 m2.tx, .slice pd2 m2.d.length cd2, .slice ph2 m2.h.length ch2] 49))
      have hTA := TA.size
      have tW : Turn (Blk (.slice pu n cu)) X W1 := (TU (F := Blk (.slice pu n cu)) TA).trans T1.out (fun k hk => .inl hk)
      have tall : Turn (fun k => k = E ∨ Blk (.slice pu n cu) k) X (W1.setCell ⟨E, 0, none⟩ (.slice p' (n + 1) c')) := (tW.mono (fun k hk => .inl (.inr hk))).setCell (p := ⟨E, 0, none⟩) (.inl (.inl rfl)) _
      have tyE := HB.out.2.kept tW hEu
      have tE : Turn (fun k => k = E) W1 (W1.setCell ⟨E, 0, none⟩ (.slice p' (n + 1) c')) := (Turn.refl (fun k => k = E) W1).setCell (p := ⟨E, 0, none⟩) (.inl rfl) _
      have huw : WRow w2 49 3 (.slice pu n cu) n (qcells L) := HU.out.past TT2.out
      have tw : Turn (Blk (.slice pu n cu)) w2 W1 := (TU (F := Blk (.slice pu n cu)) ((Turn.refl NoBlock w2).alloc _)).trans T1.out (fun k hk => .inl hk)
      refine ⟨KeepsAll.of_turn tall (fun k hk => ?_), ⟨.slice p' (n + 1) c', ?_, L ++ [⟨m2, .slice pd2 m2.d.length cd2, .slice ph2 m2.h.length ch2⟩], ?_, ?_, ?_, ?_⟩, HQ.out.kept tall (fun k hk hh => ?_), HT.out.trans tall (fun k hk => .inr ?_)⟩
      · rcases hk with rfl | hk
        · left; omega
        · exact .inr (.inr ⟨49, HU.out.typed hk, by decide, by decide⟩)
      · exact set_at (tW.heap (show X.heap[E]? = some (.cells #[_] 42 (0, 0)) from HB.out.1) hEu) 0 _
      · rw [List.length_append, HKK.out.2.2.2, qcells_app]
        exact WRow.setC R1.out tyE (by decide)
      · rw [List.map_append, List.map_append, HKK.out.2.1, show m2 = q.m from OK2.out.1]
        rfl
      · intro q' h'
        rcases List.mem_append.1 h' with h5 | h5
        · have ok' := HKK.out.2.2.1 q' h5
          refine ok'.kept tall (fun k hk hh => ?_)
          rcases hh with rfl | hh
          · rcases hk with hk | hk
            · exact blk_typed ok'.d HB.out.2 (by decide) hk
            · exact blk_typed ok'.h HB.out.2 (by decide) hk
          · rcases hk with hk | hk
            · exact blks_typed ok'.d HU.out (by decide) k hk hh
            · exact blks_typed ok'.h HU.out (by decide) k hk hh
        · simp at h5
          subst h5
          have ok' := OK2.out.2.1
          have ok1 := ok'.kept tw (fun k hk hh => by
            rcases hk with hk | hk
            · exact blks_typed ok'.d huw (by decide) k hk hh
            · exact blks_typed ok'.h huw (by decide) k hk hh)
          refine ok1.kept tE (fun k hk e1 => ?_)
          subst e1
          rcases hk with hk | hk
          · exact blk_typed ok1.d tyE (by decide) hk
          · exact blk_typed ok1.h tyE (by decide) hk
      · intro k hk
        rcases hk with hk | ⟨q', h', hk⟩
        · rcases K1.out k hk with h6 | h6
          · exact HKK.out.1 k (.inl h6)
          · have := h6.1; omega
        · rcases List.mem_append.1 h' with h5 | h5
          · exact HKK.out.1 k (.inr ⟨q', h5, hk⟩)
          · simp at h5
            subst h5
            have h8 := OK2.out.2.2.1 k hk
            have h9 : X.drew.heap.size = X.heap.size := rfl
            omega
      · rcases hh with rfl | hh
        · have h7 := HQ0.out
          rcases hk with hk | hk | hk
          · omega
          · subst hk
            exact (HQ.out.at'.typ.unlike HB.out.2 (by decide)) rfl
          · have := H.out.lt (.inr hk); omega
        · have h8 := HKK.out.1 k (.inl hh)
          rcases hk with rfl | hk
          · exact (TBlk.unlike (show TBlk X (E + 1) 111 from ⟨_, HQ.out.box⟩) (HU.out.typed hh) (by decide)) rfl
          · have := H.out.lt hk; omega
      · rcases hk with rfl | hk
        · omega
        · have := HKK.out.1 k (.inl hk); omega
    refine AllReadyH.cons rfl (fun K' hK' => ?_) AllReadyH.nil
    go_simp
    refine hK' _ _ trivial (fun _ => ?_)
    clear hK' K'
    (try simp only [Act.put, List.setIfInBounds_toArray, List.set_cons_zero, List.set_cons_succ])
    refine wpAnyH_ready (rs := [0, 2]) (by kernel_rfl) (by simp) ?_
    refine AllReadyH.cons rfl (fun K' hK' => ?_) ?_
    · go_simp
      refine hK' _ _ trivial (fun _ => ?_)
      clear hK' K'
      (try simp only [Act.put, List.setIfInBounds_toArray, List.set_cons_zero, List.set_cons_succ])
      refine wpAnyH_ready (rs := [2]) (by kernel_rfl) (by simp) ?_
      refine AllReadyH.cons rfl (fun K' hK' => ?_) AllReadyH.nil
      go_simp
      (go_at_call 50; (with_reducible refine (CC.out _ ((Turn.refl NoBlock X).drew)).mono ?_); rintro y w2 ⟨q2, hq2, rfl, ok2, fr2, t2⟩)
      have OK2 := Lib.hid (And.intro hq2 (And.intro ok2 (And.intro fr2 t2)))
      have TT2 := Lib.hid (TT ((Turn.refl NoBlock X).drew) t2)
      have e0 := TT2.out.cell e0 (fun h => h)
      have elt := Nat.lt_of_lt_of_le elt TT2.out.size
      obtain ⟨pd2, cd2, hvd2⟩ := ok2.d.sl
      obtain ⟨ph2, ch2, hvh2⟩ := ok2.h.sl
      obtain ⟨m2, vd2, vh2⟩ := q2
      simp only [QM.agg] at hvd2 hvh2 ⊢
      subst hvd2 hvh2
      clear hq2 ok2 fr2 t2
      go_simp
      refine hK' _ _ trivial (fun _ => ?_)
      clear hK' K'
      (try simp only [Act.put, List.setIfInBounds_toArray, List.set_cons_zero, List.set_cons_succ])
      refine wpAnyH_ready (rs := [3]) (by kernel_rfl) (by simp) ?_
      refine AllReadyH.cons rfl (fun K' hK' => ?_) AllReadyH.nil
      go_simp
      refine hK' _ _ trivial (fun _ => ?_)
      clear hK' K'
      (try simp only [Act.put, List.setIfInBounds_toArray, List.set_cons_zero, List.set_cons_succ])
      refine wpAnyH_ready (rs := [4]) (by kernel_rfl) (by simp) ?_
      refine AllReadyH.cons rfl (fun K' hK' => ?_) AllReadyH.nil
      refine step_append_r rfl (.tmp 18) (.tmp 21) 42 42 rfl ((HU.out.past TT2.out).past ((Turn.refl NoBlock w2).alloc _)) iM _ 56 msgsT HIM.out.1 HIM.out.2.1 HIM.out.2.2.1 HIM.out.2.2.2 (by rfl) (by rfl) (by rfl) (Rd.src (rd_new w2 49 3 #[.int .i64 m2.tx, .slice pd2 m2.d.length cd2, .slice ph2 m2.h.length ch2] rfl) 42 49 msgsT (fun u hu => by simp at hu; rcases hu with rfl | rfl | rfl <;> rfl)) F.out.1 F.out.2 ?_
      intro v' W1 z1 r1 t1 k1
      clear z1
      obtain ⟨p', c', rfl⟩ := r1.sl
      have hEu := blk_typed HU.out HB.out.2 (by decide)
      have g0 := t1.cell (((Turn.refl NoBlock w2).alloc _).cell e0 (fun h => h)) hEu
      have g1 := ((HB.out.2.kept (TT TT2.out ((Turn.refl NoBlock w2).alloc _)) (fun h => h)).kept t1 hEu).free 0
      have g2 := ((HB.out.2.kept (TT TT2.out ((Turn.refl NoBlock w2).alloc _)) (fun h => h)).kept t1 hEu).lt
      have R1 := Lib.hid r1
      have T1 := Lib.hid t1
      have K1 := Lib.hid k1
      clear r1 t1 k1
      try go_simp
      refine hK' _ _ trivial (fun _ => ?_)
      clear hK' K'
      (try simp only [Act.put, List.setIfInBounds_toArray, List.set_cons_zero, List.set_cons_succ])
      refine wpAnyH_ready (rs := [5]) (by kernel_rfl) (by simp) ?_
      refine AllReadyH.cons rfl (fun K' hK' => ?_) AllReadyH.nil
      go_simp
      refine hK' _ _ trivial (fun _ => ?_)
      clear hK' K'
      (try simp only [Act.put, List.setIfInBounds_toArray, List.set_cons_zero, List.set_cons_succ])
      refine wpAnyH_done (by kernel_rfl) ?_ _
      gi_wp2
      have hEu := blk_typed HU.out HB.out.2 (by decide)
      have hEE := HE.out
      have hSS := HST.out
      have hXX := HX.out
      have hEl := HB.out.2.lt
      have TA := TT TT2.out ((Turn.refl NoBlock w2).alloc (.cells #[.int .i64 m2.tx, .slice pd2 m2.d.length cd2, .slice ph2 m2.h.length ch2] 49))
      have hTA := TA.size
      have tW : Turn (Blk (.slice pu n cu)) X W1 := (TU (F := Blk (.slice pu n cu)) TA).trans T1.out (fun k hk => .inl hk)
      have tall : Turn (fun k => k = E ∨ Blk (.slice pu n cu) k) X (W1.setCell ⟨E, 0, none⟩ (.slice p' (n + 1) c')) := (tW.mono (fun k hk => .inl (.inr hk))).setCell (p := ⟨E, 0, none⟩) (.inl (.inl rfl)) _
      have tyE := HB.out.2.kept tW hEu
      have tE : Turn (fun k => k = E) W1 (W1.setCell ⟨E, 0, none⟩ (.slice p' (n + 1) c')) := (Turn.refl (fun k => k = E) W1).setCell (p := ⟨E, 0, none⟩) (.inl rfl) _
      have huw : WRow w2 49 3 (.slice pu n cu) n (qcells L) := HU.out.past TT2.out
      have tw : Turn (Blk (.slice pu n cu)) w2 W1 := (TU (F := Blk (.slice pu n cu)) ((Turn.refl NoBlock w2).alloc _)).trans T1.out (fun k hk => .inl hk)
      refine ⟨KeepsAll.of_turn tall (fun k hk => ?_), ⟨.slice p' (n + 1) c', ?_, L ++ [⟨m2, .slice pd2 m2.d.length cd2, .slice ph2 m2.h.length ch2⟩], ?_, ?_, ?_, ?_⟩, HQ.out.kept tall (fun k hk hh => ?_), HT.out.trans tall (fun k hk => .inr ?_)⟩
      · rcases hk with rfl | hk
        · left; omega
        · exact .inr (.inr ⟨49, HU.out.typed hk, by decide, by decide⟩)
      · exact set_at (tW.heap (show X.heap[E]? = some (.cells #[_] 42 (0, 0)) from HB.out.1) hEu) 0 _
      · rw [List.length_append, HKK.out.2.2.2, qcells_app]
        exact WRow.setC R1.out tyE (by decide)
      · rw [List.map_append, List.map_append, HKK.out.2.1, show m2 = q.m from OK2.out.1]
        rfl
      · intro q' h'
        rcases List.mem_append.1 h' with h5 | h5
        · have ok' := HKK.out.2.2.1 q' h5
          refine ok'.kept tall (fun k hk hh => ?_)
          rcases hh with rfl | hh
          · rcases hk with hk | hk
            · exact blk_typed ok'.d HB.out.2 (by decide) hk
            · exact blk_typed ok'.h HB.out.2 (by decide) hk
          · rcases hk with hk | hk
            · exact blks_typed ok'.d HU.out (by decide) k hk hh
            · exact blks_typed ok'.h HU.out (by decide) k hk hh
        · simp at h5
          subst h5
          have ok' := OK2.out.2.1
          have ok1 := ok'.kept tw (fun k hk hh => by
            rcases hk with hk | hk
            · exact blks_typed ok'.d huw (by decide) k hk hh
            · exact blks_typed ok'.h huw (by decide) k hk hh)
          refine ok1.kept tE (fun k hk e1 => ?_)
          subst e1
          rcases hk with hk | hk
          · exact blk_typed ok1.d tyE (by decide) hk
          · exact blk_typed ok1.h tyE (by decide) hk
      · intro k hk
        rcases hk with hk | ⟨q', h', hk⟩
        · rcases K1.out k hk with h6 | h6
          · exact HKK.out.1 k (.inl h6)
          · have := h6.1; omega
        · rcases List.mem_append.1 h' with h5 | h5
          · exact HKK.out.1 k (.inr ⟨q', h5, hk⟩)
          · simp at h5
            subst h5
            have h8 := OK2.out.2.2.1 k hk
            have h9 : X.drew.heap.size = X.heap.size := rfl
            omega
      · rcases hh with rfl | hh
        · have h7 := HQ0.out
          rcases hk with hk | hk | hk
          · omega
          · subst hk
            exact (HQ.out.at'.typ.unlike HB.out.2 (by decide)) rfl
          · have := H.out.lt (.inr hk); omega
        · have h8 := HKK.out.1 k (.inl hh)
          rcases hk with rfl | hk
          · exact (TBlk.unlike (show TBlk X (E + 1) 111 from ⟨_, HQ.out.box⟩) (HU.out.typed hh) (by decide)) rfl
          · have := H.out.lt hk; omega
      · rcases hk with rfl | hk
        · omega
        · have := HKK.out.1 k (.inl hk); omega
    refine AllReadyH.cons rfl (fun K' hK' => ?_) AllReadyH.nil
    go_simp
    (go_at_call 50; (with_reducible refine (CC.out _ ((Turn.refl NoBlock X).drew)).mono ?_); rintro y w2 ⟨q2, hq2, rfl, ok2, fr2, t2⟩)
    have OK2 := Lib.hid (And.intro hq2 (And.intro ok2 (And.intro fr2 t2)))
    have TT2 := Lib.hid (TT ((Turn.refl NoBlock X).drew) t2)
    have e0 := TT2.out.cell e0 (fun h => h)
    have elt := Nat.lt_of_lt_of_le elt TT2.out.size
    obtain ⟨pd2, cd2, hvd2⟩ := ok2.d.sl
    obtain ⟨ph2, ch2, hvh2⟩ := ok2.h.sl
    obtain ⟨m2, vd2, vh2⟩ := q2
    simp only [QM.agg] at hvd2 hvh2 ⊢
    subst hvd2 hvh2
    clear hq2 ok2 fr2 t2
    go_simp
    refine hK' _ _ trivial (fun _ => ?_)
    clear hK' K'
    (try simp only [Act.put, List.setIfInBounds_toArray, List.set_cons_zero, List.set_cons_succ])
    refine wpAnyH_ready (rs := [0, 3]) (by kernel_rfl) (by simp) ?_
    refine AllReadyH.cons rfl (fun K' hK' => ?_) ?_
    · go_simp
      refine hK' _ _ trivial (fun _ => ?_)
      clear hK' K'
      (try simp only [Act.put, List.setIfInBounds_toArray, List.set_cons_zero, List.set_cons_succ])
      refine wpAnyH_ready (rs := [3]) (by kernel_rfl) (by simp) ?_
      refine AllReadyH.cons rfl (fun K' hK' => ?_) AllReadyH.nil
      go_simp
      refine hK' _ _ trivial (fun _ => ?_)
      clear hK' K'
      (try simp only [Act.put, List.setIfInBounds_toArray, List.set_cons_zero, List.set_cons_succ])
      refine wpAnyH_ready (rs := [4]) (by kernel_rfl) (by simp) ?_
      refine AllReadyH.cons rfl (fun K' hK' => ?_) AllReadyH.nil
      refine step_append_r rfl (.tmp 18) (.tmp 21) 42 42 rfl ((HU.out.past TT2.out).past ((Turn.refl NoBlock w2).alloc _)) iM _ 56 msgsT HIM.out.1 HIM.out.2.1 HIM.out.2.2.1 HIM.out.2.2.2 (by rfl) (by rfl) (by rfl) (Rd.src (rd_new w2 49 3 #[.int .i64 m2.tx, .slice pd2 m2.d.length cd2, .slice ph2 m2.h.length ch2] rfl) 42 49 msgsT (fun u hu => by simp at hu; rcases hu with rfl | rfl | rfl <;> rfl)) F.out.1 F.out.2 ?_
      intro v' W1 z1 r1 t1 k1
      clear z1
      obtain ⟨p', c', rfl⟩ := r1.sl
      have hEu := blk_typed HU.out HB.out.2 (by decide)
      have g0 := t1.cell (((Turn.refl NoBlock w2).alloc _).cell e0 (fun h => h)) hEu
      have g1 := ((HB.out.2.kept (TT TT2.out ((Turn.refl NoBlock w2).alloc _)) (fun h => h)).kept t1 hEu).free 0
      have g2 := ((HB.out.2.kept (TT TT2.out ((Turn.refl NoBlock w2).alloc _)) (fun h => h)).kept t1 hEu).lt
      have R1 := Lib.hid r1
      have T1 := Lib.hid t1
      have K1 := Lib.hid k1
      clear r1 t1 k1
      try go_simp
      refine hK' _ _ trivial (fun _ => ?_)
      clear hK' K'
      (try simp only [Act.put, List.setIfInBounds_toArray, List.set_cons_zero, List.set_cons_succ])
      refine wpAnyH_ready (rs := [5]) (by kernel_rfl) (by simp) ?_
      refine AllReadyH.cons rfl (fun K' hK' => ?_) AllReadyH.nil
      go_simp
      refine hK' _ _ trivial (fun _ => ?_)
      clear hK' K'
      (try simp only [Act.put, List.setIfInBounds_toArray, List.set_cons_zero, List.set_cons_succ])
      refine wpAnyH_done (by kernel_rfl) ?_ _
      gi_wp2
      have hEu := blk_typed HU.out HB.out.2 (by decide)
      have hEE := HE.out
      have hSS := HST.out
      have hXX := HX.out
      have hEl := HB.out.2.lt
      have TA := TT TT2.out ((Turn.refl NoBlock w2).alloc (.cells #[.int .i64 m2.tx, .slice pd2 m2.d.length cd2, .slice ph2 m2.h.length ch2] 49))
      have hTA := TA.size
      have tW : Turn (Blk (.slice pu n cu)) X W1 := (TU (F := Blk (.slice pu n cu)) TA).trans T1.out (fun k hk => .inl hk)
      have tall : Turn (fun k => k = E ∨ Blk (.slice pu n cu) k) X (W1.setCell ⟨E, 0, none⟩ (.slice p' (n + 1) c')) := (tW.mono (fun k hk => .inl (.inr hk))).setCell (p := ⟨E, 0, none⟩) (.inl (.inl rfl)) _
      have tyE := HB.out.2.kept tW hEu
      have tE : Turn (fun k => k = E) W1 (W1.setCell ⟨E, 0, none⟩ (.slice p' (n + 1) c')) := (Turn.refl (fun k => k = E) W1).setCell (p := ⟨E, 0, none⟩) (.inl rfl) _
      have huw : WRow w2 49 3 (.slice pu n cu) n (qcells L) := HU.out.past TT2.out
      have tw : Turn (Blk (.slice pu n cu)) w2 W1 := (TU (F := Blk (.slice pu n cu)) ((Turn.refl NoBlock w2).alloc _)).trans T1.out (fun k hk => .inl hk)
      refine ⟨KeepsAll.of_turn tall (fun k hk => ?_), ⟨.slice p' (n + 1) c', ?_, L ++ [⟨m2, .slice pd2 m2.d.length cd2, .slice ph2 m2.h.length ch2⟩], ?_, ?_, ?_, ?_⟩, HQ.out.kept tall (fun k hk hh => ?_), HT.out.trans tall (fun k hk => .inr ?_)⟩
      · rcases hk with rfl | hk
        · left; omega
        · exact .inr (.inr ⟨49, HU.out.typed hk, by decide, by decide⟩)
      · exact set_at (tW.heap (show X.heap[E]? = some (.cells #[_] 42 (0, 0)) from HB.out.1) hEu) 0 _
      · rw [List.length_append, HKK.out.2.2.2, qcells_app]
        exact WRow.setC R1.out tyE (by decide)
      · rw [List.map_append, List.map_append, HKK.out.2.1, show m2 = q.m from OK2.out.1]
        rfl
      · intro q' h'
        rcases List.mem_append.1 h' with h5 | h5
        · have ok' := HKK.out.2.2.1 q' h5
          refine ok'.kept tall (fun k hk hh => ?_)
          rcases hh with rfl | hh
          · rcases hk with hk | hk
            · exact blk_typed ok'.d HB.out.2 (by decide) hk
            · exact blk_typed ok'.h HB.out.2 (by decide) hk
          · rcases hk with hk | hk
            · exact blks_typed ok'.d HU.out (by decide) k hk hh
            · exact blks_typed ok'.h HU.out (by decide) k hk hh
        · simp at h5
          subst h5
          have ok' := OK2.out.2.1
          have ok1 := ok'.kept tw (fun k hk hh => by
            rcases hk with hk | hk
            · exact blks_typed ok'.d huw (by decide) k hk hh
            · exact blks_typed ok'.h huw (by decide) k hk hh)
          refine ok1.kept tE (fun k hk e1 => ?_)
          subst e1
          rcases hk with hk | hk
          · exact blk_typed ok1.d tyE (by decide) hk
          · exact blk_typed ok1.h tyE (by decide) hk
      · intro k hk
        rcases hk with hk | ⟨q', h', hk⟩
        · rcases K1.out k hk with h6 | h6
          · exact HKK.out.1 k (.inl h6)
          · have := h6.1; omega
        · rcases List.mem_append.1 h' with h5 | h5
          · exact HKK.out.1 k (.inr ⟨q', h5, hk⟩)
          · simp at h5
            subst h5
            have h8 := OK2.out.2.2.1 k hk
            have h9 : X.drew.heap.size = X.heap.size := rfl
            omega
      · rcases hh with rfl | hh
        · have h7 := HQ0.out
          rcases hk with hk | hk | hk
          · omega
          · subst hk
            exact (HQ.out.at'.typ.unlike HB.out.2 (by decide)) rfl
          · have := H.out.lt (.inr hk); omega
        · have h8 := HKK.out.1 k (.inl hh)
          rcases hk with rfl | hk
          · exact (TBlk.unlike (show TBlk X (E + 1) 111 from ⟨_, HQ.out.box⟩) (HU.out.typed hh) (by decide)) rfl
          · have := H.out.lt hk; omega
      · rcases hk with rfl | hk
        · omega
        · have := HKK.out.1 k (.inl hk); omega
    refine AllReadyH.cons rfl (fun K' hK' => ?_) AllReadyH.nil
    go_simp
    refine hK' _ _ trivial (fun _ => ?_)
    clear hK' K'
    (try simp only [Act.put, List.setIfInBounds_toArray, List.set_cons_zero, List.set_cons_succ])
    refine wpAnyH_ready (rs := [0]) (by kernel_rfl) (by simp) ?_
    refine AllReadyH.cons rfl (fun K' hK' => ?_) AllReadyH.nil
    go_simp
    refine hK' _ _ trivial (fun _ => ?_)
    clear hK' K'
    (try simp only [Act.put, List.setIfInBounds_toArray, List.set_cons_zero, List.set_cons_succ])
    refine wpAnyH_ready (rs := [4]) (by kernel_rfl) (by simp) ?_
    refine AllReadyH.cons rfl (fun K' hK' => ?_) AllReadyH.nil
    refine step_append_r rfl (.tmp 18) (.tmp 21) 42 42 rfl ((HU.out.past TT2.out).past ((Turn.refl NoBlock w2).alloc _)) iM _ 56 msgsT HIM.out.1 HIM.out.2.1 HIM.out.2.2.1 HIM.out.2.2.2 (by rfl) (by rfl) (by rfl) (Rd.src (rd_new w2 49 3 #[.int .i64 m2.tx, .slice pd2 m2.d.length cd2, .slice ph2 m2.h.length ch2] rfl) 42 49 msgsT (fun u hu => by simp at hu; rcases hu with rfl | rfl | rfl <;> rfl)) F.out.1 F.out.2 ?_
    intro v' W1 z1 r1 t1 k1
    clear z1
    obtain ⟨p', c', rfl⟩ := r1.sl
    have hEu := blk_typed HU.out HB.out.2 (by decide)
    have g0 := t1.cell (((Turn.refl NoBlock w2).alloc _).cell e0 (fun h => h)) hEu
    have g1 := ((HB.out.2.kept (TT TT2.out ((Turn.refl NoBlock w2).alloc _)) (fun h => h)).kept t1 hEu).free 0
    have g2 := ((HB.out.2.kept (TT TT2.out ((Turn.refl NoBlock w2).alloc _)) (fun h => h)).kept t1 hEu).lt
    have R1 := Lib.hid r1
    have T1 := Lib.hid t1
    have K1 := Lib.hid k1
    clear r1 t1 k1
    try go_simp
    refine hK' _ _ trivial (fun _ => ?_)
    clear hK' K'
    (try simp only [Act.put, List.setIfInBounds_toArray, List.set_cons_zero, List.set_cons_succ])
    refine wpAnyH_ready (rs := [5]) (by kernel_rfl) (by simp) ?_
    refine AllReadyH.cons rfl (fun K' hK' => ?_) AllReadyH.nil
    go_simp
    refine hK' _ _ trivial (fun _ => ?_)
    clear hK' K'
    (try simp only [Act.put, List.setIfInBounds_toArray, List.set_cons_zero, List.set_cons_succ])
    refine wpAnyH_done (by kernel_rfl) ?_ _
    gi_wp2
    have hEu := blk_typed HU.out HB.out.2 (by decide)
    have hEE := HE.out
    have hSS := HST.out
    have hXX := HX.out
    have hEl := HB.out.2.lt
    have TA := TT TT2.out ((Turn.refl NoBlock w2).alloc (.cells #[.int .i64 m2.tx, .slice pd2 m2.d.length cd2, .slice ph2 m2.h.length ch2] 49))
    have hTA := TA.size
    have tW : Turn (Blk (.slice pu n cu)) X W1 := (TU (F := Blk (.slice pu n cu)) TA).trans T1.out (fun k hk => .inl hk)
    have tall : Turn (fun k => k = E ∨ Blk (.slice pu n cu) k) X (W1.setCell ⟨E, 0, none⟩ (.slice p' (n + 1) c')) := (tW.mono (fun k hk => .inl (.inr hk))).setCell (p := ⟨E, 0, none⟩) (.inl (.inl rfl)) _
    have tyE := HB.out.2.kept tW hEu
    have tE : Turn (fun k => k = E) W1 (W1.setCell ⟨E, 0, none⟩ (.slice p' (n + 1) c')) := (Turn.refl (fun k => k = E) W1).setCell (p := ⟨E, 0, none⟩) (.inl rfl) _
    have huw : WRow w2 49 3 (.slice pu n cu) n (qcells L) := HU.out.past TT2.out
    have tw : Turn (Blk (.slice pu n cu)) w2 W1 := (TU (F := Blk (.slice pu n cu)) ((Turn.refl NoBlock w2).alloc _)).trans T1.out (fun k hk => .inl hk)
    refine ⟨KeepsAll.of_turn tall (fun k hk => ?_), ⟨.slice p' (n + 1) c', ?_, L ++ [⟨m2, .slice pd2 m2.d.length cd2, .slice ph2 m2.h.length ch2⟩], ?_, ?_, ?_, ?_⟩, HQ.out.kept tall (fun k hk hh => ?_), HT.out.trans tall (fun k hk => .inr ?_)⟩
    · rcases hk with rfl | hk
      · left; omega
      · exact .inr (.inr ⟨49, HU.out.typed hk, by decide, by decide⟩)
    · exact set_at (tW.heap (show X.heap[E]? = some (.cells #[_] 42 (0, 0)) from HB.out.1) hEu) 0 _
    · rw [List.length_append, HKK.out.2.2.2, qcells_app]
      exact WRow.setC R1.out tyE (by decide)
    · rw [List.map_append, List.map_append, HKK.out.2.1, show m2 = q.m from OK2.out.1]
      rfl
    · intro q' h'
      rcases List.mem_append.1 h' with h5 | h5
      · have ok' := HKK.out.2.2.1 q' h5
        refine ok'.kept tall (fun k hk hh => ?_)
        rcases hh with rfl | hh
        · rcases hk with hk | hk
          · exact blk_typed ok'.d HB.out.2 (by decide) hk
          · exact blk_typed ok'.h HB.out.2 (by decide) hk
        · rcases hk with hk | hk
          · exact blks_typed ok'.d HU.out (by decide) k hk hh
          · exact blks_typed ok'.h HU.out (by decide) k hk hh
      · simp at h5
        subst h5
        have ok' := OK2.out.2.1
        have ok1 := ok'.kept tw (fun k hk hh => by
          rcases hk with hk | hk
          · exact blks_typed ok'.d huw (by decide) k hk hh
          · exact blks_typed ok'.h huw (by decide) k hk hh)
        refine ok1.kept tE (fun k hk e1 => ?_)
        subst e1
        rcases hk with hk | hk
        · exact blk_typed ok1.d tyE (by decide) hk
        · exact blk_typed ok1.h tyE (by decide) hk
    · intro k hk
      rcases hk with hk | ⟨q', h', hk⟩
      · rcases K1.out k hk with h6 | h6
        · exact HKK.out.1 k (.inl h6)
        · have := h6.1; omega
      · rcases List.mem_append.1 h' with h5 | h5
        · exact HKK.out.1 k (.inr ⟨q', h5, hk⟩)
        · simp at h5
          subst h5
          have h8 := OK2.out.2.2.1 k hk
          have h9 : X.drew.heap.size = X.heap.size := rfl
          omega
    · rcases hh with rfl | hh
      · have h7 := HQ0.out
        rcases hk with hk | hk | hk
        · omega
        · subst hk
          exact (HQ.out.at'.typ.unlike HB.out.2 (by decide)) rfl
        · have := H.out.lt (.inr hk); omega
      · have h8 := HKK.out.1 k (.inl hh)
        rcases hk with rfl | hk
        · exact (TBlk.unlike (show TBlk X (E + 1) 111 from ⟨_, HQ.out.box⟩) (HU.out.typed hh) (by decide)) rfl
        · have := H.out.lt hk; omega
    · rcases hk with rfl | hk
      · omega
      · have := HKK.out.1 k (.inl hk); omega
  case done =>
    rintro D xs X hD rfl ⟨⟨u, L, hb, hu, hm, hok, hk⟩, hq, ht⟩ hK
    have e0 := hb.cell
    have e1 := hb.lt
    obtain ⟨pu, cu, rfl⟩ := hu.sl
    have HK := Lib.hid hK
    have HI := Lib.hid (And.intro hu (And.intro hk (And.intro ht (And.intro hm hok))))
    have HD := Lib.hid (And.intro hD (And.intro hst hE))
    clear hu hk hq ht hm hok hK hD hE hst hQ0 hS0 hT bx0 bx1 hb
    gi_wp2
    have hDD := HD.out
    have tp := turn_putObj X D (.deferred none)
    refine ⟨by simp, .inl ⟨_, _, rfl, run_takeDeferred HK.out, ?_⟩⟩
    have gr := grownBy_putObj' X D (.deferred none)
    refine ⟨_, results_tmp rfl _ _ _, .slice pu L.length cu, rfl, L, WRow.nocell HI.out.1 gr (fun r e => by cases e; exact ⟨_, HK.out, rfl⟩), HI.out.2.2.2.1, fun q hq => ⟨WRow.nocell (HI.out.2.2.2.2 q hq).d gr (fun r e => by cases e; exact ⟨_, HK.out, rfl⟩), WRow.nocell (HI.out.2.2.2.2 q hq).h gr (fun r e => by cases e; exact ⟨_, HK.out, rfl⟩), (HI.out.2.2.2.2 q hq).fits⟩, fun k hk => by have := HI.out.2.1 k hk; omega, HI.out.2.2.1.trans tp (fun k hk => .inr (by omega))⟩
  case stop =>
    rintro D c' pre X - - h -
    exact h.elim
end Go.Proofs.Ytcbphfpfdfgehaa

namespace Go.Proofs.Ytcbphfpfdfgehaa
open Go.ChangeShapes Go.WideShapes Go.ChangeAt Go.RowKit Go.Shelf

attribute [local go_sem] Oper.semAt_some

set_option maxRecDepth 20000 in
theorem cmessages_none (c : Nat) (e u : Int) (hu : u ≠ 0) (w : World) (h : Calls Try.prog 48 #[.pointer (some ⟨c, 0, none⟩), .int .i64 e] w fun x w' => x = .returned (.int .i64 u) ∧ w = w') :
    Calls Try.prog 13 #[.pointer (some ⟨c, 0, none⟩), .int .i64 e] w fun x w' => x = .returned (.slice none 0 0) ∧ w = w' := by
  have HR := Lib.hid h
  have hb : (u != 0) = true := bne_iff_ne.2 hu
  clear h hu
  go_enter Try.func13, Try.ntmps13
  go_wp2_with (go_at_call 48; (with_reducible refine HR.out.mono ?_); rintro x w' ⟨rfl, rfl⟩)
  go_ret
  exact ⟨rfl, rfl⟩
end Go.Proofs.Ytcbphfpfdfgehaa

namespace Go.Proofs.Ytcbphfpfdfgehaa
open Go.RowKit

section
variable {w0 w w' : World} {c x depth N : Nat} {Y : Nat → Prop} {K1 K : Nat → MS} {U V : Nat → Value} {Q : Nat → List QM}
theorem t_cells0 (h : PSt w0 w c x depth N Y K1 K U V Q) : ∃ p ca, w.cell? ⟨x, 0, none⟩ = some (.slice p (K 0).q.length ca) ∧ w.cell? ⟨x, 4 + 0, none⟩ = some (.bool (!(K 0).op)) := by
  obtain ⟨p, ca, hv⟩ := (h.r.ru 0 (by omega)).sl
  have c0 : w.cell? ⟨x, 0, none⟩ = some (U 0) := h.r.cu 0 (by omega)
  have e0 : (Q 0).length = (K 0).q.length := by rw [← h.r.mp 0 (by omega), List.length_map]
  rw [hv, e0] at c0
  exact ⟨p, ca, c0, h.r.cc 0 (by omega)⟩
/-- A message that waits at the reference's end. -/
theorem t_msg0 (h : PSt w0 w c x depth N Y K1 K U V Q) {i : Nat} {m : Msg} (hm : (K 0).q[i]? = some m) : ∃ g o ca vd vh, w.cell? ⟨x, 0, none⟩ = some (.slice (some ⟨g, o, none⟩) (K 0).q.length ca) ∧ w.cell? ⟨g, o + i * 3, none⟩ = some (.int .i64 m.tx) ∧ w.cell? ⟨g, o + i * 3 + 1, none⟩ = some vd ∧ w.cell? ⟨g, o + i * 3 + 2, none⟩ = some vh ∧ RzB w vd m.d ∧ RzI w vh m.h := by
  have hr := h.r.ru 0 (by omega)
  have e0 : (Q 0).length = (K 0).q.length := by rw [← h.r.mp 0 (by omega), List.length_map]
  obtain ⟨q, hq, rfl⟩ : ∃ q, (Q 0)[i]? = some q ∧ q.m = m := by
    rw [← h.r.mp 0 (by omega), List.getElem?_map] at hm
    cases hc : (Q 0)[i]? with
    | none => rw [hc] at hm; cases hm
    | some q => rw [hc] at hm; exact ⟨q, rfl, by simpa using hm⟩
  have hi := (List.getElem?_eq_some_iff.1 hq).1
  obtain ⟨g, o, ca, he, -, -, -, hce, -⟩ := hr.shape (by omega)
  have c0 : w.cell? ⟨x, 0, none⟩ = some (U 0) := h.r.cu 0 (by omega)
  rw [he, e0] at c0
  have d0 := hce (i * 3 + 0) (by omega)
  have d1 := hce (i * 3 + 1) (by omega)
  have d2 := hce (i * 3 + 2) (by omega)
  rw [qcells_at _ i q hq 0 (by omega)] at d0
  rw [qcells_at _ i q hq 1 (by omega)] at d1
  rw [qcells_at _ i q hq 2 (by omega)] at d2
  have hqi := (h.r.rd 0 (by omega) q (List.mem_of_getElem? hq)).past h.k.turn
  exact ⟨g, o, ca, q.vd, q.vh, c0, d0, by rw [Nat.add_assoc]; exact d1, by rw [Nat.add_assoc]; exact d2, hqi.d, hqi.h⟩
theorem t_messages0 (h : PSt w0 w c x depth N Y K1 K U V Q) (hN : N ≤ 100000) : Calls Try.prog 13 #[.pointer (some ⟨c, 0, none⟩), .int .i64 0] w fun e w' => ∃ u L, e = .returned u ∧ WRow w' 49 3 u L.length (qcells L) ∧ L.map (·.m) = (K1 0).q ∧ (∀ q ∈ L, q.Ok w') ∧ (∀ k, (Blk u k ∨ ∃ q ∈ L, q.F k) → w.heap.size ≤ k) ∧ Turn NoBlock w w' := by
  obtain ⟨S, W, h1, rfl, h3, h4, h5⟩ := h.k
  cases ho : (S 0).op with
  | true => exact cmessages0 h1 hN ho
  | false =>
    have hcl := h1.cl 0 (by omega) ho
    refine (cmessages_none c 0 (-24) (by decide) w (right_no h1 (e := 0) (by omega) ho)).mono ?_
    rintro y w' ⟨rfl, rfl⟩
    refine ⟨_, [], rfl, wrow_nil _ _ _, ?_, (fun q hq => by cases hq), (fun k hk => hk.elim (fun h => (blk_nil k h).elim) (fun ⟨q, hq, _⟩ => by cases hq)), Turn.refl _ _⟩
    show [] = ((S 0).q.map (·.m))
    rw [hcl]
    rfl
theorem t_open0 (h : PSt w0 w c x depth N Y K1 K U V Q) : Calls Try.prog 15 #[.pointer (some ⟨c, 0, none⟩), .int .i64 0] w fun y w' => y = .returned (.bool (K1 0).op) ∧ w = w' := by
  obtain ⟨S, W, h1, rfl, h3, h4, h5⟩ := h.k
  exact open_any h1 (e := 0) (by omega)
theorem t_len0 (h : PSt w0 w c x depth N Y K1 K U V Q) (hN : N ≤ 100000) : Calls Try.prog 14 #[.pointer (some ⟨c, 0, none⟩), .int .i64 0] w fun y w' => y = .returned (.int .i64 ((K1 0).q.length : Nat)) ∧ Turn NoBlock w w' := h.k.len (by omega) (e := 0) (by omega)
theorem t_cells1 (h : PSt w0 w c x depth N Y K1 K U V Q) : ∃ p ca, w.cell? ⟨x, 1, none⟩ = some (.slice p (K 1).q.length ca) ∧ w.cell? ⟨x, 4 + 1, none⟩ = some (.bool (!(K 1).op)) := by
  obtain ⟨p, ca, hv⟩ := (h.r.ru 1 (by omega)).sl
  have c0 : w.cell? ⟨x, 1, none⟩ = some (U 1) := h.r.cu 1 (by omega)
  have e0 : (Q 1).length = (K 1).q.length := by rw [← h.r.mp 1 (by omega), List.length_map]
  rw [hv, e0] at c0
  exact ⟨p, ca, c0, h.r.cc 1 (by omega)⟩
/-- A message that waits at the reference's end. -/
theorem t_msg1 (h : PSt w0 w c x depth N Y K1 K U V Q) {i : Nat} {m : Msg} (hm : (K 1).q[i]? = some m) : ∃ g o ca vd vh, w.cell? ⟨x, 1, none⟩ = some (.slice (some ⟨g, o, none⟩) (K 1).q.length ca) ∧ w.cell? ⟨g, o + i * 3, none⟩ = some (.int .i64 m.tx) ∧ w.cell? ⟨g, o + i * 3 + 1, none⟩ = some vd ∧ w.cell? ⟨g, o + i * 3 + 2, none⟩ = some vh ∧ RzB w vd m.d ∧ RzI w vh m.h := by
  have hr := h.r.ru 1 (by omega)
  have e0 : (Q 1).length = (K 1).q.length := by rw [← h.r.mp 1 (by omega), List.length_map]
  obtain ⟨q, hq, rfl⟩ : ∃ q, (Q 1)[i]? = some q ∧ q.m = m := by
    rw [← h.r.mp 1 (by omega), List.getElem?_map] at hm
    cases hc : (Q 1)[i]? with
    | none => rw [hc] at hm; cases hm
    | some q => rw [hc] at hm; exact ⟨q, rfl, by simpa using hm⟩
  have hi := (List.getElem?_eq_some_iff.1 hq).1
  obtain ⟨g, o, ca, he, -, -, -, hce, -⟩ := hr.shape (by omega)
  have c0 : w.cell? ⟨x, 1, none⟩ = some (U 1) := h.r.cu 1 (by omega)
  rw [he, e0] at c0
  have d0 := hce (i * 3 + 0) (by omega)
  have d1 := hce (i * 3 + 1) (by omega)
  have d2 := hce (i * 3 + 2) (by omega)
  rw [qcells_at _ i q hq 0 (by omega)] at d0
  rw [qcells_at _ i q hq 1 (by omega)] at d1
  rw [qcells_at _ i q hq 2 (by omega)] at d2
  have hqi := (h.r.rd 1 (by omega) q (List.mem_of_getElem? hq)).past h.k.turn
  exact ⟨g, o, ca, q.vd, q.vh, c0, d0, by rw [Nat.add_assoc]; exact d1, by rw [Nat.add_assoc]; exact d2, hqi.d, hqi.h⟩
theorem t_messages1 (h : PSt w0 w c x depth N Y K1 K U V Q) (hN : N ≤ 100000) : Calls Try.prog 13 #[.pointer (some ⟨c, 0, none⟩), .int .i64 1] w fun e w' => ∃ u L, e = .returned u ∧ WRow w' 49 3 u L.length (qcells L) ∧ L.map (·.m) = (K1 1).q ∧ (∀ q ∈ L, q.Ok w') ∧ (∀ k, (Blk u k ∨ ∃ q ∈ L, q.F k) → w.heap.size ≤ k) ∧ Turn NoBlock w w' := by
  obtain ⟨S, W, h1, rfl, h3, h4, h5⟩ := h.k
  cases ho : (S 1).op with
  | true => exact cmessages1 h1 hN ho
  | false =>
    have hcl := h1.cl 1 (by omega) ho
    refine (cmessages_none c 1 (-24) (by decide) w (right_no h1 (e := 1) (by omega) ho)).mono ?_
    rintro y w' ⟨rfl, rfl⟩
    refine ⟨_, [], rfl, wrow_nil _ _ _, ?_, (fun q hq => by cases hq), (fun k hk => hk.elim (fun h => (blk_nil k h).elim) (fun ⟨q, hq, _⟩ => by cases hq)), Turn.refl _ _⟩
    show [] = ((S 1).q.map (·.m))
    rw [hcl]
    rfl
theorem t_open1 (h : PSt w0 w c x depth N Y K1 K U V Q) : Calls Try.prog 15 #[.pointer (some ⟨c, 0, none⟩), .int .i64 1] w fun y w' => y = .returned (.bool (K1 1).op) ∧ w = w' := by
  obtain ⟨S, W, h1, rfl, h3, h4, h5⟩ := h.k
  exact open_any h1 (e := 1) (by omega)
theorem t_len1 (h : PSt w0 w c x depth N Y K1 K U V Q) (hN : N ≤ 100000) : Calls Try.prog 14 #[.pointer (some ⟨c, 0, none⟩), .int .i64 1] w fun y w' => y = .returned (.int .i64 ((K1 1).q.length : Nat)) ∧ Turn NoBlock w w' := h.k.len (by omega) (e := 1) (by omega)
end
end Go.Proofs.Ytcbphfpfdfgehaa

namespace Go.Proofs.Ytcbphfpfdfgehaa
open Go.RowKit

theorem cwK_len (d : Nat) (K : Nat → MS) (e : Nat) (m : Msg) (j : Nat) : (cwK d K e m j).q.length ≤ (K j).q.length + 1 ∧ (cwK d K e m j).ws.length ≤ (K j).ws.length := by
  unfold cwK
  split
  · split
    · unfold updN
      split
      · rename_i h1
        subst h1
        unfold msAns
        refine ⟨?_, ?_⟩
        · simp
        · exact List.length_eraseIdx_le _ _
      · exact ⟨by omega, Nat.le_refl _⟩
    · unfold updN
      split
      · rename_i h1
        subst h1
        unfold msAdd
        refine ⟨?_, ?_⟩ <;> simp
      · exact ⟨by omega, Nat.le_refl _⟩
  · exact ⟨by omega, Nat.le_refl _⟩
theorem ccK_len (d : Nat) (K : Nat → MS) (e : Nat) (m : Msg) (k : Int) (j : Nat) : (ccK d K e m k j).q.length ≤ (K j).q.length + 1 ∧ (ccK d K e m k j).ws.length ≤ (K j).ws.length + 1 := by
  unfold ccK
  split
  · unfold updN
    split
    · rename_i h1
      subst h1
      have h2 := cwK_len d K j m j
      refine ⟨h2.1, ?_⟩
      simp only [List.length_append, List.length_singleton]
      omega
    · have h2 := cwK_len d K e m j
      exact ⟨h2.1, by omega⟩
  · exact ⟨by omega, by omega⟩
theorem cfK_len (K : Nat → MS) (e : Nat) (k : Int) (j : Nat) : (cfK K e k j).q.length ≤ (K j).q.length + 1 ∧ (cfK K e k j).ws.length ≤ (K j).ws.length + 1 := by
  unfold cfK
  split
  · unfold updN
    split
    · rename_i h1
      subst h1
      refine ⟨by simp, ?_⟩
      exact Nat.le_trans (List.length_eraseIdx_le _ _) (by omega)
    · exact ⟨by omega, by omega⟩
  · exact ⟨by omega, by omega⟩
section
variable {w0 w w' : World} {c x depth N : Nat} {Y Z : Nat → Prop} {K1 K : Nat → MS}
/-- The reference's call has been made, ahead of the program's. -/
theorem pst_ref2 {U V : Nat → Value} {Q : Nat → List QM} {K2 : Nat → MS} (h : PSt w0 w c x depth N Y K1 K U V Q) (hm : RMk w0 w w' x depth U V K2) (l2 : ∀ j, (K2 j).q.length ≤ (K j).q.length + 1 ∧ (K2 j).ws.length ≤ (K j).ws.length + 1) : PSx w0 w' c x depth (N + 2) Y K1 K2 ∧ Kp Y w w' := by
  obtain ⟨U', V', Q', h1, t, h3⟩ := hm
  have ht := h.k.turn.size
  have hlt : ∀ j, Y j → j < w.heap.size := fun j hj => by
    obtain ⟨S, W, g1, g2, g3, g4, g5⟩ := h.k
    exact (g5 j (.inr hj)).1
  refine ⟨⟨U', V', Q', (h.k.more (t.mono (fun k hk => .inl (.inl (hk ▸ .inl rfl)))) (fun k hk => ?_) h.mine).mono (by omega), h1, fun e he => ?_, fun j hj hf => ?_, fun j hj => ?_⟩, _, t, fun k hk e => h.ap k hk (e ▸ .inl rfl)⟩
  · rcases hk with hk | hk
    · rcases h3 k hk with h4 | h4
      · exact .inl (.inl h4)
      · exact .inr h4
    · exact .inl (.inr hk)
  · have h5 := h.ln e he
    have h6 := l2 e
    omega
  · rcases h3 j hf with h4 | h4
    · exact h.ap j hj h4
    · have := hlt j hj; omega
  · rcases hj with hj | hj
    · rcases h3 j hj with h4 | h4
      · exact h.mine j (.inl h4)
      · omega
    · exact h.mine j (.inr hj)
/-- The reference's Call, ahead of the program's. -/
theorem p_callA (e : Int) (k : Int) (m : Msg) (vd vh : Value) (h : PSx w0 w c x depth N Y K K) (hN : N ≤ 100000) (hd : RzB w0 vd m.d) (hh : RzI w0 vh m.h) :
    Calls Try.prog 43 #[.pointer (some ⟨x, 0, none⟩), .int .i64 e, .int .i64 k, .agg #[.int .i64 m.tx, vd, vh]] w fun y w' => y = .returned (.int .i64 (at2 (fun i => ccS depth K i m k) (-10) e)) ∧ PSx w0 w' c x depth (N + 2) Y K (at2 (fun i => ccK depth K i m k) K e) ∧ Kp Y w w' := by
  obtain ⟨U, V, Q, h⟩ := h
  have l0 := h.ln 0 (by omega)
  have l1 := h.ln 1 (by omega)
  by_cases e0 : e = 0
  · subst e0
    simp only [at2_0]
    exact (rcallT0 h.r h.k.turn (fun e he => by have := h.ln e he; omega) (by omega) k m vd vh hd hh).mono (fun y w' hh => ⟨hh.1, pst_ref2 h hh.2 (ccK_len depth K 0 m k)⟩)
  · by_cases e1 : e = 1
    · subst e1
      simp only [at2_1]
      exact (rcallT1 h.r h.k.turn (fun e he => by have := h.ln e he; omega) (by omega) k m vd vh hd hh).mono (fun y w' hh => ⟨hh.1, pst_ref2 h hh.2 (ccK_len depth K 1 m k)⟩)
    · simp only [at2_no _ _ e0 e1]
      exact ((rcall_bad x e k m.tx vd vh w e0 e1 ⟨_, _, hd.sl.choose_spec⟩ ⟨_, _, hh.sl.choose_spec⟩).mono (fun y w' hh => ⟨hh.1, PSx.mono (PSx.past ⟨U, V, Q, h⟩ hh.2) (by omega), Kp.of_past hh.2⟩))
/-- The program's Call, behind the reference's. -/
theorem p_callB (h : PSx w0 w c x depth N Y K1 K) (hN : N ≤ 100000) (e : Int) (k : Int) (m : Msg) (vd vh : Value) (hm : m.d.length ≤ 100000 ∧ m.h.length ≤ 100000) (hd : RdB w vd m.d) (hh : RdI w vh m.h) (hA : ∀ j, (Blk vd j ∨ Blk vh j) → Y j) :
    Calls Try.prog 42 #[.pointer (some ⟨c, 0, none⟩), .int .i64 e, .int .i64 k, .agg #[.int .i64 m.tx, vd, vh]] w fun y w' => y = .returned (.int .i64 (at2 (fun i => ccS depth K1 i m k) (-10) e)) ∧ PSx w0 w' c x depth (N + 2) Y (at2 (fun i => ccK depth K1 i m k) K1 e) K ∧ Kp Y w w' := by
  obtain ⟨U, V, Q, h⟩ := h
  by_cases e0 : e = 0
  · subst e0
    simp only [at2_0]
    exact (h.k.callT0 (by omega) k m (by unfold maxLen; omega) vd vh hd hh (fun j hj => .inr (hA j hj))).mono (fun y w' hh => ⟨hh.1, pst_prog h (hh.2.1.mono (by omega)) (by omega) hh.2.2, kp_Y hh.2.2⟩)
  · by_cases e1 : e = 1
    · subst e1
      simp only [at2_1]
      exact (h.k.callT1 (by omega) k m (by unfold maxLen; omega) vd vh hd hh (fun j hj => .inr (hA j hj))).mono (fun y w' hh => ⟨hh.1, pst_prog h (hh.2.1.mono (by omega)) (by omega) hh.2.2, kp_Y hh.2.2⟩)
    · simp only [at2_no _ _ e0 e1]
      exact (call_bad c e k m.tx vd vh ⟨_, _, hd.sl.choose_spec⟩ ⟨_, _, hh.sl.choose_spec⟩ w e0 e1).mono (fun y w' hh => ⟨hh.1, PSx.mono ⟨U, V, Q, h.past hh.2⟩ (by omega), Kp.of_past hh.2⟩)
/-- The reference's Forget, ahead of the program's. -/
theorem p_forgetA (e : Int) (k : Int) (h : PSx w0 w c x depth N Y K K) (hN : N ≤ 100000) :
    Calls Try.prog 45 #[.pointer (some ⟨x, 0, none⟩), .int .i64 e, .int .i64 k] w fun y w' => y = .returned (.int .i64 (at2 (fun i => cfS K i k) (-10) e)) ∧ PSx w0 w' c x depth (N + 2) Y K (at2 (fun i => cfK K i k) K e) ∧ Kp Y w w' := by
  obtain ⟨U, V, Q, h⟩ := h
  have l0 := h.ln 0 (by omega)
  have l1 := h.ln 1 (by omega)
  by_cases e0 : e = 0
  · subst e0
    simp only [at2_0]
    exact (rforget0 h.r (by omega) k).mono (fun y w' hh => ⟨hh.1, pst_ref2 h hh.2 (cfK_len K 0 k)⟩)
  · by_cases e1 : e = 1
    · subst e1
      simp only [at2_1]
      exact (rforget1 h.r (by omega) k).mono (fun y w' hh => ⟨hh.1, pst_ref2 h hh.2 (cfK_len K 1 k)⟩)
    · simp only [at2_no _ _ e0 e1]
      exact ((rforget_bad x e k w e0 e1).mono (fun y w' hh => by obtain ⟨rfl, rfl⟩ := hh; exact ⟨rfl, PSx.mono ⟨U, V, Q, h⟩ (by omega), Kp.of_past (Turn.refl _ _)⟩))
/-- The program's Forget, behind the reference's. -/
theorem p_forgetB (h : PSx w0 w c x depth N Y K1 K) (hN : N ≤ 100000) (e : Int) (k : Int) :
    Calls Try.prog 44 #[.pointer (some ⟨c, 0, none⟩), .int .i64 e, .int .i64 k] w fun y w' => y = .returned (.int .i64 (at2 (fun i => cfS K1 i k) (-10) e)) ∧ PSx w0 w' c x depth (N + 2) Y (at2 (fun i => cfK K1 i k) K1 e) K ∧ Kp Y w w' := by
  obtain ⟨U, V, Q, h⟩ := h
  by_cases e0 : e = 0
  · subst e0
    simp only [at2_0]
    exact (h.k.forgetT0 (by omega) k).mono (fun y w' hh => ⟨hh.1, pst_prog h (hh.2.1.mono (by omega)) (by omega) hh.2.2, kp_Y hh.2.2⟩)
  · by_cases e1 : e = 1
    · subst e1
      simp only [at2_1]
      exact (h.k.forgetT1 (by omega) k).mono (fun y w' hh => ⟨hh.1, pst_prog h (hh.2.1.mono (by omega)) (by omega) hh.2.2, kp_Y hh.2.2⟩)
    · simp only [at2_no _ _ e0 e1]
      exact (forget_bad e k e0 e1).mono (fun y w' hh => ⟨hh.1, PSx.mono ⟨U, V, Q, h.past hh.2⟩ (by omega), Kp.of_past hh.2⟩)
end
end Go.Proofs.Ytcbphfpfdfgehaa

namespace Go.Proofs.Ytcbphfpfdfgehaa
open Go.ChangeShapes Go.WideShapes Go.ChangeAt Go.RowKit

theorem conv11 {w : World} {v : Value} {bs : List UInt8} (h : RdB w v bs) : Sem.run Try.prog (convert 35 9 v) w = .ok (.string ⟨bs.toArray⟩) w := by
  obtain ⟨p, c, rfl, h0, hc⟩ := h.form
  cases p with
  | none =>
    have : bs = [] := List.eq_nil_of_length_eq_zero (h0 rfl)
    subst this
    have := run_convert_bytes_string (P := Try.prog) w 35 9 5 none 0 c ch_bytes (by kernel_rfl) ch_str
    rw [show ([] : List UInt8).length = 0 from rfl, this]
    rfl
  | some a =>
    obtain ⟨g, o, rfl, hj⟩ := hc a rfl
    exact run_convert_bytes_back w 35 9 5 ⟨g, o, none⟩ c bs ch_bytes (by kernel_rfl) ch_str (fun j hj' => by
      rw [Addr.add_lit, hj j (by omega)]
      unfold bcells
      rw [List.getElem?_map, List.getElem?_eq_getElem hj']
      rfl)
theorem conv11z {w : World} {v : Value} {bs : List UInt8} (h : RzB w v bs) : Sem.run Try.prog (convert 35 9 v) w = .ok (.string ⟨bs.toArray⟩) w := by
  by_cases h0 : 0 < bs.length
  · exact conv11 (h.rd h0)
  · have : bs = [] := List.eq_nil_of_length_eq_zero (by omega)
    subst this
    obtain ⟨p, c, rfl⟩ := h.sl
    cases p with
    | none =>
      have := run_convert_bytes_string (P := Try.prog) w 35 9 5 none 0 c ch_bytes (by kernel_rfl) ch_str
      rw [show ([] : List UInt8).length = 0 from rfl, this]
      rfl
    | some a => exact run_convert_bytes_back w 35 9 5 a c [] ch_bytes (by kernel_rfl) ch_str (fun j hj => absurd hj (Nat.not_lt_zero _))
theorem same7 (w : World) (va vb : Value) (bs : List UInt8) (ha : RdB w va bs) (hb : RzB w vb bs) :
    Calls Try.prog 54 #[va, vb] w fun e w' => e = .returned (.bool true) ∧ w = w' := by
  have c1 := conv11 ha
  have c2 := conv11z hb
  clear ha hb
  go_enter Try.func54, Try.ntmps54
  go_wp2
  go_ret
  exact ⟨rfl, rfl⟩
theorem rdi_two {w : World} {v : Value} {zs : List Int} (h : RdI w v zs) : ∃ p c, v = .slice p zs.length c ∧ (0 < zs.length → ∃ g o, p = some ⟨g, o, none⟩ ∧ ∀ j x, zs[j]? = some x → w.cell? ⟨g, o + j, none⟩ = some (.int .i64 x)) := by
  obtain ⟨p, c, rfl, hz, hc⟩ := h.form
  refine ⟨p, c, rfl, fun h0 => ?_⟩
  cases p with
  | none => have := hz rfl; omega
  | some a =>
    obtain ⟨g, o, rfl, hj⟩ := hc a rfl
    refine ⟨g, o, rfl, fun j x hx => ?_⟩
    have hlt := (List.getElem?_eq_some_iff.1 hx).1
    rw [hj j (by omega)]
    unfold icells
    rw [List.getElem?_map, hx]
    rfl
set_option maxRecDepth 20000 in
set_option maxHeartbeats 1000000 in
theorem ints_eq (w : World) (va vb : Value) (zs : List Int) (hn : zs.length ≤ 1000000000) (ha : RdI w va zs) (hb : RzI w vb zs) :
    Calls Try.prog 19 #[va, vb] w fun e w' => e = .returned (.bool true) ∧ Turn NoBlock w w' := by
  obtain ⟨pa, ca, rfl, fa⟩ := rdi_two ha
  obtain ⟨pb, cb, rfl⟩ := hb.sl
  have fb : 0 < zs.length → ∃ g o, pb = some ⟨g, o, none⟩ ∧ ∀ j x, zs[j]? = some x → w.cell? ⟨g, o + j, none⟩ = some (.int .i64 x) := fun h0 => by
    obtain ⟨p', c', he, hf⟩ := rdi_two (hb.rd h0)
    simp only [Value.slice.injEq] at he
    obtain ⟨rfl, -, -⟩ := he
    exact hf h0
  have FA := Lib.hid fa
  have FB := Lib.hid fb
  have HZ := Lib.hid (fun j (hj : j < zs.length) => show ∃ x, zs[j]? = some x from ⟨_, List.getElem?_eq_getElem hj⟩)
  generalize zs.length = n at *
  clear fa fb ha hb
  go_enter Try.func19, Try.ntmps19
  go_wp2_with fail
  go_loopg [13] n (fun g s13 wr => ∃ k : Nat, k ≤ n ∧ g = n - k ∧ s13 = .int .i64 k ∧ Hid (Turn NoBlock w wr))
  case atStart => exact ⟨0, by omega, by omega, rfl, Lib.hid (Turn.refl _ _)⟩
  case round =>
    obtain ⟨k, hk, hg, rfl, HT⟩ := hrel
    by_cases hlt : k < n
    · obtain ⟨ga, oa, rfl, hca⟩ := FA.out (by omega)
      obtain ⟨gb, ob, rfl, hcb⟩ := FB.out (by omega)
      obtain ⟨x, hx⟩ := HZ.out k hlt
      have d1 := HT.out.cell (hca k x hx) (fun h => h)
      have d2 := HT.out.cell (hcb k x hx) (fun h => h)
      clear hca hcb hx
      go_wp2_with fail
      go_quiet (fail)
      go_wp2
      go_roundg (n - (k + 1))
      case measure => omega
      case rel => exact ⟨k + 1, by omega, by omega, by go_num, Lib.hid (TT HT.out ((Turn.refl NoBlock wr).drewN _))⟩
    · obtain rfl : k = n := by omega
      go_wp2
      go_ret
      exact ⟨rfl, HT.out⟩
set_option maxRecDepth 20000 in
set_option maxHeartbeats 1000000 in
theorem same_eq (w : World) (tx : Int) (d : List UInt8) (h : List Int) (va vb ua ub : Value) (hn : h.length ≤ 1000000000) (ha : RdB w va d) (hb : RdI w vb h) (ga : RzB w ua d) (gb : RzI w ub h) :
    Calls Try.prog 18 #[.agg #[.int .i64 tx, va, vb], .agg #[.int .i64 tx, ua, ub]] w fun e w' => e = .returned (.bool true) ∧ Turn NoBlock w w' := by
  have H7 := Lib.hid (fun W (t : Turn NoBlock w W) => same7 W va ua d (ha.past t) (ga.past t))
  have HI := Lib.hid (fun W (t : Turn NoBlock w W) => ints_eq W vb ub h hn (hb.past t) (gb.past t))
  obtain ⟨p1, c1, rfl⟩ := ha.sl
  obtain ⟨p2, c2, rfl⟩ := hb.sl
  obtain ⟨p3, c3, rfl⟩ := ga.sl
  obtain ⟨p4, c4, rfl⟩ := gb.sl
  clear ha hb ga gb hn
  go_enter Try.func18, Try.ntmps18
  go_wp2_with (first
    | (go_at_call 54; (with_reducible refine (H7.out _ (((Turn.refl _ _).alloc _).alloc _)).mono ?_); rintro x w1 ⟨rfl, rfl⟩)
    | (go_at_call 19; (with_reducible refine (HI.out _ (((Turn.refl _ _).alloc _).alloc _)).mono ?_); rintro x w2 ⟨rfl, t2⟩))
  go_ret
  exact ⟨rfl, TT (((Turn.refl _ _).alloc _).alloc _) t2⟩
end Go.Proofs.Ytcbphfpfdfgehaa

namespace Go.Proofs.Ytcbphfpfdfgehaa
open Go.ChangeShapes Go.WideShapes Go.ChangeAt Go.RowKit

theorem wrow_set1 {w : World} {e g o n c : Nat} {xs : List Value} (h : WRow w e 1 (.slice (some ⟨g, o, none⟩) n c) n xs) {j : Nat} (hj : j < n) (v : Value) : WRow (w.setCell ⟨g, o + j, none⟩ v) e 1 (.slice (some ⟨g, o, none⟩) n c) n (xs.set j v) := by
  obtain ⟨g', o', c', he, h1, h2, h3, h4, h5⟩ := h.shape (by omega)
  simp only [Value.slice.injEq, Option.some.injEq, Addr.mk.injEq, and_true, true_and] at he
  obtain ⟨⟨rfl, rfl⟩, rfl⟩ := he
  have hs : ∀ i, i < c → (w.cell? ⟨g, o + i, none⟩).isSome = true := fun i hi => h5 i (by omega)
  refine ⟨by rw [List.length_set]; exact h.len, .inr ⟨g, o, c, rfl, h1, h2, h3.set _ _ _, fun i hi => ?_, fun i hi => ?_⟩⟩
  · by_cases hij : i = j
    · subst hij
      rw [World.cell?_setCell_same' _ _ _ (hs i (by omega)), List.getElem?_set_self (by have := h.len; omega)]
    · rw [World.cell?_setCell_other w ⟨g, o + j, none⟩ ⟨g, o + i, none⟩ v (fun e => by simp at e <;> omega), List.getElem?_set_ne (fun e => hij e.symm)]
      exact h4 i hi
  · by_cases hij : i = j
    · subst hij
      rw [World.cell?_setCell_same' _ _ _ (hs i (by omega))]; rfl
    · rw [World.cell?_setCell_other w ⟨g, o + j, none⟩ ⟨g, o + i, none⟩ v (fun e => by simp at e <;> omega)]
      exact h5 i hi
/-- Numbers of a kind, whatever they are. -/
def UK (k : IntKind) (t : TypeId) (w : World) (v : Value) (n : Nat) : Prop := ∃ xs, WRow w t 1 v n xs ∧ ∀ j, j < n → ∃ z, xs[j]? = some (.int k z)
theorem uk_byts {w : World} {v : Value} {b : List UInt8} (h : Byts v b w) : UK .u8 5 w v b.length := ⟨_, h, fun j hj => ⟨(b[j].toNat : Nat), by unfold bcells; rw [List.getElem?_map, List.getElem?_eq_getElem hj]; rfl⟩⟩
theorem uk_nums {w : World} {v : Value} {b : List Int} (h : Nums v b w) : UK .i64 3 w v b.length := ⟨_, h, fun j hj => ⟨b[j], by unfold icells; rw [List.getElem?_map, List.getElem?_eq_getElem hj]; rfl⟩⟩
theorem UK.past {k : IntKind} {t : TypeId} {w w' : World} {v : Value} {n : Nat} (h : UK k t w v n) (u : Turn NoBlock w w') : UK k t w' v n := by
  obtain ⟨xs, h1, h2⟩ := h
  exact ⟨xs, h1.past u, h2⟩
theorem UK.kept {k : IntKind} {t : TypeId} {w w' : World} {v : Value} {n : Nat} {F : Nat → Prop} (h : UK k t w v n) (u : Turn F w w') (hF : ∀ j, Blk v j → ¬ F j) : UK k t w' v n := by
  obtain ⟨xs, h1, h2⟩ := h
  exact ⟨xs, h1.kept u hF, h2⟩
theorem UK.shape {k : IntKind} {t : TypeId} {w : World} {v : Value} {n j : Nat} (h : UK k t w v n) (hj : j < n) : ∃ g o ca z, v = .slice (some ⟨g, o, none⟩) n ca ∧ w.cell? ⟨g, o + j, none⟩ = some (.int k z) ∧ w.frozen? ⟨g, o + j, none⟩ = false := by
  obtain ⟨xs, h1, h2⟩ := h
  obtain ⟨g, o, ca, he, -, -, htb, hce, -⟩ := h1.shape (by omega)
  obtain ⟨z, hz⟩ := h2 j hj
  exact ⟨g, o, ca, z, he, by rw [hce j (by omega)]; exact hz, htb.free _⟩
theorem UK.set {k : IntKind} {t : TypeId} {w : World} {g o n ca j : Nat} (hv : UK k t w (.slice (some ⟨g, o, none⟩) n ca) n) (hj : j < n) (z : Int) : UK k t (w.setCell ⟨g, o + j, none⟩ (.int k z)) (.slice (some ⟨g, o, none⟩) n ca) n := by
  obtain ⟨xs, h1, h2⟩ := hv
  refine ⟨_, wrow_set1 h1 hj _, fun i hi => ?_⟩
  by_cases hij : i = j
  · subst hij
    exact ⟨z, List.getElem?_set_self (by rw [h1.len]; omega)⟩
  · rw [List.getElem?_set_ne (fun e => hij e.symm)]
    exact h2 i hi
theorem UK.le {k : IntKind} {t : TypeId} {w : World} {v : Value} {n : Nat} (h : UK k t w v n) : n ≤ maxLen := by
  obtain ⟨xs, h1, -⟩ := h
  rcases h1.form with ⟨-, h2⟩ | ⟨g, o, ca, -, h2, h3, -⟩
  · rw [h2]; exact Nat.zero_le _
  · exact Nat.le_trans h2 h3
theorem UK.sl {k : IntKind} {t : TypeId} {w : World} {v : Value} {n : Nat} (h : UK k t w v n) : ∃ p c, v = .slice p n c := by
  obtain ⟨xs, h1, -⟩ := h
  exact h1.sl
theorem UK.apart {k k' : IntKind} {t t' : TypeId} {w : World} {v v' : Value} {n n' : Nat} (h : UK k t w v n) (h' : UK k' t' w v' n') (hne : t ≠ t') : ∀ j, Blk v j → ¬ Blk v' j := by
  obtain ⟨xs, h1, -⟩ := h
  obtain ⟨xs', h1', -⟩ := h'
  exact blks_typed h1 h1' hne
theorem UK.lt {k : IntKind} {t : TypeId} {w : World} {v : Value} {n j : Nat} (h : UK k t w v n) (hj : Blk v j) : j < w.heap.size := by
  obtain ⟨xs, h1, -⟩ := h
  exact h1.lt hj
set_option maxRecDepth 20000 in
set_option maxHeartbeats 2000000 in
theorem spoil_any (w : World) (tx : Int) (vd vh : Value) (nd nh : Nat) (hd : UK .u8 5 w vd nd) (hh : UK .i64 3 w vh nh) :
    Calls Try.prog 41 #[.agg #[.int .i64 tx, vd, vh]] w fun e w' => (∃ u, e = .returned u) ∧ Turn (fun k => Blk vd k ∨ Blk vh k) w w' := by
  have hap := hd.apart hh (by decide)
  have ld := hd.le
  have lh := hh.le
  unfold maxLen at ld lh
  obtain ⟨p1, c1, rfl⟩ := hd.sl
  obtain ⟨p2, c2, rfl⟩ := hh.sl
  obtain ⟨B, hB⟩ : ∃ B, w.heap.size = B := ⟨_, rfl⟩
  have t1 := (Turn.refl NoBlock w).alloc (.cells #[.int .i64 tx, .slice p1 nd c1, .slice p2 nh c2] 49)
  have bx := heap_alloc_new w (.cells #[.int .i64 tx, .slice p1 nd c1, .slice p2 nh c2] 49)
  rw [hB] at bx
  have HD := Lib.hid (hd.past t1)
  have HHh := Lib.hid (hh.past t1)
  have HX := Lib.hid (And.intro bx (And.intro t1 (And.intro hap (show ∀ k, (Blk (.slice p1 nd c1) k ∨ Blk (.slice p2 nh c2) k) → k ≠ B from fun k hk e => by rcases hk with hk | hk; (have := hd.lt hk; omega); (have := hh.lt hk; omega)))))
  clear hd hh bx t1 hap
  go_enter Try.func41, Try.ntmps41
  go_wp2
  generalize w.alloc (.cells #[.int .i64 tx, .slice p1 nd c1, .slice p2 nh c2] 49) = W1 at *
  go_loopg [7] nd (fun z s7 wr => ∃ j : Nat, j ≤ nd ∧ z = nd - j ∧ s7 = .int .i64 (j : Int) ∧ Hid (UK .u8 5 wr (.slice p1 nd c1) nd ∧ UK .i64 3 wr (.slice p2 nh c2) nh ∧ Turn (fun k => Blk (.slice p1 nd c1) k ∨ Blk (.slice p2 nh c2) k) W1 wr))
  case atStart => exact ⟨0, by omega, by omega, rfl, Lib.hid ⟨HD.out, HHh.out, Turn.refl _ _⟩⟩
  case round =>
    obtain ⟨j, hj, hz, rfl, HL⟩ := hrel
    obtain ⟨b0, b1, b2⟩ := box3 (HL.out.2.2.heap HX.out.1 (fun h => HX.out.2.2.2 B h rfl))
    have bl := lt_of_block (HL.out.2.2.heap HX.out.1 (fun h => HX.out.2.2.2 B h rfl))
    by_cases hlt : j < nd
    · have hlti : (j : Int) < (nd : Int) := by omega
      obtain ⟨g, o, ca, z, he, hc, hf⟩ := UK.shape HL.out.1 hlt
      obtain rfl : p1 = some ⟨g, o, none⟩ := by simp only [Value.slice.injEq] at he; exact he.1
      clear he
      go_wp2
      go_roundg (nd - (j + 1))
      case measure => omega
      case rel => exact ⟨j + 1, by omega, rfl, by go_num, Lib.hid ⟨HL.out.1.set hlt _, HL.out.2.1.kept ((Turn.refl (Blk (.slice (some ⟨g, o, none⟩) nd c1)) wr).setCell (p := ⟨g, o + j, none⟩) (.inl (by simp [Blk, Value.ownBlock])) _) (fun k hk hk2 => HX.out.2.2.1 k hk2 hk), HL.out.2.2.setCell (p := ⟨g, o + j, none⟩) (.inl (.inl (by simp [Blk, Value.ownBlock]))) _⟩⟩
    · have hlti : ¬ (j : Int) < (nd : Int) := by omega
      have HL0 := HL
      go_wp2
      go_loopg [21] nh (fun z s21 wr => ∃ j : Nat, j ≤ nh ∧ z = nh - j ∧ s21 = .int .i64 (j : Int) ∧ Hid (UK .i64 3 wr (.slice p2 nh c2) nh ∧ True ∧ Turn (fun k => Blk (.slice p1 nd c1) k ∨ Blk (.slice p2 nh c2) k) W1 wr))
      case atStart => exact ⟨0, by omega, by omega, rfl, Lib.hid ⟨HL0.out.2.1, trivial, HL0.out.2.2⟩⟩
      case round =>
        obtain ⟨j, hj, hz, rfl, HL⟩ := hrel
        obtain ⟨b0, b1, b2⟩ := box3 (HL.out.2.2.heap HX.out.1 (fun h => HX.out.2.2.2 B h rfl))
        have bl := lt_of_block (HL.out.2.2.heap HX.out.1 (fun h => HX.out.2.2.2 B h rfl))
        by_cases hlt : j < nh
        · have hlti : (j : Int) < (nh : Int) := by omega
          obtain ⟨g, o, ca, z, he, hc, hf⟩ := UK.shape HL.out.1 hlt
          obtain rfl : p2 = some ⟨g, o, none⟩ := by simp only [Value.slice.injEq] at he; exact he.1
          clear he
          go_wp2
          go_roundg (nh - (j + 1))
          case measure => omega
          case rel => exact ⟨j + 1, by omega, rfl, by go_num, Lib.hid ⟨HL.out.1.set hlt _, trivial, HL.out.2.2.setCell (p := ⟨g, o + j, none⟩) (.inl (.inr (by simp [Blk, Value.ownBlock]))) _⟩⟩
        · have hlti : ¬ (j : Int) < (nh : Int) := by omega
          go_wp2
          go_end0
          exact ⟨⟨_, rfl⟩, HX.out.2.1.mono (fun _ h => h.elim) |>.trans HL.out.2.2 (fun k hk => .inl hk)⟩
end Go.Proofs.Ytcbphfpfdfgehaa

namespace Go.Proofs.Ytcbphfpfdfgehaa
open Go.RowKit

structure KS (w0 w : World) (c d i I O nx : Nat) : Prop where
  ex : ∃ N K, N ≤ 2 * i ∧ CSt w0 w c d N K NoBlock ∧ (HL K).Nodup ∧ (∀ x ∈ HL K, 0 ≤ x ∧ x < (nx : Int)) ∧ I = O + (HL K).length
  nx : nx ≤ 80 * i
  le : I ≤ 80 * i
theorem KS.turn {w0 w : World} {c d i I O nx : Nat} (h : KS w0 w c d i I O nx) : Turn NoBlock w0 w := by
  obtain ⟨N, K, _, h, _⟩ := h.ex
  exact h.turn
/-- The handles of the law's own message: some are numbered by now. -/
def rng (nx j : Nat) (hh : List Int) : List Int := (List.range j).map (fun i => ((nx + i : Nat) : Int)) ++ hh.drop j
theorem rng_len {nx j : Nat} {hh : List Int} (h : j ≤ hh.length) : (rng nx j hh).length = hh.length := by
  unfold rng
  rw [List.length_append, List.length_map, List.length_range, List.length_drop]
  omega
theorem rng_zero (nx : Nat) (hh : List Int) : rng nx 0 hh = hh := by simp [rng]
theorem rng_all (nx : Nat) (hh : List Int) : rng nx hh.length hh = (List.range hh.length).map (fun i => ((nx + i : Nat) : Int)) := by simp [rng]
theorem rng_set {nx j : Nat} {hh : List Int} (h : j < hh.length) : (rng nx j hh).set j ((nx + j : Nat) : Int) = rng nx (j + 1) hh := by
  unfold rng
  have hl : ((List.range j).map (fun i => ((nx + i : Nat) : Int))).length = j := by simp
  rw [List.set_append_right _ _ (by rw [hl]; omega), hl, Nat.sub_self, List.range_succ, List.map_append, List.append_assoc]
  congr 1
  rw [List.drop_eq_getElem_cons h, List.set_cons_zero]
  rfl
theorem wrow_set {w : World} {e g o n c : Nat} {xs : List Value} (h : WRow w e 1 (.slice (some ⟨g, o, none⟩) n c) n xs) {j : Nat} (hj : j < n) (v : Value) : WRow (w.setCell ⟨g, o + j, none⟩ v) e 1 (.slice (some ⟨g, o, none⟩) n c) n (xs.set j v) := by
  obtain ⟨g', o', c', he, h1, h2, h3, h4, h5⟩ := h.shape (by omega)
  simp only [Value.slice.injEq, Option.some.injEq, Addr.mk.injEq, and_true, true_and] at he
  obtain ⟨⟨rfl, rfl⟩, rfl⟩ := he
  have hs : ∀ i, i < c → (w.cell? ⟨g, o + i, none⟩).isSome = true := fun i hi => h5 i (by omega)
  refine ⟨by rw [List.length_set]; exact h.len, .inr ⟨g, o, c, rfl, h1, h2, h3.set _ _ _, fun i hi => ?_, fun i hi => ?_⟩⟩
  · by_cases hij : i = j
    · subst hij
      rw [World.cell?_setCell_same' _ _ _ (hs i (by omega)), List.getElem?_set_self (by have := h.len; omega)]
    · rw [World.cell?_setCell_other w ⟨g, o + j, none⟩ ⟨g, o + i, none⟩ v (fun e => by simp at e <;> omega), List.getElem?_set_ne (fun e => hij e.symm)]
      exact h4 i hi
  · by_cases hij : i = j
    · subst hij
      rw [World.cell?_setCell_same' _ _ _ (hs i (by omega))]; rfl
    · rw [World.cell?_setCell_other w ⟨g, o + j, none⟩ ⟨g, o + i, none⟩ v (fun e => by simp at e <;> omega)]
      exact h5 i hi
def X4 (B C : Nat) (a b : Value) (k : Nat) : Prop := k = B ∨ k = C ∨ Blk a k ∨ Blk b k
/-- Within a round: the boxes of the call and of its message, the message's lists, some handles numbered. -/
structure M2 (w0 w : World) (c dp N : Nat) (K : Nat → MS) (B C : Nat) (ob : Array Value) (tx : Int) (a b : Value) (d : List UInt8) (hh : List Int) : Prop where
  st : CSt w0 w c dp N K (X4 B C a b)
  b10 : w.heap[B]? = some (.cells ob 40 (0, 0))
  b11 : w.heap[C]? = some (.cells #[.int .i64 tx, a, b] 49 (0, 0))
  ra : Byts a d w
  rb : Nums b hh w
  mine : ∀ k, X4 B C a b k → w0.heap.size ≤ k
theorem m2_start {w0 wr w2 : World} {c dp N : Nat} {K : Nat → MS} {ob : Array Value} {tx : Int} {a b : Value} {d : List UInt8} {hh : List Int} (h : CSt w0 wr c dp N K NoBlock) (t : Turn NoBlock (wr.alloc (.cells ob 40)) w2) (ha : Byts a d w2) (hb : Nums b hh w2) (hf : ∀ k, Blk a k ∨ Blk b k → wr.heap.size + 1 ≤ k) : M2 w0 (w2.alloc (.cells #[.int .i64 tx, a, b] 49)) c dp N K wr.heap.size w2.heap.size ob tx a b d hh := by
  have hs := t.size
  simp at hs
  have t2 : Turn NoBlock w2 (w2.alloc (.cells #[.int .i64 tx, a, b] 49)) := (Turn.refl _ _).alloc _
  have t3 : Turn NoBlock wr w2 := TT ((Turn.refl _ _).alloc _) t
  have hlt : ∀ k, X4 wr.heap.size w2.heap.size a b k → wr.heap.size ≤ k ∧ k < (w2.alloc (.cells #[.int .i64 tx, a, b] 49)).heap.size := fun k hk => by
    rcases hk with rfl | rfl | hk | hk
    · simp; omega
    · simp; omega
    · have := WRow.lt ha hk; have := hf k (.inl hk); simp; omega
    · have := WRow.lt hb hk; have := hf k (.inr hk); simp; omega
  refine ⟨h.more (TT t3 t2) (fun k hk => .inr (hlt k hk)) (fun k hk => hk.elim), t2.heap (t.heap (heap_alloc_new wr _) (fun h => h)) (fun h => h), heap_alloc_new w2 _, ha.past t2, hb.past t2, fun k hk => ?_⟩
  have := (hlt k hk).1
  have := h.turn.size
  omega
theorem M2.ne {w0 w : World} {c dp N B C : Nat} {K : Nat → MS} {ob : Array Value} {tx : Int} {a b : Value} {d : List UInt8} {hh : List Int} (h : M2 w0 w c dp N K B C ob tx a b d hh) : ¬ Blk b B ∧ ¬ Blk b C ∧ (∀ k, Blk a k → ¬ Blk b k) :=
  ⟨blk_typed h.rb ⟨_, h.b10⟩ (by decide), blk_typed h.rb ⟨_, h.b11⟩ (by decide), blks_typed h.ra h.rb (by decide)⟩
theorem m2_set {w0 w : World} {c dp N B C : Nat} {K : Nat → MS} {ob : Array Value} {tx : Int} {a : Value} {g o cb nx j : Nat} {d : List UInt8} {hh : List Int} (h : M2 w0 w c dp N K B C ob tx a (.slice (some ⟨g, o, none⟩) hh.length cb) d (rng nx j hh)) (hj : j < hh.length) :
    M2 w0 (w.setCell ⟨g, o + j, none⟩ (.int .i64 ((nx + j : Nat) : Int))) c dp N K B C ob tx a (.slice (some ⟨g, o, none⟩) hh.length cb) d (rng nx (j + 1) hh) := by
  have t : Turn (Blk (.slice (some ⟨g, o, none⟩) hh.length cb)) w (w.setCell ⟨g, o + j, none⟩ (.int .i64 ((nx + j : Nat) : Int))) := (Turn.refl _ w).setCell (p := ⟨g, o + j, none⟩) (.inl (by simp [Blk, Value.ownBlock])) _
  obtain ⟨n1, n2, n3⟩ := h.ne
  refine ⟨h.st.more (t.mono (fun k hk => .inl (.inr (.inr (.inr hk))))) (fun k hk => .inl hk) h.mine, t.heap h.b10 n1, t.heap h.b11 n2, h.ra.kept t n3, ?_, h.mine⟩
  have hr := h.rb
  unfold Nums at hr ⊢
  rw [rng_len (by omega)] at hr ⊢
  have := wrow_set hr hj (.int .i64 ((nx + j : Nat) : Int))
  rw [show (icells (rng nx j hh)).set j (.int .i64 ((nx + j : Nat) : Int)) = icells (rng nx (j + 1) hh) by unfold icells; rw [← List.map_set, rng_set hj]] at this
  exact this
theorem hl_new {K : Nat → MS} {nx n : Nat} (h1 : (HL K).Nodup) (h2 : ∀ x ∈ HL K, 0 ≤ x ∧ x < (nx : Int)) : (HL K ++ (List.range n).map (fun i => ((nx + i : Nat) : Int))).Nodup ∧ ∀ x ∈ HL K ++ (List.range n).map (fun i => ((nx + i : Nat) : Int)), 0 ≤ x ∧ x < ((nx + n : Nat) : Int) := by
  constructor
  · rw [List.nodup_append]
    refine ⟨h1, ?_, fun a ha b hb e => ?_⟩
    · exact List.Pairwise.map _ (fun a b h e => h (by omega)) List.nodup_range
    · obtain ⟨i, hi, rfl⟩ := List.mem_map.1 hb
      have := (h2 a ha).2
      omega
  · intro x hx
    rcases List.mem_append.1 hx with h | h
    · have := h2 x h; omega
    · obtain ⟨i, hi, rfl⟩ := List.mem_map.1 h
      have := List.mem_range.1 hi
      omega
section
variable {w0 w : World} {c d i I O nx N n : Nat} {K K' : Nat → MS} {X : Nat → Prop}
theorem ks_same (h : CSt w0 w c d N K X) (hN : N ≤ 2 * (i + 1)) (h1 : (HL K).Nodup) (h2 : ∀ x ∈ HL K, 0 ≤ x ∧ x < (nx : Int)) (h3 : I = O + (HL K).length) (h4 : nx ≤ 80 * i) (h5 : I ≤ 80 * i) (hn : n ≤ 80) : KS w0 w c d (i + 1) I O (nx + n) :=
  ⟨⟨N, K, hN, h.fewer (fun k hk => hk.elim), h1, fun x hx => by have := h2 x hx; omega, h3⟩, by omega, by omega⟩
theorem ks_more (h : CSt w0 w c d N K' X) (hN : N ≤ 2 * (i + 1)) (hp : (HL K').Perm (HL K ++ (List.range n).map (fun i => ((nx + i : Nat) : Int)))) (h1 : (HL K).Nodup) (h2 : ∀ x ∈ HL K, 0 ≤ x ∧ x < (nx : Int)) (h3 : I = O + (HL K).length) (h4 : nx ≤ 80 * i) (h5 : I ≤ 80 * i) (hn : n ≤ 80) : KS w0 w c d (i + 1) (I + n) O (nx + n) := by
  obtain ⟨g1, g2⟩ := hl_new (n := n) h1 h2
  refine ⟨⟨N, K', hN, h.fewer (fun k hk => hk.elim), hp.nodup_iff.2 g1, fun x hx => g2 x (hp.mem_iff.1 hx), ?_⟩, by omega, by omega⟩
  rw [hp.length_eq, List.length_append, List.length_map, List.length_range]
  omega
theorem ks_less {l : List Int} (h : CSt w0 w c d N K' X) (hN : N ≤ 2 * (i + 1)) (hp : (HL K).Perm (l ++ HL K')) (h1 : (HL K).Nodup) (h2 : ∀ x ∈ HL K, 0 ≤ x ∧ x < (nx : Int)) (h3 : I = O + (HL K).length) (h4 : nx ≤ 80 * i) (h5 : I ≤ 80 * i) (hn : n ≤ 80) : KS w0 w c d (i + 1) I (O + l.length) (nx + n) := by
  have g1 := hp.nodup_iff.1 h1
  rw [List.nodup_append] at g1
  refine ⟨⟨N, K', hN, h.fewer (fun k hk => hk.elim), g1.2.1, fun x hx => ?_, ?_⟩, by omega, by omega⟩
  · have := h2 x (hp.mem_iff.2 (List.mem_append_right _ hx)); omega
  · have := hp.length_eq
    rw [List.length_append] at this
    omega
end
end Go.Proofs.Ytcbphfpfdfgehaa
