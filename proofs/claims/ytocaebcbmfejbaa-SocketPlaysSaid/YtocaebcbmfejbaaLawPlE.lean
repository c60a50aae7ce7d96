/-
  SocketPlays' walk: what Shut and Close leave of the reference. No conditions.
-/
import Derived.Test.YtocaebcbmfejbaaLawPlS
namespace Go.Proofs.Ytocaebcbmfejbaa
open Go.RowKit
theorem box_cells {w : World} {B : Nat} {a0 a1 a2 a3 a4 a5 : Value} {t : TypeId} (h : w.heap[B]? = some (.cells #[a0, a1, a2, a3, a4, a5] t (0, 0))) : w.cell? ⟨B, 0, none⟩ = some a0 ∧ w.cell? ⟨B, 1, none⟩ = some a1 ∧ w.cell? ⟨B, 2, none⟩ = some a2 ∧ w.cell? ⟨B, 3, none⟩ = some a3 ∧ w.cell? ⟨B, 4, none⟩ = some a4 ∧ w.cell? ⟨B, 5, none⟩ = some a5 := by
  refine ⟨?_, ?_, ?_, ?_, ?_, ?_⟩ <;> (rw [cell_at h]; rfl)
theorem cl_same (K : Nat → En) (en : Int) : stI K en ≠ 0 → clI K en = K := by
  intro h0
  unfold clI closeK
  unfold stI shutS at h0
  by_cases e0 : en = 0
  · rw [if_pos e0] at h0 ⊢
    cases ho : (K 0).op <;> simp [ho] at h0 ⊢
  · by_cases e1 : en = 1
    · rw [if_neg e0, if_pos e1] at h0 ⊢
      cases ho : (K 1).op <;> simp [ho] at h0 ⊢
    · rw [if_neg e0, if_neg e1]
theorem sh_same (K : Nat → En) (en : Int) (a b : Bool) : stI K en ≠ 0 → shI K en a b = K := by
  intro h0
  unfold shI shutK
  unfold stI shutS at h0
  by_cases e0 : en = 0
  · rw [if_pos e0] at h0 ⊢
    cases ho : (K 0).op <;> simp [ho] at h0 ⊢
  · by_cases e1 : en = 1
    · rw [if_neg e0, if_pos e1] at h0 ⊢
      cases ho : (K 1).op <;> simp [ho] at h0 ⊢
    · rw [if_neg e0, if_neg e1]
theorem UB.le {w : World} {v : Value} {n : Nat} (h : UB w v n) : n ≤ maxLen := by
  obtain ⟨xs, h1, h2⟩ := h
  by_cases h0 : 0 < n
  · obtain ⟨g, o, ca, -, a1, a2, -⟩ := h1.shape h0
    omega
  · unfold maxLen; omega
section
variable {w0 w wa wb wc : World} {c x room : Nat} {dg : Bool} {Y : Nat → Prop} {K K1 : Nat → En} {C M D : Nat → Bool} {U : Nat → Value} {Q : Nat → Pcs}
theorem turn_one {F : Nat → Prop} {p1 : Addr} {u1 : Value} (h1 : F p1.block) (t : Turn NoBlock w wa) (t2 : Turn NoBlock (wa.setCell p1 u1) wb) : Turn F w wb :=
  ((t.mono (fun _ hk => hk.elim)).setCell (.inl h1) _).trans t2 (fun _ hk => hk.elim)
theorem turn_two {F : Nat → Prop} {p1 p2 : Addr} {u1 u2 : Value} (h1 : F p1.block) (h2 : F p2.block) (t : Turn NoBlock w wa) (t2 : Turn NoBlock (wa.setCell p1 u1) wb) (t3 : Turn NoBlock (wb.setCell p2 u2) wc) : Turn F w wc := by
  have a1 : Turn F w (wa.setCell p1 u1) := (t.mono (fun k hk => hk.elim)).setCell (.inl h1) _
  have a2 : Turn F w (wb.setCell p2 u2) := (a1.trans t2 (fun k hk => hk.elim)).setCell (.inl h2) _
  exact a2.trans t3 (fun k hk => hk.elim)
theorem fin_shut0 {a b : Bool} (h : PSt w0 w c x dg room Y (shI K 0 a b) K C M D U Q) (ho : (K 0).op = true) (m d : Bool) (hm : m = (M 0 || a)) (hd : d = (D 0 || b)) (t : Turn NoBlock w wa) (t2 : Turn NoBlock (wa.setCell ⟨x, 4 + 0, none⟩ (.bool m)) wb) (t3 : Turn NoBlock (wb.setCell ⟨x, 6 + 0, none⟩ (.bool d)) wc) : PSx w0 wc c x dg room NoBlock (shI K 0 a b) (shI K 0 a b) := by
  have r1 := ((((h.r.past t).setM (e := 0) (by omega) m).past t2).setD (e := 0) (by omega) d).past t3
  have t4 : Turn (fun k => k = x) w wc := turn_two rfl rfl t t2 t3
  have hr := rel_shut0 h.rel ho a b
  rw [← hm, ← hd] at hr
  exact (pst_set h r1 t4 (fun k hk => hk) hr).fewer (fun k hk => hk.elim)
theorem fin_close0 (h : PSt w0 w c x dg room Y (clI K 0) K C M D U Q) (ho : (K 0).op = true) (t : Turn NoBlock w wa) (t2 : Turn NoBlock (wa.setCell ⟨x, 2 + 0, none⟩ (.bool true)) wb) (t3 : Turn NoBlock (wb.setCell ⟨x, 0, none⟩ (.slice none 0 0)) wc) : PSx w0 wc c x dg room NoBlock (clI K 0) (clI K 0) := by
  have r1 := ((((h.r.past t).setC (e := 0) (by omega) true).past t2).setQ (e := 0) (by omega) (Turn.refl _ _) (u := .slice none 0 0) (l := []) (wrow_nil _ _ _) (fun q hq => (List.not_mem_nil hq).elim)).past t3
  have t4 : Turn (fun k => k = x) w wc := turn_two rfl rfl t t2 t3
  refine (pst_set h r1 t4 (fun k hk => ?_) (rel_close0 h.rel ho)).fewer (fun k hk => hk.elim)
  rcases hk with hk | ⟨e, he, hk⟩ | ⟨e, he, q, hq, hk⟩
  · exact .inl hk
  · by_cases h1 : e = 0
    · subst h1; rw [updN_same] at hk; exact (blk_nil k hk).elim
    · rw [updN_other _ _ h1] at hk; exact .inr (.inl ⟨e, he, hk⟩)
  · by_cases h1 : e = 0
    · subst h1; rw [updN_same] at hq; exact (List.not_mem_nil hq).elim
    · rw [updN_other _ _ h1] at hq; exact .inr (.inr ⟨e, he, q, hq, hk⟩)
theorem fin_shut1 {a b : Bool} (h : PSt w0 w c x dg room Y (shI K 1 a b) K C M D U Q) (ho : (K 1).op = true) (m d : Bool) (hm : m = (M 1 || a)) (hd : d = (D 1 || b)) (t : Turn NoBlock w wa) (t2 : Turn NoBlock (wa.setCell ⟨x, 4 + 1, none⟩ (.bool m)) wb) (t3 : Turn NoBlock (wb.setCell ⟨x, 6 + 1, none⟩ (.bool d)) wc) : PSx w0 wc c x dg room NoBlock (shI K 1 a b) (shI K 1 a b) := by
  have r1 := ((((h.r.past t).setM (e := 1) (by omega) m).past t2).setD (e := 1) (by omega) d).past t3
  have t4 : Turn (fun k => k = x) w wc := turn_two rfl rfl t t2 t3
  have hr := rel_shut1 h.rel ho a b
  rw [← hm, ← hd] at hr
  exact (pst_set h r1 t4 (fun k hk => hk) hr).fewer (fun k hk => hk.elim)
theorem fin_close1 (h : PSt w0 w c x dg room Y (clI K 1) K C M D U Q) (ho : (K 1).op = true) (t : Turn NoBlock w wa) (t2 : Turn NoBlock (wa.setCell ⟨x, 2 + 1, none⟩ (.bool true)) wb) (t3 : Turn NoBlock (wb.setCell ⟨x, 1, none⟩ (.slice none 0 0)) wc) : PSx w0 wc c x dg room NoBlock (clI K 1) (clI K 1) := by
  have r1 := ((((h.r.past t).setC (e := 1) (by omega) true).past t2).setQ (e := 1) (by omega) (Turn.refl _ _) (u := .slice none 0 0) (l := []) (wrow_nil _ _ _) (fun q hq => (List.not_mem_nil hq).elim)).past t3
  have t4 : Turn (fun k => k = x) w wc := turn_two rfl rfl t t2 t3
  refine (pst_set h r1 t4 (fun k hk => ?_) (rel_close1 h.rel ho)).fewer (fun k hk => hk.elim)
  rcases hk with hk | ⟨e, he, hk⟩ | ⟨e, he, q, hq, hk⟩
  · exact .inl hk
  · by_cases h1 : e = 1
    · subst h1; rw [updN_same] at hk; exact (blk_nil k hk).elim
    · rw [updN_other _ _ h1] at hk; exact .inr (.inl ⟨e, he, hk⟩)
  · by_cases h1 : e = 1
    · subst h1; rw [updN_same] at hq; exact (List.not_mem_nil hq).elim
    · rw [updN_other _ _ h1] at hq; exact .inr (.inr ⟨e, he, q, hq, hk⟩)
end
end Go.Proofs.Ytocaebcbmfejbaa
