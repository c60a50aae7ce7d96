/-
  What the document's port answers to Take and Watch. No conditions but that its lists are no longer than a million.
-/
import Derived.Test.YtcnellkoejhofaaRSmall
import Derived.Deep.RegionLaw
namespace Go.Proofs.Ytcnellkoejhofaa
open Go.ChangeShapes Go.WideShapes Go.ChangeAt Go.RowKit

theorem rk3 {W : World} {g : Nat} {a b d : Value} (h : W.heap[g]? = some (.cells #[a, b, d] 40 (0, 0))) : W.cell? ⟨g, 0, none⟩ = some a ∧ W.cell? ⟨g, 1, none⟩ = some b ∧ W.cell? ⟨g, 2, none⟩ = some d := ⟨cell_at h 0, cell_at h 1, cell_at h 2⟩
theorem rset3_heap {W : World} {g : Nat} {a b d a' b' d' : Value} (h : W.heap[g]? = some (.cells #[a, b, d] 40 (0, 0))) : (set3 W g a' b' d').heap[g]? = some (.cells #[a', b', d'] 40 (0, 0)) :=
  set_at (set_at (set_at h 0 a') 1 b') 2 d'
section
variable {w w' : World} {x : Nat} {depth most : Int} {vq vw vq' vw' : Value} {Q Q' : List Pk} {Ws Ws' : List Wc}
set_option maxRecDepth 20000 in
set_option maxHeartbeats 1000000 in
theorem rtake (h : RM w x depth most vq vw Q Ws) : Calls Try.prog 13 #[.pointer (some ⟨x, 0, none⟩)] w fun e w' => e = .returned (.tuple #[(takP Q).agg, .int .i64 (takS Q)]) ∧ RMade w w' x depth most vq vw Q.tail Ws := by
  have hz := heap_alloc_new w (.cells #[.int .i64 0, .int .i64 0, .int .i64 0] 40)
  have tz : Turn NoBlock w (w.alloc (.cells #[.int .i64 0, .int .i64 0, .int .i64 0] 40)) := (Turn.refl _ w).alloc _
  obtain ⟨W1, hW1⟩ : ∃ W1, w.alloc (.cells #[.int .i64 0, .int .i64 0, .int .i64 0] 40) = W1 := ⟨_, rfl⟩
  have hsz : W1.heap.size = w.heap.size + 1 := by rw [← hW1]; simp
  rw [hW1] at hz tz
  cases Q with
  | nil =>
    obtain ⟨p, cap, rfl⟩ := WRow.sl h.q
    have c0 := (h.past tz).hd.c0
    simp only [List.length_nil] at c0
    obtain ⟨z0, z1, z2⟩ := rk3 hz
    have g0 := free_at hz 0
    have g1 := free_at hz 1
    have g2 := free_at hz 2
    obtain ⟨y0, y1, y2⟩ := rk3 (rset3_heap (a' := .int .i64 0) (b' := .int .i64 0) (d' := .int .i64 0) hz)
    have HM := Lib.hid (h.made (tz.trans (set3_turn W1 w.heap.size (.int .i64 0) (.int .i64 0) (.int .i64 0)) (fun k hk => .inr (by omega))))
    unfold set3 at y0 y1 y2 HM
    clear h hz tz hsz
    go_enter Try.func13, Try.ntmps13
    go_wp2
    refine bodyPost_ret (v := .tuple #[.agg #[.int .i64 0, .int .i64 0, .int .i64 0], .int .i64 (-22)]) (by rw [results_ct rfl]; go_simp) rfl ⟨rfl, HM.out⟩
  | cons q r =>
    obtain ⟨k, s, n⟩ := q
    have hq := h.q
    obtain ⟨g, o, cap, rfl, hnc, hcm, hty, -, -⟩ := WRow.shape hq (by simp)
    have hxl := h.hd.typ.lt
    obtain ⟨D, hs1, hD, hD1⟩ := sl_lo 27 3 elem_rp size_rp g o (r.length + 1) cap 1 (by omega) hnc
    have hs2 : ∀ w, Sem.run Try.prog (Instr.slice 27 (.slice (some ⟨g, o, none⟩) (r.length + 1) cap) (some (.int .i64 1)) none none) w = .ok (.slice D r.length (cap - 1)) w := hs1
    have hdr : WRow w 40 3 (.slice D r.length (cap - 1)) r.length ((pcells (⟨k, s, n⟩ :: r)).drop 3) := by
      unfold BRow at hq
      simp only [List.length_cons] at hq
      exact hq.behind (fun hc => by have := hD hc; rw [Nat.one_mul] at this; exact this) hD1
    have hdr' : BRow (.slice D r.length (cap - 1)) r w := by
      have := fl_drop Pk.cells 3 (fun _ => rfl) (⟨k, s, n⟩ :: r) 1
      rw [Nat.one_mul] at this
      unfold pcells at hdr
      rw [this] at hdr
      exact hdr
    have hDb : ∀ j, Blk (.slice D r.length (cap - 1)) j → Blk (.slice (some ⟨g, o, none⟩) (r.length + 1) cap) j := by
      intro j hj
      by_cases hc : 1 < cap
      · rw [hD hc] at hj; simpa [Blk, Value.ownBlock] using hj
      · rw [hD1 (by simp only [List.length_cons] at hnc; omega)] at hj; simpa [Blk, Value.ownBlock] using hj
    obtain ⟨q0, q1, q2⟩ := (hq.past tz).three (j := 0) (t := ⟨k, s, n⟩) rfl
    simp only [Nat.zero_mul, Nat.add_zero] at q0 q1 q2
    have c0 := (h.past tz).hd.c0
    simp only [List.length_cons] at c0
    obtain ⟨W2, hW2⟩ : ∃ W2, W1.alloc (.cells #[.int .i64 k, .int .i64 s, .int .i64 n] 40) = W2 := ⟨_, rfl⟩
    have t2 : Turn NoBlock W1 W2 := by rw [← hW2]; exact (Turn.refl _ _).alloc _
    have hb2 : W2.heap[w.heap.size + 1]? = some (.cells #[.int .i64 k, .int .i64 s, .int .i64 n] 40 (0, 0)) := by rw [← hW2, ← hsz]; exact heap_alloc_new W1 _
    have hz2 := t2.heap hz (fun h => h)
    have H2 := h.past (TT tz t2)
    obtain ⟨e2, f2, hM, hF, hT⟩ := H2.setq (W := W2) (Turn.refl _ _) (hdr'.past (TT tz t2)) (fun k hk => .inl (hDb k hk))
    simp only [List.length_cons] at e2
    obtain ⟨W3, hW3⟩ : ∃ W3, W2.setCell ⟨x, 0, none⟩ (.slice D r.length (cap - 1)) = W3 := ⟨_, rfl⟩
    have t3 : Turn (fun j => j = x) W2 W3 := by rw [← hW3]; exact turn_c _ _ _ _
    rw [hW3] at hM hT
    have hz3 := t3.heap hz2 (by omega)
    have hb3 := t3.heap hb2 (by omega)
    obtain ⟨x0, x1, x2⟩ := rk3 hb3
    obtain ⟨z0, z1, z2⟩ := rk3 hz3
    have g0 := free_at hz3 0
    have g1 := free_at hz3 1
    have g2 := free_at hz3 2
    obtain ⟨y0, y1, y2⟩ := rk3 (rset3_heap (a' := .int .i64 k) (b' := .int .i64 s) (d' := .int .i64 n) hz3)
    have t5 := set3_turn W3 w.heap.size (.int .i64 k) (.int .i64 s) (.int .i64 n)
    have HM := Lib.hid (show RMade w (set3 W3 w.heap.size (.int .i64 k) (.int .i64 s) (.int .i64 n)) x depth most (.slice (some ⟨g, o, none⟩) (r.length + 1) cap) vw r Ws from
      ⟨_, _, hM.kept t5 (fun j hj e => by
        have hj2 : RFoot x (.slice (some ⟨g, o, none⟩) (r.length + 1) cap) vw j := hj.imp id (fun h => h.imp (hDb j) id)
        have := h.lt hj2
        omega), fun j hj => .inl (hj.imp id (fun h => h.imp (hDb j) id)), ((TU (TT tz t2)).trans hT (fun _ h => .inl h)).trans t5 (fun j hj => .inr (by omega))⟩)
    unfold set3 at y0 y1 y2 HM
    clear h hz tz hty hdr hdr' hDb hD hD1 t2 hb2 hz2 t3 hz3 hb3 t5 hnc hcm hs1 hq H2 hM hF hT
    go_enter Try.func13, Try.ntmps13
    go_wp2
    refine bodyPost_ret (v := .tuple #[.agg #[.int .i64 k, .int .i64 s, .int .i64 n], .int .i64 0]) (by rw [results_ct rfl]; go_simp) rfl ⟨rfl, HM.out⟩
set_option maxRecDepth 20000 in
set_option maxHeartbeats 1000000 in
theorem rwatch (h : RM w x depth most vq vw Q Ws) (ok : POk depth most Q Ws) (o k m : Int) : Calls Try.prog 16 #[.pointer (some ⟨x, 0, none⟩), .int .i64 o, .int .i64 k, .int .i64 m] w fun e w' => e = .returned (.int .i64 (watS most Q Ws o m)) ∧ RMade w w' x depth most vq vw Q (watL most Q Ws o k m) := by
  by_cases hb : o < 1 ∨ m = 0
  · have hs : watS most Q Ws o m = -10 := by unfold watS; rw [if_pos hb]
    unfold watL
    rw [hs, if_neg (by omega)]
    have HM := Lib.hid (h.made (Turn.refl _ _))
    clear h ok hs
    by_cases hb1 : o < 1
    · clear hb
      go_enter Try.func16, Try.ntmps16
      go_wp2
      go_ret
      exact ⟨rfl, HM.out⟩
    · have hm : m = 0 := hb.resolve_left hb1
      subst hm
      clear hb
      go_enter Try.func16, Try.ntmps16
      go_wp2
      go_ret
      exact ⟨rfl, HM.out⟩
  · have hb1 : ¬ o < 1 := fun e => hb (.inl e)
    have hb2 : (m == 0) = false := by simp; exact fun e => hb (.inr e)
    have hq0 := ok.qlen
    have hw0 := ok.wlen
    have hu0 := usersN_le Q
    have hfd := ok.fired
    have tD : Turn NoBlock w w.drew := (Turn.refl NoBlock w).drew
    have CU := Lib.hid (fun W (t : Turn NoBlock w W) => rusers (h.past t) (by omega))
    have c0 := (h.past tD).hd.c0
    have c1 := (h.past tD).hd.c1
    have c3 := (h.past tD).hd.c3
    obtain ⟨pq, cq, rfl⟩ := WRow.sl h.q
    obtain ⟨pw, cw, rfl⟩ := WRow.sl h.ws
    by_cases hf : (Ws.length : Int) + ((Q.length : Int) - (usersN Q : Int)) = most
    · have hs : watS most Q Ws o m = -4 := by unfold watS; rw [if_neg hb, if_pos hf]
      unfold watL
      rw [hs, if_neg (by omega)]
      have HM := Lib.hid (h.made tD)
      have hwa : IntKind.i64.wrap ((Ws.length : Int) + (Q.length : Int)) = (Ws.length : Int) + (Q.length : Int) := by have := wrap_nat (Ws.length + Q.length) (by omega); rw [show ((Ws.length + Q.length : Nat) : Int) = (Ws.length : Int) + (Q.length : Int) by omega] at this; exact this
      have hwb : IntKind.i64.wrap ((Ws.length : Int) + (Q.length : Int) - (usersN Q : Int)) = (Ws.length : Int) + (Q.length : Int) - (usersN Q : Int) := by have := wrap_nat (Ws.length + Q.length - usersN Q) (by omega); rw [show ((Ws.length + Q.length - usersN Q : Nat) : Int) = (Ws.length : Int) + (Q.length : Int) - (usersN Q : Int) by omega] at this; exact this
      have hge : decide (most ≤ (Ws.length : Int) + (Q.length : Int) - (usersN Q : Int)) = true := by simp; omega
      generalize Q.length = q at *
      generalize usersN Q = u at *
      generalize Ws.length = y at *
      clear h ok hs hb hf hfd tD
      go_enter Try.func16, Try.ntmps16
      go_wp2
      go_region_held3 (fun W => W.cell? ⟨x, 0, none⟩ = some (.slice pq q cq) ∧ W.cell? ⟨x, 1, none⟩ = some (.slice pw y cw) ∧ W.cell? ⟨x, 3, none⟩ = some (.int .i64 most)) (exact ⟨c0, c1, c3⟩)
        ((go_at_call 28; (with_reducible refine (CU.out _ ((Turn.refl NoBlock w).drew)).mono ?_); rintro e w2 ⟨rfl, rfl⟩))
      go_wp2
      go_ret
      exact ⟨rfl, HM.out⟩
    · have hs : watS most Q Ws o m = 0 := by unfold watS; rw [if_neg hb, if_neg hf]
      unfold watL
      rw [hs, if_pos rfl]
      obtain ⟨p, nn, cap, p', cap', W1, hv, hn, hap, hrow, htn, hbl⟩ := (h.past tD).ws.push ⟨o, k, m⟩ (by omega)
      obtain ⟨e2, f2, hM, hF, hT⟩ := (h.past tD).setw htn hrow hbl
      have d1 := (h.past (tD.alloc (.cells #[.int .i64 o, .int .i64 k, .int .i64 m] 51))).hd.c1
      have HM := Lib.hid (show RMade w (W1.setCell ⟨x, 1, none⟩ (.slice p' (nn + 1) cap')) x depth most (.slice pq Q.length cq) (.slice pw Ws.length cw) Q (Ws ++ [⟨o, k, m⟩]) from ⟨_, _, hM, hF, (TU tD).trans hT (fun _ h => .inl h)⟩)
      simp only [Value.slice.injEq] at hv
      obtain ⟨rfl, -, rfl⟩ := hv
      have hwa : IntKind.i64.wrap ((Ws.length : Int) + (Q.length : Int)) = (Ws.length : Int) + (Q.length : Int) := by have := wrap_nat (Ws.length + Q.length) (by omega); rw [show ((Ws.length + Q.length : Nat) : Int) = (Ws.length : Int) + (Q.length : Int) by omega] at this; exact this
      have hwb : IntKind.i64.wrap ((Ws.length : Int) + (Q.length : Int) - (usersN Q : Int)) = (Ws.length : Int) + (Q.length : Int) - (usersN Q : Int) := by have := wrap_nat (Ws.length + Q.length - usersN Q) (by omega); rw [show ((Ws.length + Q.length - usersN Q : Nat) : Int) = (Ws.length : Int) + (Q.length : Int) - (usersN Q : Int) by omega] at this; exact this
      have hge : decide (most ≤ (Ws.length : Int) + (Q.length : Int) - (usersN Q : Int)) = false := by simp; omega
      subst hn
      dsimp only at hap
      generalize Q.length = q at *
      generalize usersN Q = u at *
      generalize Ws.length = y at *
      clear h ok hs hb hf hfd hrow htn hbl hM hF hT tD
      go_enter Try.func16, Try.ntmps16
      go_wp2
      go_region_held3 (fun W => W.cell? ⟨x, 0, none⟩ = some (.slice pq q cq) ∧ W.cell? ⟨x, 1, none⟩ = some (.slice pw y cw) ∧ W.cell? ⟨x, 3, none⟩ = some (.int .i64 most)) (exact ⟨c0, c1, c3⟩)
        ((go_at_call 28; (with_reducible refine (CU.out _ ((Turn.refl NoBlock w).drew)).mono ?_); rintro e w2 ⟨rfl, rfl⟩))
      go_wp2_with (at_builtin; refine wpList_append_run (by rfl) (.tmp 38) (.tmp 43) 28 28 (by rfl) _ _ (by rfl) (by rfl) _ _ (hap _) ?_)
      go_ret
      exact ⟨rfl, HM.out⟩
end
end Go.Proofs.Ytcnellkoejhofaa
