/-
  Info and Exit of a tree in a law's state. Conditions: there are fewer tasks than a million.
-/
import Derived.Test.YtabakjimlndhcaaTkPol
namespace Go.Proofs.Ytabakjimlndhcaa
open Go.ChangeShapes Go.WideShapes Go.ChangeAt Go.RowKit

theorem results_ct {fn : Func} {p u : Tmp} {ty : TypeId} (h : fn.results = #[.cell p ty, .tmp u]) (tmps : Array Value) (P : Program) (w : World) :
    (results fn tmps).run P w =
      ((asAddr (tmps.getD p undef)).run P w).andThen fun a w₁ => ((loadVar ty a).run P w₁).andThen fun v w₂ => .ok (.tuple #[v, tmps.getD u undef]) w₂ := by
  simp only [results, h]
  simp [Sem.run_bind, Result.andThen]
section
variable {w0 w w' : World} {c n p q j i : Nat} {most code : Int} {T T' : Nat → Tk} {sv : Value} {B : Nat → Nat} {V : Nat → Value} {G G' : Nat → Nat} {X : Nat → Prop}
def infoT (n : Nat) (T : Nat → Tk) (id : Int) : Tk := if inN n id = true then T (plc id) else ⟨0, 0, 0, 0, 0, 0⟩
def set6 (W : World) (b : Nat) (t : Tk) : World := (((((W.setCell ⟨b, 0, none⟩ (.int .i64 t.kind)).setCell ⟨b, 1, none⟩ (.int .i64 t.par)).setCell ⟨b, 2, none⟩ (.int .i64 t.st)).setCell ⟨b, 3, none⟩ (.int .i64 t.code)).setCell ⟨b, 4, none⟩ (.int .i64 t.pol)).setCell ⟨b, 5, none⟩ (.int .i64 t.crit)
theorem set6_heap {W : World} {b : Nat} {v0 v1 v2 v3 v4 v5 : Value} {e : TypeId} (h : W.heap[b]? = some (.cells #[v0, v1, v2, v3, v4, v5] e (0, 0))) (t : Tk) :
    (set6 W b t).heap[b]? = some (.cells #[.int .i64 t.kind, .int .i64 t.par, .int .i64 t.st, .int .i64 t.code, .int .i64 t.pol, .int .i64 t.crit] e (0, 0)) := by
  have := set_at (set_at (set_at (set_at (set_at (set_at h 0 (.int .i64 t.kind)) 1 (.int .i64 t.par)) 2 (.int .i64 t.st)) 3 (.int .i64 t.code)) 4 (.int .i64 t.pol)) 5 (.int .i64 t.crit)
  unfold set6
  simpa using this
theorem set6_turn (W : World) (b : Nat) (t : Tk) : Turn (fun k => k = b) W (set6 W b t) :=
  ((((((Turn.refl (fun k => k = b) W).setCell (p := ⟨b, 0, none⟩) (.inl rfl) _).setCell (p := ⟨b, 1, none⟩) (.inl rfl) _).setCell (p := ⟨b, 2, none⟩) (.inl rfl) _).setCell (p := ⟨b, 3, none⟩) (.inl rfl) _).setCell (p := ⟨b, 4, none⟩) (.inl rfl) _).setCell (p := ⟨b, 5, none⟩) (.inl rfl) _
theorem six {W : World} {b : Nat} {v0 v1 v2 v3 v4 v5 : Value} {e : TypeId} (h : W.heap[b]? = some (.cells #[v0, v1, v2, v3, v4, v5] e (0, 0))) :
    (W.cell? ⟨b, 0, none⟩ = some v0 ∧ W.cell? ⟨b, 1, none⟩ = some v1 ∧ W.cell? ⟨b, 2, none⟩ = some v2 ∧ W.cell? ⟨b, 3, none⟩ = some v3 ∧ W.cell? ⟨b, 4, none⟩ = some v4 ∧ W.cell? ⟨b, 5, none⟩ = some v5) ∧
    (W.frozen? ⟨b, 0, none⟩ = false ∧ W.frozen? ⟨b, 1, none⟩ = false ∧ W.frozen? ⟨b, 2, none⟩ = false ∧ W.frozen? ⟨b, 3, none⟩ = false ∧ W.frozen? ⟨b, 4, none⟩ = false ∧ W.frozen? ⟨b, 5, none⟩ = false) :=
  ⟨⟨cell_at h 0, cell_at h 1, cell_at h 2, cell_at h 3, cell_at h 4, cell_at h 5⟩, free_at h 0, free_at h 1, free_at h 2, free_at h 3, free_at h 4, free_at h 5⟩
set_option maxRecDepth 20000 in
theorem KSt.info (h : KSt w0 w c most n T X) (hn : n ≤ 1000000) (id : Int) : Calls Try.prog 36 #[tp c, .int .i64 id] w fun x w' => x = .returned (.tuple #[(infoT n T id).agg, .bool (inN n id)]) ∧ Turn NoBlock w w' := by
  obtain ⟨sv, B, V, G, h1, h4, h5⟩ := h.ex
  obtain ⟨W, hW⟩ : ∃ W, w.alloc (.cells #[.int .i64 0, .int .i64 0, .int .i64 0, .int .i64 0, .int .i64 0, .int .i64 0] 76) = W := ⟨_, rfl⟩
  have tW : Turn NoBlock w W := by rw [← hW]; exact (Turn.refl _ _).alloc _
  have hb := heap_alloc_new w (.cells #[.int .i64 0, .int .i64 0, .int .i64 0, .int .i64 0, .int .i64 0, .int .i64 0] 76)
  rw [hW] at hb
  obtain ⟨⟨z0, z1, z2, z3, z4, z5⟩, g0, g1, g2, g3, g4, g5⟩ := six hb
  obtain ⟨⟨y0, y1, y2, y3, y4, y5⟩, -⟩ := six (set6_heap hb (infoT n T id))
  have HT := Lib.hid (tW.trans (set6_turn W w.heap.size (infoT n T id)) (fun k hk => .inr (by omega)))
  by_cases hin : inN n id = false
  · have C := Lib.hid (find_no (h1.past tW).fm id hin)
    have hi : infoT n T id = ⟨0, 0, 0, 0, 0, 0⟩ := by unfold infoT; rw [if_neg (by rw [hin]; simp)]
    rw [hi] at y0 y1 y2 y3 y4 y5 HT ⊢
    rw [hin]
    unfold set6 at *
    unfold tp Tk.agg at *
    clear h h1 h4 h5 hin hi tW hb
    dsimp only at y0 y1 y2 y3 y4 y5 HT ⊢
    go_enter Try.func36, Try.ntmps36
    go_wp2_with (go_at_call 70; (with_reducible refine C.out.mono ?_); rintro e w2 ⟨rfl, rfl⟩)
    exact bodyPost_ret (v := .tuple #[.agg #[.int .i64 0, .int .i64 0, .int .i64 0, .int .i64 0, .int .i64 0, .int .i64 0], .bool false]) (by rw [results_ct rfl]; go_simp) rfl ⟨rfl, HT.out⟩
  · have hit : inN n id = true := by simpa using hin
    have hp := plc_lt hit
    have C := Lib.hid (find_yes (h1.past tW).fm hn hp)
    rw [← plc_id hit] at C
    have m := h1.past tW
    have o0 := m.o0 hp
    have o1 := m.o1 hp
    have o2 := m.o2 hp
    have o3 := m.o3 hp
    have o4 := m.o4 hp
    have o5 := m.o5 hp
    have hi : infoT n T id = T (plc id) := by unfold infoT; rw [if_pos hit]
    rw [hi] at y0 y1 y2 y3 y4 y5 HT ⊢
    rw [hit]
    have hbw : B (plc id) ≠ w.heap.size := by have := (h1.bt hp).lt; omega
    unfold set6 at *
    unfold tp Tk.agg at *
    clear h h1 h4 h5 hin hi tW hb m hit
    generalize T (plc id) = t at *
    obtain ⟨tk, tpa, ts, tc, tpo, tcr⟩ := t
    dsimp only at *
    go_enter Try.func36, Try.ntmps36
    go_wp2_with (go_at_call 70; (with_reducible refine C.out.mono ?_); rintro e w2 ⟨rfl, rfl⟩)
    exact bodyPost_ret (v := .tuple #[.agg #[.int .i64 tk, .int .i64 tpa, .int .i64 ts, .int .i64 tc, .int .i64 tpo, .int .i64 tcr], .bool true]) (by rw [results_ct rfl]; go_simp) rfl ⟨rfl, HT.out⟩
def exitS (n : Nat) (T : Nat → Tk) (id : Int) : Int := if inN n id = false then -25 else if (T (plc id)).kind ≠ 3 then -12 else if (T (plc id)).st ≠ 1 then -20 else 0
def exitR (n : Nat) (T : Nat → Tk) (id code : Int) : (Nat → Tk) × List Nat :=
  if liveK (die n code T (plc id)).1 n ((T (plc id)).par.toNat - 1) = 0 then
    ((die n code (die n code T (plc id)).1 ((T (plc id)).par.toNat - 1)).1, (die n code T (plc id)).2 ++ (die n code (die n code T (plc id)).1 ((T (plc id)).par.toNat - 1)).2)
  else die n code T (plc id)
def exitT (n : Nat) (T : Nat → Tk) (id code : Int) : Nat → Tk := if exitS n T id = 0 then (exitR n T id code).1 else T
def exitL (n : Nat) (T : Nat → Tk) (id code : Int) : List Int := if exitS n T id = 0 then numL (exitR n T id code).2 else []
theorem KSt.exit (h : KSt w0 w c most n T X) (hn : n ≤ 1000000) (id code : Int) : Calls Try.prog 48 #[tp c, .int .i64 id, .int .i64 code] w fun x w' =>
    ∃ v, x = .returned (.tuple #[v, .int .i64 (exitS n T id)]) ∧ Nums v (exitL n T id code) w' ∧ KSt w0 w' c most n (exitT n T id code) X ∧ Kp X w w' ∧ ∀ k, Blk v k → w.heap.size ≤ k := by
  obtain ⟨sv, B, V, G, h1, h4, h5⟩ := h.ex
  have NIL := Lib.hid (fun (W : World) => (wrow_nil W 3 1 : Nums (.slice none 0 0) [] W))
  have HH := Lib.hid h
  by_cases hin : inN n id = false
  · have hs : exitS n T id = -25 := by unfold exitS; rw [if_pos hin]
    unfold exitT exitL
    rw [hs]
    have C := Lib.hid (find_no h1.fm id hin)
    unfold tp at *
    clear h h1 h4 h5 hin hs
    go_enter Try.func48, Try.ntmps48
    go_wp2_with (go_at_call 70; (with_reducible refine C.out.mono ?_); rintro e w2 ⟨rfl, rfl⟩)
    go_ret2
    exact ⟨_, rfl, NIL.out _, HH.out, Kp.of_past (Turn.refl _ _), fun k hk => (blk_nil k hk).elim⟩
  have hit : inN n id = true := by simpa using hin
  have hp := plc_lt hit
  have hpe := plc_id hit
  have C := Lib.hid (find_yes h1.fm hn hp)
  rw [← hpe] at C
  have o0 := h1.o0 hp
  have o2 := h1.o2 hp
  by_cases hk : (T (plc id)).kind ≠ 3
  · have hs : exitS n T id = -12 := by unfold exitS; rw [if_neg hin, if_pos hk]
    have hkb : ((T (plc id)).kind != 3) = true := by simpa using hk
    unfold exitT exitL
    rw [hs]
    unfold tp at *
    clear h h1 h4 h5 hin hs hit hpe hk
    generalize (T (plc id)).kind = pk at *
    go_enter Try.func48, Try.ntmps48
    go_wp2_with (go_at_call 70; (with_reducible refine C.out.mono ?_); rintro e w2 ⟨rfl, rfl⟩)
    go_ret2
    exact ⟨_, rfl, NIL.out _, HH.out, Kp.of_past (Turn.refl _ _), fun k hk => (blk_nil k hk).elim⟩
  have hk3 : (T (plc id)).kind = 3 := by omega
  rw [hk3] at o0
  by_cases hst : (T (plc id)).st ≠ 1
  · have hs : exitS n T id = -20 := by unfold exitS; rw [if_neg hin, if_neg hk, if_pos hst]
    have hsb : ((T (plc id)).st != 1) = true := by simpa using hst
    unfold exitT exitL
    rw [hs]
    unfold tp at *
    clear h h1 h4 h5 hin hs hit hpe hk hst hk3
    generalize (T (plc id)).st = ps at *
    go_enter Try.func48, Try.ntmps48
    go_wp2_with (go_at_call 70; (with_reducible refine C.out.mono ?_); rintro e w2 ⟨rfl, rfl⟩)
    go_ret2
    exact ⟨_, rfl, NIL.out _, HH.out, Kp.of_past (Turn.refl _ _), fun k hk => (blk_nil k hk).elim⟩
  have hst1 : (T (plc id)).st = 1 := by omega
  rw [hst1] at o2
  have hs : exitS n T id = 0 := by unfold exitS; rw [if_neg hin, if_neg hk, if_neg hst]
  have h0 : 0 < plc id := by
    rcases Nat.eq_zero_or_pos (plc id) with e | e
    · have := h.ok.root.2; rw [e] at hk3; omega
    · exact e
  obtain ⟨i, hi, hpi, -⟩ := h.ok.up _ hp h0
  have hin' : i < n := by omega
  have hpn : (T (plc id)).par.toNat - 1 = i := by omega
  unfold exitT exitL
  rw [hs, if_pos rfl, if_pos rfl]
  unfold exitR
  rw [hpn]
  obtain ⟨he1, hd1⟩ := die_ends h.ok.dok hp code
  have CD := Lib.hid (die_any (told := .slice none 0 0) (pre := []) h1 h.ok.dok hn hp code (wrow_nil w 3 1) (by simp) (fun k hk => (blk_nil k hk).elim))
  rw [← hpe] at CD
  have hlo : (die n code T (plc id)).2.length ≤ 1000000 := by
    have h2 := he1.live
    have h3 : liveN T n ≤ (List.range n).length := List.countP_le_length
    rw [List.length_range] at h3
    omega
  generalize hr : die n code T (plc id) = r at *
  have hpi2 : (r.1 (plc id)).par = (i : Int) + 1 := by rw [(he1.fields _).1]; exact hpi
  have HM := Lib.hid (And.intro h1 (And.intro he1 (And.intro h4 (And.intro h5 (And.intro hpi2 (And.intro hpi hlo))))))
  have HN := Lib.hid (And.intro hin' (And.intro hp hn))
  unfold tp at *
  clear h1 h4 h5 hin hs hit hpe hk hst hk3 hst1 NIL he1 hd1 hpi2 hpi hpn hr hlo
  by_cases hl : liveK r.1 n i = 0
  · rw [if_pos hl]
    clear h
    go_enter Try.func48, Try.ntmps48
    go_upto_region 9 with (first
      | (go_at_call 70; (with_reducible refine C.out.mono ?_); rintro e w2 ⟨rfl, rfl⟩)
      | (go_at_call 78; (with_reducible refine CD.out.mono ?_); rintro e w2 ⟨v, G', rfl, m2⟩; have M2 := Lib.hid m2; clear m2))
    obtain ⟨m, rw2, t2, b2⟩ := M2.out
    obtain ⟨h1, he1, h4, h5, hpi2, hpi, hlo⟩ := HM.out
    have hd2 := he1.ok HH.out.ok.dok
    have CP := Lib.hid (parent_any m HN.out.2.2 HN.out.2.1 HN.out.1 hpi2)
    have Z8 := Lib.hid (fun k => (m.past ((Turn.refl NoBlock w2).drewN k)).o8 HN.out.1)
    have Z1 := Lib.hid (fun k => (m.past ((Turn.refl NoBlock w2).drewN k)).o1 HN.out.2.1)
    rw [hpi2] at Z1
    rw [hl] at Z8
    have CD2 := Lib.hid (fun k => die_any (m.past ((Turn.refl NoBlock w2).drewN k)) hd2 HN.out.2.2 HN.out.1 code (told := v) (pre := [] ++ numL r.2) (rw2.past ((Turn.refl NoBlock w2).drewN k)) (by rw [List.nil_append, numL_len]; omega) (fun k hk hf => by
      rcases b2 k hk with e | e
      · exact blk_nil k e
      · have := h1.lt hf; omega))
    obtain ⟨he2, -⟩ := die_ends hd2 HN.out.1 code
    have FIN := Lib.hid (show ∀ k w' v' G', KMem w' c most n (die n code r.1 i).1 sv B V G' → Nums v' ([] ++ numL r.2 ++ numL (die n code r.1 i).2) w' → Turn (fun k => KCore c n B k ∨ Blk v k) (w2.drewN k) w' → (∀ j, Blk v' j → Blk v j ∨ (w2.drewN k).heap.size ≤ j) →
        Nums v' (numL (r.2 ++ (die n code r.1 i).2)) w' ∧ KSt w0 w' c most n (die n code r.1 i).1 X ∧ Kp X w w' ∧ ∀ k, Blk v' k → w.heap.size ≤ k from fun k w' v' G' m' r' t' b' => by
      have ta : Turn (KFoot c n sv B V) w w2 := t2.mono (fun k hk => .inl (hk.elim core_foot (fun e => (blk_nil k e).elim)))
      have hbv : ∀ j, Blk v j → w.heap.size ≤ j := fun j hj => (b2 j hj).resolve_left (fun e => blk_nil j e)
      have tb : Turn (KFoot c n sv B V) w w' := (ta.drewN k).trans t' (fun j hj => hj.elim (fun e => .inl (core_foot e)) (fun e => .inr (hbv j e)))
      obtain ⟨k1, k2⟩ := kst_made HH.out h4 h5 m' ((HH.out.ok.ends he1).ends he2) (fun k hk => .inl hk) tb
      refine ⟨by rw [numL_app]; exact r', k1, k2, fun j hj => ?_⟩
      rcases b' j hj with e | e
      · exact hbv j e
      · exact Nat.le_trans ta.size e)
    unfold tp at CP CD2
    clear m rw2 t2 b2 h1 he1 h4 h5 hpi2 hpi hlo hd2 he2 hl
    go_wp2_with (first
      | (go_at_call 77; (with_reducible refine CP.out.mono ?_); rintro e w3 ⟨rfl, k, rfl⟩; have y8 := Z8.out k; have y1 := Z1.out k)
      | (go_at_call 78; (with_reducible refine (CD2.out k).mono ?_); rintro e w4 ⟨v', G2, rfl, m4⟩; have M4 := Lib.hid m4; clear m4))
    go_ret2
    exact ⟨v', rfl, FIN.out _ _ _ _ M4.out.1 M4.out.2.1 M4.out.2.2.1 M4.out.2.2.2⟩
  · rw [if_neg hl]
    clear h
    go_enter Try.func48, Try.ntmps48
    go_upto_region 9 with (first
      | (go_at_call 70; (with_reducible refine C.out.mono ?_); rintro e w2 ⟨rfl, rfl⟩)
      | (go_at_call 78; (with_reducible refine CD.out.mono ?_); rintro e w2 ⟨v, G', rfl, m2⟩; have M2 := Lib.hid m2; clear m2))
    obtain ⟨m, rw2, t2, b2⟩ := M2.out
    obtain ⟨h1, he1, h4, h5, hpi2, hpi, hlo⟩ := HM.out
    have CP := Lib.hid (parent_any m HN.out.2.2 HN.out.2.1 HN.out.1 hpi2)
    have Z8 := Lib.hid (fun k => (m.past ((Turn.refl NoBlock w2).drewN k)).o8 HN.out.1)
    have hlb : ((liveK r.1 n i : Int) == 0) = false := by simp; omega
    have FIN := Lib.hid (show ∀ k, Nums v (numL r.2) (w2.drewN k) ∧ KSt w0 (w2.drewN k) c most n r.1 X ∧ Kp X w (w2.drewN k) ∧ ∀ k, Blk v k → w.heap.size ≤ k from fun k => by
      have ta : Turn (KFoot c n sv B V) w w2 := t2.mono (fun k hk => .inl (hk.elim core_foot (fun e => (blk_nil k e).elim)))
      obtain ⟨k1, k2⟩ := kst_made HH.out h4 h5 (m.past ((Turn.refl NoBlock w2).drewN k)) (HH.out.ok.ends he1) (fun k hk => .inl hk) (ta.drewN k)
      exact ⟨rw2.past ((Turn.refl NoBlock w2).drewN k), k1, k2, fun j hj => (b2 j hj).resolve_left (fun e => blk_nil j e)⟩)
    unfold tp at CP
    clear m rw2 t2 b2 h1 he1 h4 h5 hpi2 hpi hlo hl
    generalize liveK r.1 n i = lk at *
    go_wp2_with (go_at_call 77; (with_reducible refine CP.out.mono ?_); rintro e w3 ⟨rfl, k, rfl⟩; have y8 := Z8.out k)
    go_ret2
    exact ⟨v, rfl, FIN.out _⟩
end
end Go.Proofs.Ytabakjimlndhcaa
