/-
  Watch in a law's state. No conditions but that the object is a number of 64 bits.
-/
import Derived.Test.YtcnellkoejhofaaQPk
namespace Go.Proofs.Ytcnellkoejhofaa
open Go.ChangeShapes Go.WideShapes Go.ChangeAt Go.RowKit

def watS (most : Int) (Q : List Pk) (Ws : List Wc) (o m : Int) : Int :=
  if o < 1 ∨ m = 0 then -10 else if (Ws.length : Int) + ((Q.length : Int) - (usersN Q : Int)) = most then -4 else 0
def watL (most : Int) (Q : List Pk) (Ws : List Wc) (o k m : Int) : List Wc := if watS most Q Ws o m = 0 then Ws ++ [⟨o, k, m⟩] else Ws
section
variable {w0 w w' : World} {c b : Nat} {depth most : Int} {Q Q' : List Pk} {Ws Ws' : List Wc} {v v' : Value} {V V' : Int → Value} {K K' : List Int} {X Y : Nat → Prop}
/-- A watch more: what the operations come to. -/
theorem PM.push (h : PM w c depth most v Q b V Ws K) (o k m : Int) (ho : fit o) (hl : Ws.length ≤ 65536) :
    ∃ (p p' : Option Addr) (n cap cap' : Nat) (WA W1 W2 : World) (V' : Int → Value) (K' : List Int), V o = .slice p n cap ∧ n ≤ 65536 ∧ w.drew.alloc (.cells #[.int .i64 k, .int .i64 m] 66) = WA ∧
      w.drew.cell? ⟨c, 4, none⟩ = some (.map (some b)) ∧ WA.cell? ⟨c, 4, none⟩ = some (.map (some b)) ∧ W1.cell? ⟨c, 4, none⟩ = some (.map (some b)) ∧
      Sem.run Try.prog (Instr.lookup 60 (.map (some b)) (.int .i64 o) false) w.drew = .ok (.slice p n cap) w.drew ∧
      Sem.run Try.prog (Instr.lookup 60 (.map (some b)) (.int .i64 o) false) WA = .ok (.slice p n cap) WA ∧
      (∀ ty, (Builtin.append_ #[64, 64] ty #[.slice p n cap, .slice (some ⟨w.heap.size, 0, none⟩) 1 1]).run Try.prog WA = .ok (.slice p' (n + 1) cap') W1) ∧
      Sem.run Try.prog (Instr.mapUpdate 60 (.map (some b)) (.int .i64 o) (.slice p' (n + 1) cap')) W1 = .ok () W2 ∧
      W2.cell? ⟨c, 5, none⟩ = some (.int .i64 (Ws.length : Int)) ∧ W2.frozen? ⟨c, 5, none⟩ = false ∧
      PM (W2.setCell ⟨c, 5, none⟩ (.int .i64 ((Ws.length : Int) + 1))) c depth most v Q b V' (Ws ++ [⟨o, k, m⟩]) K' ∧
      Turn (PFoot c v b V) w (W2.setCell ⟨c, 5, none⟩ (.int .i64 ((Ws.length : Int) + 1))) ∧ ∀ i j, Blk (V' i) j → Blk (V i) j ∨ w.heap.size ≤ j := by
  obtain ⟨iW, hiW, hzW, hsW, hbW⟩ := info_parts infoW
  obtain ⟨p, cap, hv⟩ := WRow.sl (h.wm.rows o)
  have hn : (ofO Ws o).length ≤ 65536 := Nat.le_trans (ofO_len Ws o) hl
  have tD : Turn NoBlock w w.drew := (Turn.refl _ w).drew
  obtain ⟨WA, hWA⟩ : ∃ WA, w.drew.alloc (.cells #[.int .i64 k, .int .i64 m] 66) = WA := ⟨_, rfl⟩
  have tA : Turn NoBlock w WA := by rw [← hWA]; exact tD.alloc _
  have hA := h.past tA
  have hrd : Rd WA 2 (.slice (some ⟨w.heap.size, 0, none⟩) 1 1) 1 (wcells [⟨o, k, m⟩]) := by rw [← hWA]; exact rd_new w.drew 66 2 #[.int .i64 k, .int .i64 m] rfl
  obtain ⟨v', W1, hap, h1, h2, h3⟩ := WRow.append (hA.wm.rows o) 64 64 iW _ 16 watchesT hiW hzW hsW hbW rfl (hrd.src 64 66 watchesT (wcells_one _)) (by unfold maxLen; omega) (by omega)
  obtain ⟨p', cap', rfl⟩ := h1.sl
  have hof : ofO (Ws ++ [⟨o, k, m⟩]) o = ofO Ws o ++ [⟨o, k, m⟩] := by rw [ofO_push]; simp
  have hr1 : ARow (.slice p' ((ofO Ws o).length + 1) cap') (ofO (Ws ++ [⟨o, k, m⟩]) o) W1 := by
    unfold ARow wcells
    rw [hof, fl_app, List.length_append]
    exact h1
  have hkl := h.wm.klen
  obtain ⟨W2, K', hmu, m2, t2⟩ := hA.wm.put (Ws' := Ws ++ [⟨o, k, m⟩]) ho h2 hr1 (by rw [hof]; simp) (fun i hi => by rw [ofO_push, if_neg (fun e => hi e.symm)]) (fun j hj => (h3 j hj).imp id (fun e => by omega)) (by unfold maxLen; omega)
  have hcV : ¬ Blk (V o) c := h.cw o
  have hd1 : Hd W1 c depth most v (usersN Q : Int) b (Ws.length : Int) := hA.hd.kept h2 hcV
  have hd2 := hd1.kept t2 h.cb
  have tt2 : Turn (PFoot c v b V) w W2 := ((TU tA).trans (h2.mono (G := PFoot c v b V) (fun j hj => .inl (.inr (.inr (.inr ⟨o, hj⟩))))) (fun _ h => .inl h)).trans (t2.mono (G := PFoot c v b V) (fun j hj => .inl (.inr (.inr (.inl hj))))) (fun _ h => .inl h)
  have tc := turn_c W2 c 5 (.int .i64 ((Ws.length : Int) + 1))
  have hVb : ∀ i j, Blk (updV V o (.slice p' ((ofO Ws o).length + 1) cap') i) j → Blk (V i) j ∨ w.heap.size ≤ j := by
    intro i j hj
    unfold updV at hj
    by_cases hi : i = o
    · subst hi
      rw [if_pos rfl] at hj
      rcases h3 j hj with h4 | h4
      · exact .inl h4
      · exact .inr (by have := tA.size; omega)
    · rw [if_neg hi] at hj; exact .inl hj
  have hcw : ¬ WFoot b (updV V o (.slice p' ((ofO Ws o).length + 1) cap')) c := by
    rintro (e | ⟨i, hi⟩)
    · exact h.cb e
    · rcases hVb i c hi with h4 | h4
      · exact h.cw i h4
      · have := h.hd.typ.lt; omega
  have hrow2 : PRow v Q W2 := (hA.row.kept h2 (fun j hj hj' => h.vw hj (.inr ⟨o, hj'⟩))).kept t2 (fun j hj e => h.vw hj (.inl e))
  refine ⟨p, p', (ofO Ws o).length, cap, cap', WA, W1, W2, _, K', hv, hn, hWA, (h.past tD).hd.c4, hA.hd.c4, hd1.c4, ?_, ?_, ?_, hmu, hd2.c5, hd2.typ.free 5, ⟨?_, hrow2.kept tc (fun j hj e => h.vc (e ▸ hj)), m2.kept tc (fun j hj e => hcw (e ▸ hj))⟩, tt2.trans tc (fun j hj => .inl (.inl hj)), hVb⟩
  · rw [← hv]; exact (h.past tD).wm.look ho
  · rw [← hv]; exact hA.wm.look ho
  · rw [← hv]; exact hap
  · have := hd2.set5 ((Ws.length : Int) + 1)
    rw [List.length_append]
    exact this
set_option maxRecDepth 20000 in
set_option maxHeartbeats 1000000 in
theorem PSt.watch (h : PSt w0 w c depth most Q Ws X) (o k m : Int) (ho : fit o) : Calls Try.prog 15 #[.pointer (some ⟨c, 0, none⟩), .int .i64 o, .int .i64 k, .int .i64 m] w fun x w' => x = .returned (.int .i64 (watS most Q Ws o m)) ∧ PSt w0 w' c depth most Q (watL most Q Ws o k m) X ∧ Kp X w w' := by
  obtain ⟨v, b, V, K, h1, h4, h5⟩ := h.ex
  have HF := Lib.hid (And.intro h (And.intro h1 (And.intro h4 h5)))
  by_cases hb : o < 1 ∨ m = 0
  · have hs : watS most Q Ws o m = -10 := by unfold watS; rw [if_pos hb]
    unfold watL
    rw [hs, if_neg (by omega)]
    clear h h1 h4 h5 hs
    by_cases hb1 : o < 1
    · clear hb
      go_enter Try.func15, Try.ntmps15
      go_wp2
      go_ret
      exact ⟨rfl, HF.out.1, Kp.of_past (Turn.refl _ _)⟩
    · have hm : m = 0 := hb.resolve_left hb1
      subst hm
      clear hb
      go_enter Try.func15, Try.ntmps15
      go_wp2
      go_ret
      exact ⟨rfl, HF.out.1, Kp.of_past (Turn.refl _ _)⟩
  · have hb1 : ¬ o < 1 := fun e => hb (.inl e)
    have hb2 : (m == 0) = false := by simp; exact fun e => hb (.inr e)
    have CF := Lib.hid (fun W (t : Turn NoBlock w W) => fired_any (h1.past t) h.ok)
    have HS := Lib.hid (fun W (t : Turn NoBlock w W) => And.intro ((h1.past t).hd.c1) ((h1.past t).hd.c5))
    have s0 := HS.out _ (Turn.refl _ w).drew
    have hq0 := h.ok.qlen
    have hw0 := h.ok.wlen
    have hu0 := usersN_le Q
    have HO := Lib.hid ho
    by_cases hf : (Ws.length : Int) + ((Q.length : Int) - (usersN Q : Int)) = most
    · have hs : watS most Q Ws o m = -4 := by unfold watS; rw [if_neg hb, if_pos hf]
      unfold watL
      rw [hs, if_neg (by omega)]
      have hq : ((Ws.length : Int) + ((Q.length : Int) - (usersN Q : Int)) == most) = true := by simp [hf]
      generalize hx : (Q.length : Int) - (usersN Q : Int) = x at *
      generalize hy : (Ws.length : Int) = y at *
      have hb3 : IntKind.i64.wrap (y + x) = y + x := by rw [← hx, ← hy]; have := wrap_nat (Ws.length + (Q.length - usersN Q)) (by omega); rw [show ((Ws.length + (Q.length - usersN Q) : Nat) : Int) = (Ws.length : Int) + ((Q.length : Int) - (usersN Q : Int)) by omega] at this; exact this
      clear h h1 h4 h5 hs hb hf hq0 hw0 hu0 hx hy ho
      go_enter Try.func15, Try.ntmps15
      go_wp2
      go_region_held3 (fun W => (W.cell? ⟨c, 1, none⟩ = some (.int .i64 most) ∧ W.cell? ⟨c, 5, none⟩ = some (.int .i64 y)))
        (first | exact s0 | exact S2)
        ((go_at_call 29; (with_reducible refine (CF.out _ ((Turn.refl _ w).drew)).mono ?_); rintro e w2 ⟨rfl, t2⟩; have T2 := Lib.hid (TT (Turn.refl NoBlock w).drew t2); have S2 := HS.out _ T2.out; clear t2))
      go_wp2
      go_ret
      exact ⟨rfl, HF.out.1.past T2.out, Kp.of_past T2.out⟩
    · have hs : watS most Q Ws o m = 0 := by unfold watS; rw [if_neg hb, if_neg hf]
      unfold watL
      rw [hs, if_pos rfl]
      have hq : ((Ws.length : Int) + ((Q.length : Int) - (usersN Q : Int)) == most) = false := by simp [hf]
      have HK := Lib.hid hf
      generalize hx : (Q.length : Int) - (usersN Q : Int) = x at *
      obtain ⟨y, hy⟩ : ∃ y, (Ws.length : Int) = y := ⟨_, rfl⟩
      rw [hy] at hq s0
      have HS' := HS
      simp only [hy] at HS'
      have hb3 : IntKind.i64.wrap (y + x) = y + x := by rw [← hx, ← hy]; have := wrap_nat (Ws.length + (Q.length - usersN Q)) (by omega); rw [show ((Ws.length + (Q.length - usersN Q) : Nat) : Int) = (Ws.length : Int) + ((Q.length : Int) - (usersN Q : Int)) by omega] at this; exact this
      have HX := Lib.hid hx
      have HY := Lib.hid hy
      clear h h1 h4 h5 hs hb hf hq0 hw0 hu0 hx hy ho HS
      go_enter Try.func15, Try.ntmps15
      go_wp2
      go_region_held3 (fun W => (W.cell? ⟨c, 1, none⟩ = some (.int .i64 most) ∧ W.cell? ⟨c, 5, none⟩ = some (.int .i64 y)))
        (first | exact s0 | exact S2)
        ((go_at_call 29; (with_reducible refine (CF.out _ ((Turn.refl _ w).drew)).mono ?_); rintro e w2 ⟨rfl, t2⟩; have T2 := Lib.hid (TT (Turn.refl NoBlock w).drew t2); have S2 := HS'.out _ T2.out; clear t2))
      obtain ⟨hF, j1, j4, j5⟩ := HF.out
      obtain ⟨p, p', n, cap, cap', WA, W1, W2, V', K', hv, hn, hWA, a1, a2, a3, l1, l2, hap, hmu, d5, f5, hP, hT, hV⟩ := (j1.past T2.out).push o k m HO.out hF.ok.wlen
      have HE := Lib.hid (And.intro hP (And.intro hT hV))
      rw [HY.out] at d5 HE
      have hy5 : IntKind.i64.wrap (y + 1) = y + 1 := by rw [← HY.out]; have := wrap_nat (Ws.length + 1) (by have := hF.ok.wlen; omega); rw [show ((Ws.length + 1 : Nat) : Int) = (Ws.length : Int) + 1 by omega] at this; exact this
      have HFF := Lib.hid (And.intro hF (And.intro j1 (And.intro j4 j5)))
      clear hF j1 j4 j5 hP hT hV hv
      go_wp2
      go_region_law (first
        | (refine step_append_run (by rfl) (.tmp 37) (.tmp 41) 64 64 (by rfl) _ _ (by rfl) (by rfl) _ _ (hap _) ?_))
      all_goals
        go_wp2
        go_ret
        exact ⟨rfl, by
          obtain ⟨hF, j1, j4, j5⟩ := HFF.out
          refine pst_made hF j1 j4 j5 HE.out.1 ⟨hF.ok.dep, hF.ok.mst, hF.ok.users, ?_, fun t ht => by
              rcases List.mem_append.1 ht with h6 | h6
              · exact hF.ok.objs t h6
              · rw [List.mem_singleton] at h6; subst h6; exact hb1⟩ (fun _ hk => .inl hk) (fun i j hj => (HE.out.2.2 i j hj).imp id (fun e => Nat.le_trans T2.out.size e)) ((TU T2.out).trans HE.out.2.1 (fun _ h => .inl h))
          have := hF.ok.fired
          have := HK.out
          have := HX.out
          rw [List.length_append, List.length_singleton]
          omega⟩
end
end Go.Proofs.Ytcnellkoejhofaa
