/-
  What the document's port answers to Tell. No conditions but that its lists are no longer than a million.
-/
import Derived.Test.YtcnellkoejhofaaRForget
namespace Go.Proofs.Ytcnellkoejhofaa
open Go.ChangeShapes Go.WideShapes Go.ChangeAt Go.RowKit

theorem packs_snoc (l : List Wc) (t : Wc) (o s : Int) : packs (ofO (l ++ [t]) o) o s = packs (ofO l o) o s ++ if (t.o == o && meetB t.m s) = true then [⟨t.k, o, s⟩] else [] := by
  rw [ofO_push]
  by_cases h : t.o = o
  · rw [if_pos h, packs_add]
    have : (t.o == o) = true := by simp [h]
    rw [this, Bool.true_and]
  · rw [if_neg h]
    have : (t.o == o) = false := by simp [h]
    rw [this, Bool.false_and]
    simp
section
variable {w w' : World} {x : Nat} {depth most : Int} {vq vw vq' vw' : Value} {Q Q' : List Pk} {Ws Ws' : List Wc}
/-- What stands while the watches are gone through. -/
structure TR (w wr : World) (x : Nat) (depth most : Int) (vq vw : Value) (Qj : List Pk) (Ws : List Wc) (vl : Value) (Lj : List Wc) : Prop where
  ex : ∃ vq', RM wr x depth most vq' vw Qj Ws ∧ ∀ k, Blk vq' k → Blk vq k ∨ w.heap.size ≤ k
  turn : Turn (fun k => k = x ∨ Blk vq k) w wr
  left : CRow vl Lj wr
  old : ∀ k, Blk vw k → k < w.heap.size
  fresh : ∀ k, Blk vl k → w.heap.size ≤ k
theorem TR.past {vl : Value} {Qj : List Pk} {Lj : List Wc} (h : TR w w' x depth most vq vw Qj Ws vl Lj) {W : World} (t : Turn NoBlock w' W) : TR w W x depth most vq vw Qj Ws vl Lj := by
  obtain ⟨vq', h1, h2⟩ := h.ex
  exact ⟨⟨vq', h1.past t, h2⟩, h.turn.trans t (fun _ h => h.elim), h.left.past t, h.old, h.fresh⟩
/-- One packet more, in the world behind the draw. -/
theorem TR.fire {vl : Value} {Qj : List Pk} {Lj : List Wc} (h : TR w w' x depth most vq vw Qj Ws vl Lj) (hx : x < w.heap.size) (p : Pk) (hn : Qj.length ≤ 1000000) :
    ∃ q n cap q' cap' W1, w'.cell? ⟨x, 0, none⟩ = some (.slice q n cap) ∧ (w'.alloc (.cells #[.int .i64 p.k, .int .i64 p.s, .int .i64 p.v] 40)).cell? ⟨x, 0, none⟩ = some (.slice q n cap) ∧ (∀ ty, (Builtin.append_ #[27, 27] ty #[.slice q n cap, .slice (some ⟨w'.heap.size, 0, none⟩) 1 1]).run Try.prog (w'.alloc (.cells #[.int .i64 p.k, .int .i64 p.s, .int .i64 p.v] 40)) = .ok (.slice q' (n + 1) cap') W1) ∧
      W1.cell? ⟨x, 0, none⟩ = some (.slice q n cap) ∧ W1.frozen? ⟨x, 0, none⟩ = false ∧ TR w (W1.setCell ⟨x, 0, none⟩ (.slice q' (n + 1) cap')) x depth most vq vw (Qj ++ [p]) Ws vl Lj ∧
      ∀ (B j : Nat) (z : Value), TBlk w' B 51 → w'.cell? ⟨B, j, none⟩ = some z → (W1.setCell ⟨x, 0, none⟩ (.slice q' (n + 1) cap')).cell? ⟨B, j, none⟩ = some z := by
  obtain ⟨vq', h1, h2⟩ := h.ex
  obtain ⟨q, n, cap, q', cap', W1, hv, hnn, hap, hrow, htn, hbl⟩ := h1.q.push p hn
  obtain ⟨e2, f2, hM, hF, hT⟩ := h1.setq htn hrow hbl
  have tc := turn_c W1 x 0 (.slice q' (n + 1) cap')
  have c0 := h1.hd.c0
  have a0 := (h1.past ((Turn.refl NoBlock w').alloc (.cells #[.int .i64 p.k, .int .i64 p.s, .int .i64 p.v] 40))).hd.c0
  rw [hv] at c0 a0 e2
  have hvx : ¬ Blk vl x := fun hk => ((WRow.typed h.left hk).unlike h1.hd.typ (by decide)) rfl
  refine ⟨q, n, cap, q', cap', W1, c0, a0, hap, e2, f2, ⟨⟨_, hM, fun k hk => ?_⟩, ?_, ?_, h.old, h.fresh⟩, fun B j z hB hz => ?_⟩
  · rcases hbl k hk with h3 | h3
    · exact h2 k h3
    · exact .inr (Nat.le_trans h.turn.size h3)
  · refine (h.turn.trans htn (fun k hk => ?_)).trans tc (fun k hk => .inl (.inl hk))
    exact (h2 k hk).imp .inr id
  · refine (h.left.kept htn (fun k hk hk' => ?_)).kept tc (fun k hk e => hvx (e ▸ hk))
    exact ((WRow.typed h.left hk).unlike (WRow.typed h1.q hk') (by decide)) rfl
  · refine tc.cell (htn.cell hz (fun hk => ?_)) (fun e => ?_)
    · exact (hB.unlike (WRow.typed h1.q hk) (by decide)) rfl
    · simp only at e
      subst e
      exact (hB.unlike h1.hd.typ (by decide)) rfl
theorem TR.keep {vl : Value} {Qj : List Pk} {Lj : List Wc} (h : TR w w' x depth most vq vw Qj Ws vl Lj) (t : Wc) (hn : Lj.length ≤ 1000000) :
    ∃ p n cap p' cap' W1, vl = .slice p n cap ∧ n = Lj.length ∧ (∀ ty, (Builtin.append_ #[28, 28] ty #[.slice p n cap, .slice (some ⟨w'.heap.size, 0, none⟩) 1 1]).run Try.prog (w'.alloc (.cells #[.int .i64 t.o, .int .i64 t.k, .int .i64 t.m] 51)) = .ok (.slice p' (n + 1) cap') W1) ∧ TR w W1 x depth most vq vw Qj Ws (.slice p' (n + 1) cap') (Lj ++ [t]) := by
  obtain ⟨p, n, cap, p', cap', W1, hv, hnn, hap, hrow, htn, hbl⟩ := h.left.push t hn
  obtain ⟨vq', h1, h2⟩ := h.ex
  refine ⟨p, n, cap, p', cap', W1, hv, hnn, hap, ⟨⟨vq', h1.kept htn (fun k hk hk' => ?_), h2⟩, h.turn.trans htn (fun k hk => .inr (h.fresh k hk)), hrow, h.old, fun k hk => ?_⟩⟩
  · rcases hk with rfl | hk | hk
    · exact ((WRow.typed h.left hk').unlike h1.hd.typ (by decide)) rfl
    · exact ((WRow.typed h.left hk').unlike (WRow.typed h1.q hk) (by decide)) rfl
    · have := h.old k hk; have := h.fresh k hk'; omega
  · rcases hbl k hk with h3 | h3
    · exact h.fresh k h3
    · exact Nat.le_trans h.turn.size h3
theorem TR.start (h : RM w x depth most vq vw Q Ws) : TR w w x depth most vq vw Q Ws (.slice none 0 0) [] :=
  ⟨⟨vq, h, fun _ hk => .inl hk⟩, Turn.refl _ _, wrow_nil _ _ _, fun _ hk => WRow.lt h.ws hk, fun k hk => (blk_nil k hk).elim⟩
/-- What is left is laid in the place of the watches. -/
theorem TR.fin {vl : Value} {Qj : List Pk} {Lj : List Wc} (h : TR w w' x depth most vq vw Qj Ws vl Lj) : w'.cell? ⟨x, 1, none⟩ = some vw ∧ w'.frozen? ⟨x, 1, none⟩ = false ∧ RMade w (w'.setCell ⟨x, 1, none⟩ vl) x depth most vq vw Qj Lj := by
  obtain ⟨vq', h1, h2⟩ := h.ex
  have tc := turn_c w' x 1 vl
  have hvx : ¬ Blk vl x := fun hk => ((WRow.typed h.left hk).unlike h1.hd.typ (by decide)) rfl
  refine ⟨h1.hd.c1, h1.hd.typ.free 1, vq', vl, ⟨h1.hd.set1 vl, h1.q.kept tc (fun k hk e => h1.qx (e ▸ hk)), h.left.kept tc (fun k hk e => hvx (e ▸ hk))⟩, fun k hk => ?_, (h.turn.mono (G := RFoot x vq vw) (fun _ hk => .inl (hk.imp id .inl))).trans tc (fun _ hk => .inl (.inl hk))⟩
  rcases hk with hk | hk | hk
  · exact .inl (.inl hk)
  · exact (h2 k hk).imp (fun h => .inr (.inl h)) id
  · exact .inr (h.fresh k hk)
set_option maxRecDepth 20000 in
set_option maxHeartbeats 2000000 in
theorem rtell (h : RM w x depth most vq vw Q Ws) (hw0 : Ws.length ≤ 65536) (hq0 : Q.length ≤ 131072) (o s : Int) : Calls Try.prog 18 #[.pointer (some ⟨x, 0, none⟩), .int .i64 o, .int .i64 s] w fun e w' => e = .returned (.int .i64 (telN Ws o s : Int)) ∧ RMade w w' x depth most vq vw (Q ++ packs (ofO Ws o) o s) (telL Ws o s) := by
  obtain ⟨pw, cw, hvw⟩ := WRow.sl h.ws
  obtain ⟨y, hy⟩ : ∃ y, Ws.length = y := ⟨_, rfl⟩
  have HY := Lib.hid hy
  rw [hy] at hvw hw0
  subst hvw
  have hxl := h.hd.typ.lt
  have ST := Lib.hid (TR.start h)
  clear h hy
  go_enter Try.func18, Try.ntmps18
  go_wp2
  go_loopg [7, 8, 9] y (fun z s7 s8 s9 wr => ∃ (j u f : Nat) (p : Option Addr) (cap : Nat), z = y - j ∧ j ≤ y ∧ u ≤ j ∧ f ≤ j ∧ s7 = .slice p u cap ∧ s8 = .int .i64 (f : Int) ∧ s9 = .int .i64 (j : Int) ∧ Hid (TR w wr x depth most vq (.slice pw y cw) (Q ++ packs (ofO (Ws.take j) o) o s) Ws (.slice p u cap) (telL (Ws.take j) o s) ∧ (telL (Ws.take j) o s).length = u ∧ (packs (ofO (Ws.take j) o) o s).length = f))
  case atStart => exact ⟨0, 0, 0, none, 0, rfl, Nat.zero_le _, Nat.le_refl _, Nat.le_refl _, rfl, rfl, rfl, Lib.hid ⟨by simpa [packs, ofO, telL, dropW] using ST.out, rfl, rfl⟩⟩
  case round =>
    obtain ⟨j, u, f, pl, cl, hz, hj, hu, hff, rfl, rfl, rfl, HR⟩ := hrel
    obtain ⟨vqj, hRM, -⟩ := HR.out.1.ex
    have c1 := hRM.hd.c1
    by_cases hjn : j < y
    · obtain ⟨t, ht⟩ : ∃ t, Ws[j]? = some t := ⟨_, List.getElem?_eq_getElem (by rw [HY.out]; exact hjn)⟩
      obtain ⟨gw, ow, cw', hev, d0, d1, d2⟩ := hRM.watch_at ht
      rw [HY.out] at hev
      simp only [Value.slice.injEq] at hev
      obtain ⟨rfl, -, rfl⟩ := hev
      have hji : (j : Int) < (y : Int) := by omega
      have htk : Ws.take j ++ [t] = Ws.take (j + 1) := by rw [List.take_add_one, ht]; rfl
      have hsn := drop_snoc (Ws.take j) t o (fun t => meetB t.m s)
      have hps := packs_snoc (Ws.take j) t o s
      rw [htk] at hsn hps
      have tb : Turn NoBlock wr (wr.alloc (.cells #[.int .i64 t.o, .int .i64 t.k, .int .i64 t.m] 51)) := (Turn.refl _ _).alloc _
      have bx := heap_alloc_new wr (.cells #[.int .i64 t.o, .int .i64 t.k, .int .i64 t.m] 51)
      have HB := Lib.hid (HR.out.1.past tb)
      obtain ⟨WB, hWB⟩ : ∃ WB, wr.alloc (.cells #[.int .i64 t.o, .int .i64 t.k, .int .i64 t.m] 51) = WB := ⟨_, rfl⟩
      rw [hWB] at tb bx HB
      have x0 : WB.cell? ⟨wr.heap.size, 0, none⟩ = some (.int .i64 t.o) := cell_at bx 0
      have x1 : WB.cell? ⟨wr.heap.size, 1, none⟩ = some (.int .i64 t.k) := cell_at bx 1
      have x2 : WB.cell? ⟨wr.heap.size, 2, none⟩ = some (.int .i64 t.m) := cell_at bx 2
      cases hcnd : (t.o == o && meetB t.m s) with
      | false =>
        rw [hcnd, if_neg (by simp), List.append_nil] at hps
        rw [hcnd, if_neg (by simp)] at hsn
        obtain ⟨p2, n2, cap2, p3, cap3, W3, he3, hn3, hap, hT3⟩ := HB.out.keep t (by rw [HR.out.2.1]; omega)
        simp only [Value.slice.injEq] at he3
        obtain ⟨rfl, rfl, rfl⟩ := he3
        have hsn' : telL (Ws.take j) o s ++ [t] = telL (Ws.take (j + 1)) o s := hsn.symm
        rw [hsn', ← hps] at hT3
        have HS := Lib.hid (And.intro hT3 (And.intro (show (telL (Ws.take (j + 1)) o s).length = u + 1 by rw [← hsn', List.length_append, HR.out.2.1]; rfl) (show (packs (ofO (Ws.take (j + 1)) o) o s).length = f by rw [hps]; exact HR.out.2.2)))
        clear hsn hsn' hps ht htk hn3 hT3 tb bx hRM
        cases hto : (t.o == o) with
        | false =>
          clear hcnd
          go_wp2_with (at_builtin; refine wpList_append_run (by rfl) (.tmp 54) (.tmp 56) 28 28 (by rfl) _ _ (by rfl) (by rfl) _ _ (hap _) ?_)
          go_roundg (y - (j + 1))
          case measure => omega
          case rel => exact ⟨j + 1, u + 1, f, p3, cap3, rfl, by omega, by omega, by omega, rfl, rfl, by go_num, HS⟩
        | true =>
          rw [hto, Bool.true_and] at hcnd
          have hm0 : (bits .and .i64 t.m s != 0) = false := hcnd
          clear hcnd
          go_wp2_with (at_builtin; refine wpList_append_run (by rfl) (.tmp 54) (.tmp 56) 28 28 (by rfl) _ _ (by rfl) (by rfl) _ _ (hap _) ?_)
          go_roundg (y - (j + 1))
          case measure => omega
          case rel => exact ⟨j + 1, u + 1, f, p3, cap3, rfl, by omega, by omega, by omega, rfl, rfl, by go_num, HS⟩
      | true =>
        rw [hcnd, if_pos rfl] at hps
        rw [hcnd, if_pos rfl, List.append_nil] at hsn
        have hql : (Q ++ packs (ofO (Ws.take j) o) o s).length ≤ 1000000 := by
          rw [List.length_append, HR.out.2.2]
          omega
        obtain ⟨q1, n1, k1, q2, k2, W1, c0, a0, hap, e2, f2, hTR, hK⟩ := (HB.out.past (Turn.refl NoBlock WB).drew).fire hxl ⟨t.k, o, s⟩ hql
        rw [List.append_assoc, ← hps] at hTR
        have hsn' : telL (Ws.take (j + 1)) o s = telL (Ws.take j) o s := hsn
        have HS := Lib.hid (And.intro hTR (And.intro (show (telL (Ws.take (j + 1)) o s).length = u by rw [hsn']; exact HR.out.2.1) (show (packs (ofO (Ws.take (j + 1)) o) o s).length = f + 1 by rw [hps, List.length_append, HR.out.2.2]; rfl)))
        rw [← hsn'] at HS
        have x1d : WB.drew.cell? ⟨wr.heap.size, 1, none⟩ = some (.int .i64 t.k) := x1
        rw [Bool.and_eq_true] at hcnd
        obtain ⟨hto, hmt⟩ := hcnd
        have hm0 : (bits .and .i64 t.m s != 0) = true := hmt
        dsimp only at hap a0
        obtain ⟨WA, hWA⟩ : ∃ WA, WB.drew.alloc (.cells #[.int .i64 t.k, .int .i64 o, .int .i64 s] 40) = WA := ⟨_, rfl⟩
        rw [hWA] at a0
        simp only [hWA] at hap
        clear hsn hsn' hps ht htk hTR tb bx hRM hmt hql
        go_wp2
        go_region_law (first
          | (refine step_append_run (by rfl) (.tmp 42) (.tmp 48) 27 27 (by rfl) _ _ (by rfl) (by rfl) _ _ (hap _) ?_))
        all_goals
          go_wp2
          go_roundg (y - (j + 1))
          case measure => omega
          case rel => exact ⟨j + 1, u, f + 1, pl, cl, rfl, by omega, by omega, by omega, rfl, by go_num, by go_num, HS⟩
    · obtain rfl : j = y := by omega
      have hR := HR.out
      rw [List.take_of_length_le (by rw [HY.out]; exact Nat.le_refl _)] at hR
      obtain ⟨e1, f1, hM⟩ := hR.1.fin
      have hfn : telN Ws o s = f := by rw [telN_eq]; exact hR.2.2
      have HFN := Lib.hid hfn
      have HM := Lib.hid hM
      clear hR hM hfn hRM e1
      go_wp2
      go_ret
      exact ⟨ret_int (by rw [HFN.out]), HM.out⟩
end
end Go.Proofs.Ytcnellkoejhofaa
