/-
  add: a packet stands behind all others. No conditions but that there are no more packets than a million.
-/
import Derived.Test.YtcnellkoejhofaaQSt
import Derived.Deep.RegionHeld3
import Derived.Deep.RegionLaw
namespace Go.Proofs.Ytcnellkoejhofaa
open Go.ChangeShapes Go.WideShapes Go.ChangeAt Go.RowKit

theorem step_append_run {w : World} {ops : Array Oper} {o : Oper} {a : Act} {K : Act → World → Prop} {Q : Exit → Act → World → Prop} {E : Prop} (hgd : o.guard = none) (s x : Operand) (t tx : TypeId)
    (ho : o.op = .call { callee := .builtin .append, args := #[s, x], argTypes := #[t, tx] }) (vs vx : Value) (hs : a.eval s = vs) (hx : a.eval x = vx)
    (v' : Value) (w' : World) (hr : (Builtin.append_ #[t, tx] o.type #[vs, vx]).run Try.prog w = .ok v' w') (h : K (a.put o.dst v') w') : if Region.wanted o (yielded ops a.tmps) = true then Oper.wp Try.prog o a w K Q else E := by
  have hw : Region.wanted o (yielded ops a.tmps) = true := by simp [Region.wanted, hgd]
  rw [if_pos hw]
  exact Lib.wp_append_run w s x t tx ho vs vx hs hx v' w' hr h

set_option maxRecDepth 20000 in
set_option maxHeartbeats 1000000 in
theorem add_any {w : World} {c b : Nat} {depth most u n : Int} {v : Value} {Q : List Pk} (h : Hd w c depth most v u b n) (hr : PRow v Q w) (p : Pk) (hq : Q.length ≤ 1000000) :
    Calls Try.prog 27 #[.pointer (some ⟨c, 0, none⟩), p.agg] w fun x w' => x = .returned (.tuple #[]) ∧ ∃ v', Hd w' c depth most v' u b n ∧ PRow v' (Q ++ [p]) w' ∧ (∀ k, Blk v' k → Blk v k ∨ w.heap.size ≤ k) ∧ Turn (fun k => k = c ∨ Blk v k) w w' := by
  obtain ⟨pk, ps, pv⟩ := p
  obtain ⟨iP, hiP, hzP, hsP, hbP⟩ := info_parts infoP
  have hvc : ¬ Blk v c := fun hk => ((WRow.typed hr hk).unlike h.typ (by decide)) rfl
  obtain ⟨W, hW⟩ : ∃ W, w.alloc (.cells #[.int .i64 pk, .int .i64 ps, .int .i64 pv] 37) = W := ⟨_, rfl⟩
  have tW : Turn NoBlock w W := by rw [← hW]; exact (Turn.refl _ w).alloc _
  have hsz : W.heap.size = w.heap.size + 1 := by rw [← hW]; simp
  have hbox : W.heap[w.heap.size]? = some (.cells #[.int .i64 pk, .int .i64 ps, .int .i64 pv] 37 (0, 0)) := by rw [← hW]; exact heap_alloc_new w _
  obtain ⟨WA, hWA⟩ : ∃ WA, W.drew.alloc (.cells #[.int .i64 pk, .int .i64 ps, .int .i64 pv] 37) = WA := ⟨_, rfl⟩
  have tA : Turn NoBlock w WA := by rw [← hWA]; exact (tW.drew).alloc _
  have hrd : Rd WA 3 (.slice (some ⟨W.heap.size, 0, none⟩) 1 1) 1 (pcells [⟨pk, ps, pv⟩]) := by rw [← hWA]; exact rd_new W.drew 37 3 _ rfl
  obtain ⟨v', W1, hap, h1, h2, h3⟩ := WRow.append (hr.past tA) 44 44 iP _ 24 packetsT hiP hzP hsP hbP rfl (hrd.src 44 37 packetsT (pcells_one _)) (by unfold maxLen; omega) (by omega)
  obtain ⟨pp, pc, rfl⟩ := h1.sl
  have hA := h.past tA
  have hA1 := hA.kept h2 hvc
  have HR := Lib.hid (show Hd (W1.setCell ⟨c, 2, none⟩ (.slice pp (Q.length + 1) pc)) c depth most (.slice pp (Q.length + 1) pc) u b n ∧ PRow (.slice pp (Q.length + 1) pc) (Q ++ [⟨pk, ps, pv⟩]) (W1.setCell ⟨c, 2, none⟩ (.slice pp (Q.length + 1) pc)) ∧ (∀ k, Blk (.slice pp (Q.length + 1) pc) k → Blk v k ∨ w.heap.size ≤ k) ∧ Turn (fun k => k = c ∨ Blk v k) w (W1.setCell ⟨c, 2, none⟩ (.slice pp (Q.length + 1) pc)) from by
    have hb : ∀ k, Blk (.slice pp (Q.length + 1) pc) k → Blk v k ∨ w.heap.size ≤ k := fun k hk => (h3 k hk).imp id (fun e => by have := tA.size; omega)
    refine ⟨hA1.set2 _, ?_, hb, ?_⟩
    · have hr1 : PRow (.slice pp (Q.length + 1) pc) (Q ++ [⟨pk, ps, pv⟩]) W1 := by
        unfold PRow pcells
        rw [fl_app, List.length_append]
        exact h1
      refine hr1.kept (turn_c W1 c 2 _) (fun k hk e => ?_)
      subst e
      rcases hb k hk with h4 | h4
      · exact hvc h4
      · have := h.typ.lt; omega
    · exact ((tA.mono (G := fun k => k = c ∨ Blk v k) (fun _ h => h.elim)).trans (h2.mono (G := fun k => k = c ∨ Blk v k) (fun k hk => .inl (.inr hk))) (fun k hk => .inl hk)).trans (turn_c W1 c 2 _) (fun k hk => .inl (.inl hk)))
  have d2 := (h.past (tW.drew)).c2
  have a2 := hA.c2
  have e2 := hA1.c2
  have f2 := hA1.typ.free 2
  have b0 : W.drew.cell? ⟨w.heap.size, 0, none⟩ = some (.int .i64 pk) := cell_at (w := W.drew) hbox 0
  have b1 : W.drew.cell? ⟨w.heap.size, 1, none⟩ = some (.int .i64 ps) := cell_at (w := W.drew) hbox 1
  have b2 : W.drew.cell? ⟨w.heap.size, 2, none⟩ = some (.int .i64 pv) := cell_at (w := W.drew) hbox 2
  have hgs : W.drew.heap.size = W.heap.size := rfl
  obtain ⟨qp, qc, rfl⟩ := WRow.sl hr
  unfold Pk.agg
  clear h hr hvc tW hsz hbox tA hrd h1 h2 h3 hA hA1 hzP hiP hsP hbP
  go_enter Try.func27, Try.ntmps27
  go_wp2_with fail
  go_region_law (first
    | (refine step_append_run (by rfl) (.tmp 8) (.tmp 10) 44 44 (by rfl) _ _ (by rfl) (by rfl) _ _ (hap _) ?_))
  all_goals
    go_wp2
    go_end0
    exact ⟨rfl, _, HR.out⟩
end Go.Proofs.Ytcnellkoejhofaa
