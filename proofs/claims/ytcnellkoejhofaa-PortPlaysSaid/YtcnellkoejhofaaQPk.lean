/-
  Packets in a law's state: a copy of the row, in new memory; nil where there is none. No conditions.
-/
import Derived.Test.YtcnellkoejhofaaQTake
import Derived.OwnWalk
namespace Go.Proofs.Ytcnellkoejhofaa
open Go.ChangeShapes Go.WideShapes Go.ChangeAt Go.RowKit

theorem eq_none (n c : Nat) (w : World) : Sem.run Try.prog (binOp BinOp.eql 44 (.slice none n c) (.slice none 0 0)) w = .ok (.bool true) w := by kernel_rfl
theorem eq_some (a : Addr) (n c : Nat) (w : World) : Sem.run Try.prog (binOp BinOp.eql 44 (.slice (some a) n c) (.slice none 0 0)) w = .ok (.bool false) w := by kernel_rfl
theorem wpList_append_run {w : World} {ops : Array Oper} {rest : List Oper} {o : Oper} {a : Act} {Q : Exit → Act → World → Prop} (hgd : o.guard = none) (s x : Operand) (t tx : TypeId)
    (ho : o.op = .call { callee := .builtin .append, args := #[s, x], argTypes := #[t, tx] }) (vs vx : Value) (hs : a.eval s = vs) (hx : a.eval x = vx)
    (v' : Value) (w' : World) (hr : (Builtin.append_ #[t, tx] o.type #[vs, vx]).run Try.prog w = .ok v' w') (h : wpList Try.prog ops Q rest (a.put o.dst v') w') : wpList Try.prog ops Q (o :: rest) a w :=
  wpList_plain hgd fun _ hK => Lib.wp_append_run w s x t tx ho vs vx hs hx v' w' hr (hK _ _ h)
set_option maxHeartbeats 1000000 in
theorem clone_any (w : World) (v : Value) (l : List Pk) (hr : PRow v l w) (hn : l.length ≤ 1000000) : Calls Try.prog 36 #[v] w fun x w' => ∃ v', x = .returned v' ∧ PRow v' l w' ∧ (∀ k, Blk v' k → w.heap.size ≤ k) ∧ Turn NoBlock w w' := by
  obtain ⟨iP, hiP, hzP, hsP, hbP⟩ := info_parts infoP
  rcases hr.form with ⟨rfl, h0⟩ | ⟨g, o, cap, rfl, hnc, hcm, ht, hc, hs⟩
  · obtain rfl : l = [] := List.eq_nil_of_length_eq_zero h0
    have q := eq_none 0 0
    clear hr
    go_enter Try.func36, Try.ntmps36
    go_wp2
    go_ret
    exact ⟨_, rfl, wrow_nil _ _ _, fun k hk => (blk_nil k hk).elim, Turn.refl _ _⟩
  · have hE : WRow (w.alloc (.cells #[] 37)) 37 3 (.slice (some ⟨w.heap.size, 0, none⟩) 0 0) 0 [] :=
      ⟨rfl, .inr ⟨_, 0, 0, rfl, Nat.le_refl _, by unfold maxLen; omega, ⟨_, heap_alloc_new w _⟩, (fun j hj => by omega), fun j hj => by omega⟩⟩
    obtain ⟨v', W1, hap, h1, h2, h3⟩ := WRow.append hE 44 44 iP _ 24 packetsT hiP hzP hsP hbP rfl (WRow.src (hr.past ((Turn.refl NoBlock w).alloc (.cells #[] 37))) 44 packetsT (pcells_one _)) (by unfold maxLen; omega) (by omega)
    obtain ⟨pp, pc, rfl⟩ := h1.sl
    rw [Nat.zero_add, List.nil_append] at h1
    obtain ⟨tt, tb⟩ := app_turn (W := w) ((Turn.refl NoBlock w).alloc (.cells #[] 37)) (Nat.le_refl _) h2 h3
    have HR := Lib.hid (And.intro h1 (And.intro tb tt))
    have q := fun W => eq_some ⟨g, o, none⟩ l.length cap W
    rw [Nat.zero_add] at hap HR
    clear hr hE h1 h2 h3 tt tb hc hs ht hzP hiP hsP hbP
    generalize hgn : l.length = n at *
    have HGN := Lib.hid hgn
    clear hgn
    go_enter Try.func36, Try.ntmps36
    go_wp2_with (at_builtin; refine wpList_append_run (by rfl) (.tmp 5) (.tmp 6) 44 44 (by rfl) _ _ (by rfl) (by rfl) _ _ (hap _) ?_)
    go_ret
    refine ⟨_, rfl, ?_, HR.out.2.1, HR.out.2.2⟩
    unfold PRow
    rw [HGN.out]
    exact HR.out.1
section
variable {w0 w : World} {c : Nat} {depth most : Int} {Q : List Pk} {Ws : List Wc} {X : Nat → Prop}
theorem PSt.packets (h : PSt w0 w c depth most Q Ws X) : Calls Try.prog 23 #[.pointer (some ⟨c, 0, none⟩)] w fun x w' => ∃ v', x = .returned v' ∧ PRow v' Q w' ∧ (∀ k, Blk v' k → w.heap.size ≤ k) ∧ Turn NoBlock w w' := by
  obtain ⟨v, b, V, K, h1, -⟩ := h.ex
  have c2 := h1.hd.c2
  have CC := Lib.hid (clone_any w v Q h1.row (by have := h.ok.qlen; omega))
  obtain ⟨p, cap, rfl⟩ := WRow.sl h1.row
  clear h h1
  generalize hgn : Q.length = n at *
  clear hgn
  go_enter Try.func23, Try.ntmps23
  go_wp2_with (go_at_call 36; (with_reducible refine CC.out.mono ?_); rintro x w2 ⟨v', rfl, r2, b2, t2⟩; obtain ⟨p2, cap2, rfl⟩ := WRow.sl r2; have H2 := Lib.hid (And.intro r2 (And.intro b2 t2)); clear r2 b2 t2)
  go_ret
  exact ⟨_, rfl, H2.out⟩
end
end Go.Proofs.Ytcnellkoejhofaa
