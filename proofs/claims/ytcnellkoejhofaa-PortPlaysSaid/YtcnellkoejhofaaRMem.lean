/-
  The document's port in memory: a row of packets, a row of watches. No walk, no conditions.
-/
import Derived.Test.YtcnellkoejhofaaQBack
import Derived.OwnWalk
import Derived.Deep.LoopGhost
import Derived.Deep.RegionHeld3
namespace Go.Proofs.Ytcnellkoejhofaa
open Go.ChangeShapes Go.WideShapes Go.ChangeAt Go.RowKit

def Wc.three (t : Wc) : List Value := [.int .i64 t.o, .int .i64 t.k, .int .i64 t.m]
def rwcells (l : List Wc) : List Value := fl Wc.three l
theorem rwcells_one (l : List Wc) : ∀ u ∈ rwcells l, u.oneCell' = true := fl_one _ (fun x u hu => by simp [Wc.three] at hu; rcases hu with rfl | rfl | rfl <;> rfl) l
theorem rpacketsT : Try.prog.underlying 27 = some (.slice 40) := by kernel_rfl
theorem rwatchesT : Try.prog.underlying 28 = some (.slice 51) := by kernel_rfl
theorem infoRP : (Try.prog.info? 40).map (fun i => (i.zero, i.size, i.bytes)) = some (some (.agg #[.int .i64 0, .int .i64 0, .int .i64 0]), 3, 24) := by kernel_rfl
theorem infoRW : (Try.prog.info? 51).map (fun i => (i.zero, i.size, i.bytes)) = some (some (.agg #[.int .i64 0, .int .i64 0, .int .i64 0]), 3, 24) := by kernel_rfl
theorem elem_rp : Try.prog.underlying 27 = some (.slice (Try.prog.elem 27)) := by kernel_rfl
theorem size_rp : ∀ w, (Go.sizeOf (Try.prog.elem 27)).run Try.prog w = .ok 3 w := fun w => by kernel_rfl
def BRow (v : Value) (l : List Pk) (w : World) : Prop := WRow w 40 3 v l.length (pcells l)
def CRow (v : Value) (l : List Wc) (w : World) : Prop := WRow w 51 3 v l.length (rwcells l)
theorem BRow.kept {w w' : World} {F : Nat → Prop} {v : Value} {l : List Pk} (h : BRow v l w) (t : Turn F w w') (hF : ∀ k, Blk v k → ¬ F k) : BRow v l w' := WRow.kept h t hF
theorem CRow.kept {w w' : World} {F : Nat → Prop} {v : Value} {l : List Wc} (h : CRow v l w) (t : Turn F w w') (hF : ∀ k, Blk v k → ¬ F k) : CRow v l w' := WRow.kept h t hF
theorem BRow.past {w w' : World} {v : Value} {l : List Pk} (h : BRow v l w) (t : Turn NoBlock w w') : BRow v l w' := h.kept t (fun _ _ h => h)
theorem CRow.past {w w' : World} {v : Value} {l : List Wc} (h : CRow v l w) (t : Turn NoBlock w w') : CRow v l w' := h.kept t (fun _ _ h => h)
theorem BRow.three {w : World} {g o n c : Nat} {l : List Pk} (h : BRow (.slice (some ⟨g, o, none⟩) n c) l w) {j : Nat} {t : Pk} (ht : l[j]? = some t) :
    w.cell? ⟨g, o + j * 3, none⟩ = some (.int .i64 t.k) ∧ w.cell? ⟨g, o + j * 3 + 1, none⟩ = some (.int .i64 t.s) ∧ w.cell? ⟨g, o + j * 3 + 2, none⟩ = some (.int .i64 t.v) := by
  have hlt := (List.getElem?_eq_some_iff.1 ht).1
  obtain ⟨g', o', c', he, -, -, -, hc, -⟩ := WRow.shape h (by omega)
  simp only [Value.slice.injEq, Option.some.injEq, Addr.mk.injEq, and_true] at he
  obtain ⟨⟨rfl, rfl⟩, -, rfl⟩ := he
  have ha := fun i hi => fl_at Pk.cells 3 (fun _ => rfl) l j t ht i hi
  refine ⟨?_, ?_, ?_⟩
  · rw [hc (j * 3) (by omega)]; exact ha 0 (by omega)
  · rw [Nat.add_assoc, hc (j * 3 + 1) (by omega)]; exact ha 1 (by omega)
  · rw [Nat.add_assoc, hc (j * 3 + 2) (by omega)]; exact ha 2 (by omega)
theorem CRow.three {w : World} {g o n c : Nat} {l : List Wc} (h : CRow (.slice (some ⟨g, o, none⟩) n c) l w) {j : Nat} {t : Wc} (ht : l[j]? = some t) :
    w.cell? ⟨g, o + j * 3, none⟩ = some (.int .i64 t.o) ∧ w.cell? ⟨g, o + j * 3 + 1, none⟩ = some (.int .i64 t.k) ∧ w.cell? ⟨g, o + j * 3 + 2, none⟩ = some (.int .i64 t.m) := by
  have hlt := (List.getElem?_eq_some_iff.1 ht).1
  obtain ⟨g', o', c', he, -, -, -, hc, -⟩ := WRow.shape h (by omega)
  simp only [Value.slice.injEq, Option.some.injEq, Addr.mk.injEq, and_true] at he
  obtain ⟨⟨rfl, rfl⟩, -, rfl⟩ := he
  have ha := fun i hi => fl_at Wc.three 3 (fun _ => rfl) l j t ht i hi
  refine ⟨?_, ?_, ?_⟩
  · rw [hc (j * 3) (by omega)]; exact ha 0 (by omega)
  · rw [Nat.add_assoc, hc (j * 3 + 1) (by omega)]; exact ha 1 (by omega)
  · rw [Nat.add_assoc, hc (j * 3 + 2) (by omega)]; exact ha 2 (by omega)
/-- One packet more in a row. -/
theorem BRow.push {w : World} {v : Value} {l : List Pk} (h : BRow v l w) (t : Pk) (hn : l.length ≤ 1000000) :
    ∃ p n cap p' cap' W1, v = .slice p n cap ∧ n = l.length ∧ (∀ ty, (Builtin.append_ #[27, 27] ty #[.slice p n cap, .slice (some ⟨w.heap.size, 0, none⟩) 1 1]).run Try.prog (w.alloc (.cells #[.int .i64 t.k, .int .i64 t.s, .int .i64 t.v] 40)) = .ok (.slice p' (n + 1) cap') W1) ∧
      BRow (.slice p' (n + 1) cap') (l ++ [t]) W1 ∧ Turn (Blk v) w W1 ∧ ∀ k, Blk (.slice p' (n + 1) cap') k → Blk v k ∨ w.heap.size ≤ k := by
  obtain ⟨iI, hiI, hzI, hsI, hbI⟩ := info_parts infoRP
  obtain ⟨p, cap, hv⟩ := WRow.sl h
  have tA : Turn NoBlock w (w.alloc (.cells #[.int .i64 t.k, .int .i64 t.s, .int .i64 t.v] 40)) := (Turn.refl _ w).alloc _
  obtain ⟨v', W1, hap, h1, h2, h3⟩ := WRow.append (h.past tA) 27 27 iI _ 24 rpacketsT hiI hzI hsI hbI rfl ((rd_new w 40 3 #[.int .i64 t.k, .int .i64 t.s, .int .i64 t.v] rfl).src 27 40 rpacketsT (pcells_one [t])) (by unfold maxLen; omega) (by omega)
  obtain ⟨p', cap', rfl⟩ := h1.sl
  refine ⟨p, l.length, cap, p', cap', W1, hv, rfl, fun ty => by rw [← hv]; exact hap ty, ?_, (TU tA).trans h2 (fun _ h => .inl h), fun k hk => (h3 k hk).imp id (fun e => by have := tA.size; omega)⟩
  unfold BRow pcells
  rw [fl_app, List.length_append]
  exact h1
/-- One watch more in a row. -/
theorem CRow.push {w : World} {v : Value} {l : List Wc} (h : CRow v l w) (t : Wc) (hn : l.length ≤ 1000000) :
    ∃ p n cap p' cap' W1, v = .slice p n cap ∧ n = l.length ∧ (∀ ty, (Builtin.append_ #[28, 28] ty #[.slice p n cap, .slice (some ⟨w.heap.size, 0, none⟩) 1 1]).run Try.prog (w.alloc (.cells #[.int .i64 t.o, .int .i64 t.k, .int .i64 t.m] 51)) = .ok (.slice p' (n + 1) cap') W1) ∧
      CRow (.slice p' (n + 1) cap') (l ++ [t]) W1 ∧ Turn (Blk v) w W1 ∧ ∀ k, Blk (.slice p' (n + 1) cap') k → Blk v k ∨ w.heap.size ≤ k := by
  obtain ⟨iI, hiI, hzI, hsI, hbI⟩ := info_parts infoRW
  obtain ⟨p, cap, hv⟩ := WRow.sl h
  have tA : Turn NoBlock w (w.alloc (.cells #[.int .i64 t.o, .int .i64 t.k, .int .i64 t.m] 51)) := (Turn.refl _ w).alloc _
  obtain ⟨v', W1, hap, h1, h2, h3⟩ := WRow.append (h.past tA) 28 28 iI _ 24 rwatchesT hiI hzI hsI hbI rfl ((rd_new w 51 3 #[.int .i64 t.o, .int .i64 t.k, .int .i64 t.m] rfl).src 28 51 rwatchesT (rwcells_one [t])) (by unfold maxLen; omega) (by omega)
  obtain ⟨p', cap', rfl⟩ := h1.sl
  refine ⟨p, l.length, cap, p', cap', W1, hv, rfl, fun ty => by rw [← hv]; exact hap ty, ?_, (TU tA).trans h2 (fun _ h => .inl h), fun k hk => (h3 k hk).imp id (fun e => by have := tA.size; omega)⟩
  unfold CRow rwcells
  rw [fl_app, List.length_append]
  exact h1

/-- The document's port's own block. -/
def Rh (w : World) (x : Nat) (depth most : Int) (vq vw : Value) : Prop := w.heap[x]? = some (.cells #[vq, vw, .int .i64 depth, .int .i64 most] 30 (0, 0))
section
variable {w w' : World} {x : Nat} {depth most : Int} {vq vw : Value}
theorem Rh.typ (h : Rh w x depth most vq vw) : TBlk w x 30 := ⟨_, h⟩
theorem Rh.kept {F : Nat → Prop} (h : Rh w x depth most vq vw) (t : Turn F w w') (hF : ¬ F x) : Rh w' x depth most vq vw := t.heap h hF
theorem Rh.past (h : Rh w x depth most vq vw) (t : Turn NoBlock w w') : Rh w' x depth most vq vw := h.kept t (fun h => h)
theorem Rh.c0 (h : Rh w x depth most vq vw) : w.cell? ⟨x, 0, none⟩ = some vq := cell_at h 0
theorem Rh.c1 (h : Rh w x depth most vq vw) : w.cell? ⟨x, 1, none⟩ = some vw := cell_at h 1
theorem Rh.c2 (h : Rh w x depth most vq vw) : w.cell? ⟨x, 2, none⟩ = some (.int .i64 depth) := cell_at h 2
theorem Rh.c3 (h : Rh w x depth most vq vw) : w.cell? ⟨x, 3, none⟩ = some (.int .i64 most) := cell_at h 3
theorem Rh.set0 (h : Rh w x depth most vq vw) (v' : Value) : Rh (w.setCell ⟨x, 0, none⟩ v') x depth most v' vw := set_at h 0 v'
theorem Rh.set1 (h : Rh w x depth most vq vw) (v' : Value) : Rh (w.setCell ⟨x, 1, none⟩ v') x depth most vq v' := set_at h 1 v'
end
structure RM (w : World) (x : Nat) (depth most : Int) (vq vw : Value) (Q : List Pk) (Ws : List Wc) : Prop where
  hd : Rh w x depth most vq vw
  q : BRow vq Q w
  ws : CRow vw Ws w
def RFoot (x : Nat) (vq vw : Value) (k : Nat) : Prop := k = x ∨ Blk vq k ∨ Blk vw k
section
variable {w w' : World} {x : Nat} {depth most : Int} {vq vw vq' vw' : Value} {Q Q' : List Pk} {Ws Ws' : List Wc}
theorem RM.lt (h : RM w x depth most vq vw Q Ws) {k : Nat} (hk : RFoot x vq vw k) : k < w.heap.size := by
  rcases hk with rfl | hk | hk
  · exact h.hd.typ.lt
  · exact WRow.lt h.q hk
  · exact WRow.lt h.ws hk
theorem RM.qx (h : RM w x depth most vq vw Q Ws) : ¬ Blk vq x := fun hk => ((WRow.typed h.q hk).unlike h.hd.typ (by decide)) rfl
theorem RM.wx (h : RM w x depth most vq vw Q Ws) : ¬ Blk vw x := fun hk => ((WRow.typed h.ws hk).unlike h.hd.typ (by decide)) rfl
theorem RM.qw (h : RM w x depth most vq vw Q Ws) {k : Nat} (hk : Blk vq k) : ¬ Blk vw k := fun hk' => ((WRow.typed h.q hk).unlike (WRow.typed h.ws hk') (by decide)) rfl
theorem RM.kept {F : Nat → Prop} (h : RM w x depth most vq vw Q Ws) (t : Turn F w w') (hF : ∀ k, RFoot x vq vw k → ¬ F k) : RM w' x depth most vq vw Q Ws :=
  ⟨h.hd.kept t (hF x (.inl rfl)), h.q.kept t (fun k hk => hF k (.inr (.inl hk))), h.ws.kept t (fun k hk => hF k (.inr (.inr hk)))⟩
theorem RM.past (h : RM w x depth most vq vw Q Ws) (t : Turn NoBlock w w') : RM w' x depth most vq vw Q Ws := h.kept t (fun _ _ h => h)
/-- What a call has made. -/
def RMade (w w' : World) (x : Nat) (depth most : Int) (vq vw : Value) (Q : List Pk) (Ws : List Wc) : Prop :=
  ∃ vq' vw', RM w' x depth most vq' vw' Q Ws ∧ (∀ k, RFoot x vq' vw' k → RFoot x vq vw k ∨ w.heap.size ≤ k) ∧ Turn (RFoot x vq vw) w w'
theorem RM.made (h : RM w x depth most vq vw Q Ws) (t : Turn NoBlock w w') : RMade w w' x depth most vq vw Q Ws := ⟨vq, vw, h.past t, fun _ h => .inl h, TU t⟩
/-- The row of packets is another one. -/
theorem RM.setq {W : World} (h : RM w x depth most vq vw Q Ws) (t : Turn (Blk vq) w W) (hq : BRow vq' Q' W) (hb : ∀ k, Blk vq' k → Blk vq k ∨ w.heap.size ≤ k) :
    W.cell? ⟨x, 0, none⟩ = some vq ∧ W.frozen? ⟨x, 0, none⟩ = false ∧ RM (W.setCell ⟨x, 0, none⟩ vq') x depth most vq' vw Q' Ws ∧ (∀ k, RFoot x vq' vw k → RFoot x vq vw k ∨ w.heap.size ≤ k) ∧ Turn (RFoot x vq vw) w (W.setCell ⟨x, 0, none⟩ vq') := by
  have hd1 := h.hd.kept t h.qx
  have tc := turn_c W x 0 vq'
  refine ⟨hd1.c0, hd1.typ.free 0, ⟨hd1.set0 vq', hq.kept tc (fun k hk e => ?_), (h.ws.kept t (fun k hk hk' => h.qw hk' hk)).kept tc (fun k hk e => h.wx (e ▸ hk))⟩, fun k hk => ?_, (t.mono (G := RFoot x vq vw) (fun k hk => .inl (.inr (.inl hk)))).trans tc (fun k hk => .inl (.inl hk))⟩
  · subst e
    rcases hb k hk with h1 | h1
    · exact h.qx h1
    · have := h.hd.typ.lt; omega
  · rcases hk with hk | hk | hk
    · exact .inl (.inl hk)
    · exact (hb k hk).imp (fun h => .inr (.inl h)) id
    · exact .inl (.inr (.inr hk))
/-- The row of watches is another one. -/
theorem RM.setw {W : World} (h : RM w x depth most vq vw Q Ws) (t : Turn (Blk vw) w W) (hq : CRow vw' Ws' W) (hb : ∀ k, Blk vw' k → Blk vw k ∨ w.heap.size ≤ k) :
    W.cell? ⟨x, 1, none⟩ = some vw ∧ W.frozen? ⟨x, 1, none⟩ = false ∧ RM (W.setCell ⟨x, 1, none⟩ vw') x depth most vq vw' Q Ws' ∧ (∀ k, RFoot x vq vw' k → RFoot x vq vw k ∨ w.heap.size ≤ k) ∧ Turn (RFoot x vq vw) w (W.setCell ⟨x, 1, none⟩ vw') := by
  have hd1 := h.hd.kept t h.wx
  have tc := turn_c W x 1 vw'
  refine ⟨hd1.c1, hd1.typ.free 1, ⟨hd1.set1 vw', (h.q.kept t (fun k hk hk' => h.qw hk hk')).kept tc (fun k hk e => h.qx (e ▸ hk)), hq.kept tc (fun k hk e => ?_)⟩, fun k hk => ?_, (t.mono (G := RFoot x vq vw) (fun k hk => .inl (.inr (.inr hk)))).trans tc (fun k hk => .inl (.inl hk))⟩
  · subst e
    rcases hb k hk with h1 | h1
    · exact h.wx h1
    · have := h.hd.typ.lt; omega
  · rcases hk with hk | hk | hk
    · exact .inl (.inl hk)
    · exact .inl (.inr (.inl hk))
    · exact (hb k hk).imp (fun h => .inr (.inr h)) id
end
end Go.Proofs.Ytcnellkoejhofaa
