/-
  SocketPlays' walk: what its steps need of the state. No conditions.
-/
import Derived.Test.YtocaebcbmfejbaaKPl2
import Derived.Test.YtocaebcbmfejbaaKViewO
namespace Go.Proofs.Ytocaebcbmfejbaa
open Go.ChangeShapes Go.WideShapes Go.ChangeAt Go.RowKit

theorem turn_alloc {w : World} (o : Obj) : Turn NoBlock w (w.alloc o) := (Turn.refl NoBlock w).alloc o
theorem wrow_set {w : World} {e g o n c : Nat} {xs : List Value} (h : WRow w e 1 (.slice (some ⟨g, o, none⟩) n c) n xs) {j : Nat} (hj : j < n) (v : Value) : WRow (w.setCell ⟨g, o + j, none⟩ v) e 1 (.slice (some ⟨g, o, none⟩) n c) n (xs.set j v) := by
  obtain ⟨g', o', c', he, h1, h2, h3, h4, h5⟩ := h.shape (by omega)
  simp only [Value.slice.injEq, Option.some.injEq, Addr.mk.injEq, and_true, true_and] at he
  obtain ⟨⟨rfl, rfl⟩, rfl⟩ := he
  have hs : ∀ i, i < c → (w.cell? ⟨g, o + i, none⟩).isSome = true := fun i hi => h5 i (by omega)
  refine ⟨by rw [List.length_set]; exact h.len, .inr ⟨g, o, c, rfl, h1, h2, h3.set _ _ _, fun i hi => ?_, fun i hi => ?_⟩⟩
  · by_cases hij : i = j
    · subst hij
      rw [World.cell?_setCell_same' _ _ _ (hs i (by omega)), List.getElem?_set_self (by have := h.len; omega)]
    · rw [World.cell?_setCell_other w ⟨g, o + j, none⟩ ⟨g, o + i, none⟩ v (fun e => by simp at e <;> omega), List.getElem?_set_ne (fun e => hij e.symm)]
      exact h4 i hi
  · by_cases hij : i = j
    · subst hij
      rw [World.cell?_setCell_same' _ _ _ (hs i (by omega))]; rfl
    · rw [World.cell?_setCell_other w ⟨g, o + j, none⟩ ⟨g, o + i, none⟩ v (fun e => by simp at e <;> omega)]
      exact h5 i hi
section
variable {w0 w w' : World} {c x room : Nat} {dg : Bool} {Y Z : Nat → Prop} {K K1 : Nat → En}
/-- Both sockets, new. -/
theorem pst_new {ob : Array Value} (h : KSt w0 w c dg room (fun _ => En.new) NoBlock) (hr2 : room ≤ 1048576) (hob : ob = #[.slice none 0 0, .slice none 0 0, .bool false, .bool false, .bool false, .bool false, .bool false, .bool false, .bool dg, .int .i64 (room : Int)]) :
    PSx w0 (w.alloc (.cells ob 60 (0, 0))) c w.heap.size dg room NoBlock (fun _ => En.new) (fun _ => En.new) := by
  have hc : ∀ j u, ob[j]? = some u → (w.alloc (.cells ob 60 (0, 0))).cell? ⟨w.heap.size, j, none⟩ = some u := fun j u hu => by
    rw [cell_at (heap_alloc_new w _)]
    exact hu
  subst hob
  have hF : ∀ k, RF w.heap.size (fun _ => .slice none 0 0) (fun _ => []) k → k = w.heap.size := by
    rintro k (h | ⟨e, -, h⟩ | ⟨e, -, q, hq, -⟩)
    · exact h
    · exact (blk_nil k h).elim
    · cases hq
  have two : ∀ e, e < 2 → e = 0 ∨ e = 1 := fun e he => by omega
  refine ⟨fun _ => false, fun _ => false, fun _ => false, fun _ => .slice none 0 0, fun _ => [], h.more (turn_alloc _) (fun k hk => .inr ?_) (fun k hk => hk.elim), ⟨⟨_, heap_alloc_new w _⟩, ?_, ?_, ?_, ?_, hc 8 _ rfl, hc 9 _ rfl, fun e _ => wrow_nil _ _ _, (fun e _ q hq => (List.not_mem_nil hq).elim)⟩, ⟨?_, ?_, ?_, ?_, ?_, ?_, ?_, ?_⟩, fun j hj => hj.elim, ?_, hr2⟩
  · rcases hk with hk | hk
    · obtain rfl := hF k hk
      exact ⟨Nat.le_refl _, lt_of_block (heap_alloc_new w _)⟩
    · exact hk.elim
  · intro e he; rcases two e he with rfl | rfl <;> exact hc _ _ rfl
  · intro e he; rcases two e he with rfl | rfl <;> exact hc _ _ rfl
  · intro e he; rcases two e he with rfl | rfl <;> exact hc _ _ rfl
  · intro e he; rcases two e he with rfl | rfl <;> exact hc _ _ rfl
  · exact fun e _ => ⟨Nat.zero_le _, fun _ => rfl, (fun _ x hx => (List.not_mem_nil hx).elim), fun _ => rfl, (fun h => Bool.noConfusion h)⟩
  · exact fun e _ => rfl
  · exact fun e _ _ => rfl
  · exact fun e _ _ => rfl
  · exact fun e _ => rfl
  · exact fun e _ _ => rfl
  · exact fun e _ _ q hq => (List.not_mem_nil hq).elim
  · exact fun e _ q hq => (List.not_mem_nil hq).elim
  · intro k hk
    rcases hk with hk | hk
    · rw [hF k hk]; exact h.turn.size
    · exact hk.elim
/-- A box is laid beside both. -/
theorem psx_box {o : Obj} (h : PSx w0 w c x dg room Y K1 K) : PSx w0 (w.alloc o) c x dg room (fun k => k = w.heap.size) K1 K :=
  h.more ((turn_alloc o).mono (fun k hk => hk.elim)) (fun _ hk => .inr (by rw [hk]; exact ⟨Nat.le_refl _, lt_of_block (heap_alloc_new w o)⟩))
/-- New bytes are laid beside both. -/
theorem psx_new {v : Value} {b : List UInt8} (h : PSx w0 w c x dg room Y K1 K) (hv : Byts v b w') (hn : ∀ k, Blk v k → w.heap.size ≤ k) (t : Turn NoBlock w w') : PSx w0 w' c x dg room (fun k => Y k ∨ Blk v k) K1 K :=
  h.more (t.mono (fun _ hk => hk.elim)) (fun k hk => hk.imp (fun h => h) (fun h => ⟨hn k h, WRow.lt hv h⟩))
/-- Bytes, whatever they are. -/
def UB (w : World) (v : Value) (n : Nat) : Prop := ∃ xs, WRow w 5 1 v n xs ∧ ∀ j, j < n → ∃ z, xs[j]? = some (.int .u8 z)
theorem ub_byts {v : Value} {b : List UInt8} (h : Byts v b w) : UB w v b.length := ⟨_, h, fun j hj => ⟨(b[j].toNat : Nat), by unfold bcells; rw [List.getElem?_map, List.getElem?_eq_getElem hj]; rfl⟩⟩
theorem UB.shape {v : Value} {n j : Nat} (h : UB w v n) (hj : j < n) : ∃ g o ca z, v = .slice (some ⟨g, o, none⟩) n ca ∧ w.cell? ⟨g, o + j, none⟩ = some (.int .u8 z) ∧ w.frozen? ⟨g, o + j, none⟩ = false := by
  obtain ⟨xs, h1, h2⟩ := h
  obtain ⟨g, o, ca, he, -, -, htb, hce, -⟩ := h1.shape (by omega)
  obtain ⟨z, hz⟩ := h2 j hj
  exact ⟨g, o, ca, z, he, by rw [hce j (by omega)]; exact hz, htb.free _⟩
/-- One of them is set. -/
theorem psx_set {g o n ca j : Nat} (h : PSx w0 w c x dg room Y K1 K) (hv : UB w (.slice (some ⟨g, o, none⟩) n ca) n) (hj : j < n) (z : Int) (hY : Y g) :
    PSx w0 (w.setCell ⟨g, o + j, none⟩ (.int .u8 z)) c x dg room Y K1 K ∧ UB (w.setCell ⟨g, o + j, none⟩ (.int .u8 z)) (.slice (some ⟨g, o, none⟩) n ca) n := by
  obtain ⟨xs, h1, h2⟩ := hv
  refine ⟨h.more ((Turn.refl _ w).setCell (p := ⟨g, o + j, none⟩) (.inl hY) _) (fun k hk => .inl hk), _, wrow_set h1 hj _, fun i hi => ?_⟩
  by_cases hij : i = j
  · subst hij
    exact ⟨z, List.getElem?_set_self (by rw [h1.len] ; omega)⟩
  · rw [List.getElem?_set_ne (fun e => hij e.symm)]
    exact h2 i hi
/-- Both, and the box of a call beside. -/
def BX (w0 w : World) (c x : Nat) (dg : Bool) (room B : Nat) (ob : Array Value) (K1 K : Nat → En) : Prop := PSx w0 w c x dg room (fun k => k = B) K1 K ∧ w.heap[B]? = some (.cells ob 62 (0, 0))
theorem BX.ps {B : Nat} {ob : Array Value} (h : BX w0 w c x dg room B ob K1 K) : PSx w0 w c x dg room (fun k => k = B) K1 K := h.1
theorem BX.past {B : Nat} {ob : Array Value} (h : BX w0 w c x dg room B ob K1 K) (t : Turn NoBlock w w') : BX w0 w' c x dg room B ob K1 K := ⟨h.1.past t, t.heap h.2 (fun h => h)⟩
theorem BX.cells {B : Nat} {a0 a1 a2 a3 a4 a5 : Value} (h : BX w0 w c x dg room B #[a0, a1, a2, a3, a4, a5] K1 K) : w.cell? ⟨B, 0, none⟩ = some a0 ∧ w.cell? ⟨B, 1, none⟩ = some a1 ∧ w.cell? ⟨B, 2, none⟩ = some a2 ∧ w.cell? ⟨B, 3, none⟩ = some a3 ∧ w.cell? ⟨B, 4, none⟩ = some a4 ∧ w.cell? ⟨B, 5, none⟩ = some a5 := by
  refine ⟨?_, ?_, ?_, ?_, ?_, ?_⟩ <;> (rw [cell_at h.2]; rfl)
theorem hx_cell0 {o : Bool} (h : PSx w0 w c x dg room Y K1 K) (ho : (K 0).op = o) : w.cell? ⟨x, 2 + 0, none⟩ = some (.bool (!o)) := by
  obtain ⟨C, M, D, U, Q, h⟩ := h
  have := h.r.cc 0 (by omega)
  rw [h.rel.c 0 (by omega), ho] at this
  exact this
theorem hx_cell1 {o : Bool} (h : PSx w0 w c x dg room Y K1 K) (ho : (K 1).op = o) : w.cell? ⟨x, 2 + 1, none⟩ = some (.bool (!o)) := by
  obtain ⟨C, M, D, U, Q, h⟩ := h
  have := h.r.cc 1 (by omega)
  rw [h.rel.c 1 (by omega), ho] at this
  exact this
/-- What an end's status is. -/
theorem st_any (K : Nat → En) (e : Int) : (e = 0 ∧ (K 0).op = true ∧ stI K e = 0) ∨ (e = 0 ∧ (K 0).op = false ∧ stI K e = -24) ∨ (e = 1 ∧ (K 1).op = true ∧ stI K e = 0) ∨ (e = 1 ∧ (K 1).op = false ∧ stI K e = -24) ∨ (e ≠ 0 ∧ e ≠ 1 ∧ stI K e = -10) := by
  unfold stI shutS
  by_cases e0 : e = 0
  · subst e0
    cases h : (K 0).op <;> simp
  · by_cases e1 : e = 1
    · subst e1
      cases h : (K 1).op <;> simp
    · simp [e0, e1]
end
end Go.Proofs.Ytocaebcbmfejbaa
