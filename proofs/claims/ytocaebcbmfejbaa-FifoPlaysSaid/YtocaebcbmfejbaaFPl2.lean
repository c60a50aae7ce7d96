/-
  FifoPlays' state: what Close leaves of the reference; what both show; both new; the box of a call. No conditions.
-/
import Derived.Test.YtocaebcbmfejbaaFPl
namespace Go.Proofs.Ytocaebcbmfejbaa
open Go.ChangeShapes Go.WideShapes Go.ChangeAt Go.RowKit

theorem turn_alloc {w : World} (o : Obj) : Turn NoBlock w (w.alloc o) := (Turn.refl NoBlock w).alloc o
theorem wrow_set {w : World} {e g o n c : Nat} {xs : List Value} (h : WRow w e 1 (.slice (some ⟨g, o, none⟩) n c) n xs) {j : Nat} (hj : j < n) (v : Value) : WRow (w.setCell ⟨g, o + j, none⟩ v) e 1 (.slice (some ⟨g, o, none⟩) n c) n (xs.set j v) := by
  obtain ⟨g', o', c', he, h1, h2, h3, h4, h5⟩ := h.shape (by omega)
  simp only [Value.slice.injEq, Option.some.injEq, Addr.mk.injEq, and_true, true_and] at he
  obtain ⟨⟨rfl, rfl⟩, rfl⟩ := he
  have hs : ∀ i, i < c → (w.cell? ⟨g, o + i, none⟩).isSome = true := fun i hi => h5 i (by omega)
  refine ⟨by rw [List.length_set]; exact h.len, .inr ⟨g, o, c, rfl, h1, h2, h3.set _ _ _, fun i hi => ?_, fun i hi => ?_⟩⟩
  · by_cases hij : i = j
    · subst hij
      rw [World.cell?_setCell_same' _ _ _ (hs i (by omega)), List.getElem?_set_self (by have := h.len; omega)]
    · rw [World.cell?_setCell_other w ⟨g, o + j, none⟩ ⟨g, o + i, none⟩ v (fun e => by simp at e <;> omega), List.getElem?_set_ne (fun e => hij e.symm)]
      exact h4 i hi
  · by_cases hij : i = j
    · subst hij
      rw [World.cell?_setCell_same' _ _ _ (hs i (by omega))]; rfl
    · rw [World.cell?_setCell_other w ⟨g, o + j, none⟩ ⟨g, o + i, none⟩ v (fun e => by simp at e <;> omega)]
      exact h5 i hi
theorem box_cells {w : World} {B : Nat} {a0 a1 a2 a3 : Value} {t : TypeId} (h : w.heap[B]? = some (.cells #[a0, a1, a2, a3] t (0, 0))) : w.cell? ⟨B, 0, none⟩ = some a0 ∧ w.cell? ⟨B, 1, none⟩ = some a1 ∧ w.cell? ⟨B, 2, none⟩ = some a2 ∧ w.cell? ⟨B, 3, none⟩ = some a3 := by
  refine ⟨?_, ?_, ?_, ?_⟩ <;> (rw [cell_at h]; rfl)
theorem cl_same (K : Nat → Re) (en : Int) : stI K en ≠ 0 → clI K en = K := by
  intro h0
  unfold clI clK
  unfold stI at h0
  by_cases e0 : en = 0
  · rw [if_pos e0] at h0 ⊢
    cases ho : (K 0).op <;> simp [ho] at h0 ⊢
    exact updN_self K 0
  · by_cases e1 : en = 1
    · rw [if_neg e0, if_pos e1] at h0 ⊢
      cases ho : (K 1).op <;> simp [ho] at h0 ⊢
      exact updN_self K 1
    · rw [if_neg e0, if_neg e1]
theorem st_any (K : Nat → Re) (e : Int) : (e = 0 ∧ (K 0).op = true ∧ stI K e = 0) ∨ (e = 0 ∧ (K 0).op = false ∧ stI K e = -24) ∨ (e = 1 ∧ (K 1).op = true ∧ stI K e = 0) ∨ (e = 1 ∧ (K 1).op = false ∧ stI K e = -24) ∨ (e ≠ 0 ∧ e ≠ 1 ∧ stI K e = -10) := by
  unfold stI
  by_cases e0 : e = 0
  · subst e0
    cases h : (K 0).op <;> simp
  · by_cases e1 : e = 1
    · subst e1
      cases h : (K 1).op <;> simp
    · simp [e0, e1]
section
variable {w0 w w' wa wb wc : World} {c x count size : Nat} {Y Z : Nat → Prop} {K K1 : Nat → Re}
/-- A box is laid beside both. -/
theorem psx_box {o : Obj} (h : PSx w0 w c x count size Y K1 K) : PSx w0 (w.alloc o) c x count size (fun k => k = w.heap.size) K1 K :=
  h.more ((turn_alloc o).mono (fun k hk => hk.elim)) (fun _ hk => .inr (by rw [hk]; exact ⟨Nat.le_refl _, lt_of_block (heap_alloc_new w o)⟩))
/-- New bytes are laid beside both. -/
theorem psx_new {v : Value} {b : List UInt8} (h : PSx w0 w c x count size Y K1 K) (hv : Byts v b w') (hn : ∀ k, Blk v k → w.heap.size ≤ k) (t : Turn NoBlock w w') : PSx w0 w' c x count size (fun k => Y k ∨ Blk v k) K1 K :=
  h.more (t.mono (fun _ hk => hk.elim)) (fun k hk => hk.imp (fun h => h) (fun h => ⟨hn k h, WRow.lt hv h⟩))
/-- Bytes, whatever they are. -/
def UB (w : World) (v : Value) (n : Nat) : Prop := ∃ xs, WRow w 5 1 v n xs ∧ ∀ j, j < n → ∃ z, xs[j]? = some (.int .u8 z)
theorem ub_byts {v : Value} {b : List UInt8} (h : Byts v b w) : UB w v b.length := ⟨_, h, fun j hj => ⟨(b[j].toNat : Nat), by unfold bcells; rw [List.getElem?_map, List.getElem?_eq_getElem hj]; rfl⟩⟩
theorem UB.shape {v : Value} {n j : Nat} (h : UB w v n) (hj : j < n) : ∃ g o ca z, v = .slice (some ⟨g, o, none⟩) n ca ∧ w.cell? ⟨g, o + j, none⟩ = some (.int .u8 z) ∧ w.frozen? ⟨g, o + j, none⟩ = false := by
  obtain ⟨xs, h1, h2⟩ := h
  obtain ⟨g, o, ca, he, -, -, htb, hce, -⟩ := h1.shape (by omega)
  obtain ⟨z, hz⟩ := h2 j hj
  exact ⟨g, o, ca, z, he, by rw [hce j (by omega)]; exact hz, htb.free _⟩
/-- One of them is set. -/
theorem psx_set {g o n ca j : Nat} (h : PSx w0 w c x count size Y K1 K) (hv : UB w (.slice (some ⟨g, o, none⟩) n ca) n) (hj : j < n) (z : Int) (hY : Y g) :
    PSx w0 (w.setCell ⟨g, o + j, none⟩ (.int .u8 z)) c x count size Y K1 K ∧ UB (w.setCell ⟨g, o + j, none⟩ (.int .u8 z)) (.slice (some ⟨g, o, none⟩) n ca) n := by
  obtain ⟨xs, h1, h2⟩ := hv
  refine ⟨h.more ((Turn.refl _ w).setCell (p := ⟨g, o + j, none⟩) (.inl hY) _) (fun k hk => .inl hk), _, wrow_set h1 hj _, fun i hi => ?_⟩
  by_cases hij : i = j
  · subst hij
    exact ⟨z, List.getElem?_set_self (by rw [h1.len] ; omega)⟩
  · rw [List.getElem?_set_ne (fun e => hij e.symm)]
    exact h2 i hi
/-- Both, and the box of a call beside. -/
def BX (w0 w : World) (c x count size B : Nat) (ob : Array Value) (K1 K : Nat → Re) : Prop := PSx w0 w c x count size (fun k => k = B) K1 K ∧ w.heap[B]? = some (.cells ob 85 (0, 0))
theorem BX.ps {B : Nat} {ob : Array Value} (h : BX w0 w c x count size B ob K1 K) : PSx w0 w c x count size (fun k => k = B) K1 K := h.1
theorem BX.past {B : Nat} {ob : Array Value} (h : BX w0 w c x count size B ob K1 K) (t : Turn NoBlock w w') : BX w0 w' c x count size B ob K1 K := ⟨h.1.past t, t.heap h.2 (fun h => h)⟩
theorem BX.cells {B : Nat} {a0 a1 a2 a3 : Value} (h : BX w0 w c x count size B #[a0, a1, a2, a3] K1 K) : w.cell? ⟨B, 0, none⟩ = some a0 ∧ w.cell? ⟨B, 1, none⟩ = some a1 ∧ w.cell? ⟨B, 2, none⟩ = some a2 ∧ w.cell? ⟨B, 3, none⟩ = some a3 := by
  refine ⟨?_, ?_, ?_, ?_⟩ <;> (rw [cell_at h.2]; rfl)
/-- Both fifos, new. -/
theorem pst_new {ob : Array Value} {G : Nat → Nat} (h : FSt w0 w c count size (fun _ => ⟨true, []⟩) G NoBlock) (hob : ob = #[.slice none 0 0, .slice none 0 0, .bool false, .bool false, .int .i64 (count : Int), .int .i64 (size : Int)]) :
    PSx w0 (w.alloc (.cells ob 83 (0, 0))) c w.heap.size count size NoBlock (fun _ => ⟨true, []⟩) (fun _ => ⟨true, []⟩) := by
  have hc : ∀ j u, ob[j]? = some u → (w.alloc (.cells ob 83 (0, 0))).cell? ⟨w.heap.size, j, none⟩ = some u := fun j u hu => by
    rw [cell_at (heap_alloc_new w _)]
    exact hu
  subst hob
  have hF : ∀ k, QF w.heap.size (fun _ => .slice none 0 0) (fun _ => []) k → k = w.heap.size := by
    rintro k (h | ⟨e, -, h⟩ | ⟨e, -, q, hq, -⟩)
    · exact h
    · exact (blk_nil k h).elim
    · cases hq
  have two : ∀ e, e < 2 → e = 0 ∨ e = 1 := fun e he => by omega
  refine ⟨G, fun _ => false, fun _ => .slice none 0 0, fun _ => [], h.more ((turn_alloc _).mono (fun k hk => hk.elim)) (fun k hk => .inr ?_) (fun k hk => hk.elim), ⟨⟨_, heap_alloc_new w _⟩, ?_, ?_, hc 4 _ rfl, hc 5 _ rfl, fun e _ => wrow_nil _ _ _, (fun e _ q hq => (List.not_mem_nil hq).elim), fun k hk => (blk_nil k hk).elim⟩, ⟨fun e _ => rfl, fun e _ => rfl, fun e _ q hq => (List.not_mem_nil hq).elim⟩, fun e _ => ⟨⟨0, by simp, Nat.zero_le _⟩, (fun h => Bool.noConfusion h)⟩, fun j hj => hj.elim, ?_⟩
  · rcases hk with hk | hk
    · obtain rfl := hF k hk
      exact ⟨Nat.le_refl _, lt_of_block (heap_alloc_new w _)⟩
    · exact hk.elim
  · intro e he; rcases two e he with rfl | rfl <;> exact hc _ _ rfl
  · intro e he; rcases two e he with rfl | rfl <;> exact hc _ _ rfl
  · intro k hk
    rcases hk with hk | hk
    · rw [hF k hk]; exact h.turn.size
    · exact hk.elim
theorem turn_one {F : Nat → Prop} {p1 : Addr} {u1 : Value} (h1 : F p1.block) (t : Turn NoBlock w wa) (t2 : Turn NoBlock (wa.setCell p1 u1) wb) : Turn F w wb :=
  ((t.mono (fun _ hk => hk.elim)).setCell (.inl h1) _).trans t2 (fun _ hk => hk.elim)
theorem turn_two {F : Nat → Prop} {p1 p2 : Addr} {u1 u2 : Value} (h1 : F p1.block) (h2 : F p2.block) (t : Turn NoBlock w wa) (t2 : Turn NoBlock (wa.setCell p1 u1) wb) (t3 : Turn NoBlock (wb.setCell p2 u2) wc) : Turn F w wc := by
  have a1 : Turn F w (wa.setCell p1 u1) := (t.mono (fun k hk => hk.elim)).setCell (.inl h1) _
  have a2 : Turn F w (wb.setCell p2 u2) := (a1.trans t2 (fun k hk => hk.elim)).setCell (.inl h2) _
  exact a2.trans t3 (fun k hk => hk.elim)
variable {G : Nat → Nat} {C : Nat → Bool} {U : Nat → Value} {Q : Nat → Pcs}
theorem pst_x (h : PSt w0 w c x count size Y K K G C U Q) : PSx w0 w c x count size Y K K := ⟨G, C, U, Q, h⟩
/-- The reference's cells of the ends have been set. -/
theorem pst_set {C' : Nat → Bool} {U' : Nat → Value} {Q' : Nat → Pcs} {K2 : Nat → Re} (h : PSt w0 w c x count size Y K2 K G C U Q) (hr : QAt w' x count size C' U' Q') (t : Turn (fun k => k = x) w w') (hf : ∀ k, QF x U' Q' k → QF x U Q k) (hrel : Rel size K2 C' Q') : PSx w0 w' c x count size Y K2 K2 :=
  ⟨G, C', U', Q', h.k.more (t.mono (fun _ hk => .inl (.inl (hk ▸ .inl rfl)))) (fun k hk => .inl (hk.imp (hf k) (fun h => h))) h.mine, hr, hrel, fun e he => h.k.mem.ok e he, fun j hj hx => h.ap j hj (hf j hx), fun j hj => h.mine j (hj.imp (hf j) (fun h => h))⟩
theorem rel_close0 (h : Rel size K C Q) (ho : (K 0).op = true) : Rel size (clI K 0) (updN C 0 true) (updN Q 0 []) := by
  have e1 : clI K 0 = updN K 0 Re.cl := by
    unfold clI clK
    simp [ho]
  rw [e1]
  refine ⟨fun i hi => ?_, fun i hi => ?_, fun i hi => ?_⟩
  all_goals
    by_cases hie : i = 0
    · subst hie
      first
        | (rw [updN_same, updN_same]; rfl)
        | (rw [updN_same]; intro q hq; cases hq)
    · first
        | (rw [updN_other _ _ hie, updN_other _ _ hie]; exact h.c i hi)
        | (rw [updN_other _ _ hie, updN_other _ _ hie]; exact h.d i hi)
        | (rw [updN_other _ _ hie]; exact h.q i hi)
theorem fin_close0 (h : PSt w0 w c x count size Y (clI K 0) K G C U Q) (ho : (K 0).op = true) (t : Turn NoBlock w wa) (t2 : Turn NoBlock (wa.setCell ⟨x, 2 + 0, none⟩ (.bool true)) wb) (t3 : Turn NoBlock (wb.setCell ⟨x, 0, none⟩ (.slice none 0 0)) wc) : PSx w0 wc c x count size NoBlock (clI K 0) (clI K 0) := by
  have r1 := ((((h.r.past t).setC (e := 0) (by omega) true).past t2).setQ (e := 0) (by omega) (Turn.refl _ _) (u := .slice none 0 0) (l := []) (wrow_nil _ _ _) (fun q hq => (List.not_mem_nil hq).elim) (fun k hk => (blk_nil k hk).elim)).past t3
  have t4 : Turn (fun k => k = x) w wc := turn_two rfl rfl t t2 t3
  refine (pst_set h r1 t4 (fun k hk => ?_) (rel_close0 h.rel ho)).fewer (fun k hk => hk.elim)
  rcases hk with hk | ⟨e, he, hk⟩ | ⟨e, he, q, hq, hk⟩
  · exact .inl hk
  · by_cases h1 : e = 0
    · subst h1; rw [updN_same] at hk; exact (blk_nil k hk).elim
    · rw [updN_other _ _ h1] at hk; exact .inr (.inl ⟨e, he, hk⟩)
  · by_cases h1 : e = 0
    · subst h1; rw [updN_same] at hq; exact (List.not_mem_nil hq).elim
    · rw [updN_other _ _ h1] at hq; exact .inr (.inr ⟨e, he, q, hq, hk⟩)
theorem t_len0 (h : PSt w0 w c x count size Y K K G C U Q) : Calls Try.prog 47 #[.pointer (some ⟨c, 0, none⟩), .int .i64 0] w fun y w' => y = .returned (.int .i64 ((Q 0).length : Nat)) ∧ w = w' := by
  have h1 := h.k.len0
  rw [h.rel.ln h.k.mem.r3 (e := 0) (by omega)] at h1
  exact h1
theorem t_shows0 (h : PSt w0 w c x count size Y K K G C U Q) : (Calls Try.prog 49 #[.pointer (some ⟨c, 0, none⟩), .int .i64 0] w fun y w' => y = .returned (.int .i64 (shF count size (K 0) (K 1) : Nat)) ∧ Turn NoBlock w w') ∧ Calls Try.prog 50 #[.pointer (some ⟨x, 0, none⟩), .int .i64 0] w fun y w' => y = .returned (.int .i64 (shF count size (K 0) (K 1) : Nat)) ∧ Turn NoBlock w w' := by
  refine ⟨h.k.shows0, ?_⟩
  have l0 := h.rel.le h.k.mem.r3 (e := 0) (by omega) (h.ok 0 (by omega))
  have l1 := h.rel.le h.k.mem.r3 (e := 1) (by omega) (h.ok 1 (by omega))
  have h2 := h.k.mem.r2
  have h3 := h.k.mem.r3
  have q1 := qshows0 h.r (by omega)
  have d0 := h.rel.dl (e := 0) (by omega)
  have d1 := h.rel.dl (e := 1) (by omega)
  have e1 : (if C 0 = true then 0 else (if (Q 0).length = 0 then 0 else 1) + (if C 1 = true then 4 else if (Q 1).length < count then 2 else 0) : Nat) = shF count size (K 0) (K 1) := by
    unfold shF
    rw [h.rel.c 0 (by omega), h.rel.c 1 (by omega), d0, d1]
    have z0 : ((Q 0).length * size = 0) = ((Q 0).length = 0) := propext ⟨fun h5 => (Nat.mul_eq_zero.1 h5).elim (fun h => h) (fun h => by omega), fun h5 => by rw [h5, Nat.zero_mul]⟩
    have z1 : ((Q 1).length * size = count * size) = ¬ ((Q 1).length < count) := propext ⟨fun h5 h6 => by have := Nat.eq_of_mul_eq_mul_right (by omega) h5; omega, fun h5 => by rw [show (Q 1).length = count by omega]⟩
    simp only [z0, z1]
    cases (K 0).op <;> cases (K 1).op <;> by_cases h5 : (Q 1).length < count <;> simp [h5]
  rw [e1] at q1
  exact q1
theorem t_cells0 (h : PSt w0 w c x count size Y K K G C U Q) : ∃ p ca, w.cell? ⟨x, 0, none⟩ = some (.slice p (Q 0).length ca) ∧ w.cell? ⟨x, 2 + 0, none⟩ = some (.bool (!(K 0).op)) ∧ (Q 0).length ≤ 1024 := by
  obtain ⟨p, ca, hv⟩ := (h.r.row 0 (by omega)).sl
  have c0 : w.cell? ⟨x, 0, none⟩ = some (U 0) := h.r.cw 0 (by omega)
  rw [hv] at c0
  have c1 := h.r.cc 0 (by omega)
  rw [h.rel.c 0 (by omega)] at c1
  exact ⟨p, ca, c0, c1, Nat.le_trans (h.rel.le h.k.mem.r3 (e := 0) (by omega) (h.ok 0 (by omega))) h.k.mem.r2⟩
theorem hx_cell0 {o : Bool} (h : PSx w0 w c x count size Y K1 K) (ho : (K 0).op = o) : w.cell? ⟨x, 2 + 0, none⟩ = some (.bool (!o)) := by
  obtain ⟨G, C, U, Q, h⟩ := h
  have := h.r.cc 0 (by omega)
  rw [h.rel.c 0 (by omega), ho] at this
  exact this
theorem rel_close1 (h : Rel size K C Q) (ho : (K 1).op = true) : Rel size (clI K 1) (updN C 1 true) (updN Q 1 []) := by
  have e1 : clI K 1 = updN K 1 Re.cl := by
    unfold clI clK
    simp [ho]
  rw [e1]
  refine ⟨fun i hi => ?_, fun i hi => ?_, fun i hi => ?_⟩
  all_goals
    by_cases hie : i = 1
    · subst hie
      first
        | (rw [updN_same, updN_same]; rfl)
        | (rw [updN_same]; intro q hq; cases hq)
    · first
        | (rw [updN_other _ _ hie, updN_other _ _ hie]; exact h.c i hi)
        | (rw [updN_other _ _ hie, updN_other _ _ hie]; exact h.d i hi)
        | (rw [updN_other _ _ hie]; exact h.q i hi)
theorem fin_close1 (h : PSt w0 w c x count size Y (clI K 1) K G C U Q) (ho : (K 1).op = true) (t : Turn NoBlock w wa) (t2 : Turn NoBlock (wa.setCell ⟨x, 2 + 1, none⟩ (.bool true)) wb) (t3 : Turn NoBlock (wb.setCell ⟨x, 1, none⟩ (.slice none 0 0)) wc) : PSx w0 wc c x count size NoBlock (clI K 1) (clI K 1) := by
  have r1 := ((((h.r.past t).setC (e := 1) (by omega) true).past t2).setQ (e := 1) (by omega) (Turn.refl _ _) (u := .slice none 0 0) (l := []) (wrow_nil _ _ _) (fun q hq => (List.not_mem_nil hq).elim) (fun k hk => (blk_nil k hk).elim)).past t3
  have t4 : Turn (fun k => k = x) w wc := turn_two rfl rfl t t2 t3
  refine (pst_set h r1 t4 (fun k hk => ?_) (rel_close1 h.rel ho)).fewer (fun k hk => hk.elim)
  rcases hk with hk | ⟨e, he, hk⟩ | ⟨e, he, q, hq, hk⟩
  · exact .inl hk
  · by_cases h1 : e = 1
    · subst h1; rw [updN_same] at hk; exact (blk_nil k hk).elim
    · rw [updN_other _ _ h1] at hk; exact .inr (.inl ⟨e, he, hk⟩)
  · by_cases h1 : e = 1
    · subst h1; rw [updN_same] at hq; exact (List.not_mem_nil hq).elim
    · rw [updN_other _ _ h1] at hq; exact .inr (.inr ⟨e, he, q, hq, hk⟩)
theorem t_len1 (h : PSt w0 w c x count size Y K K G C U Q) : Calls Try.prog 47 #[.pointer (some ⟨c, 0, none⟩), .int .i64 1] w fun y w' => y = .returned (.int .i64 ((Q 1).length : Nat)) ∧ w = w' := by
  have h1 := h.k.len1
  rw [h.rel.ln h.k.mem.r3 (e := 1) (by omega)] at h1
  exact h1
theorem t_shows1 (h : PSt w0 w c x count size Y K K G C U Q) : (Calls Try.prog 49 #[.pointer (some ⟨c, 0, none⟩), .int .i64 1] w fun y w' => y = .returned (.int .i64 (shF count size (K 1) (K 0) : Nat)) ∧ Turn NoBlock w w') ∧ Calls Try.prog 50 #[.pointer (some ⟨x, 0, none⟩), .int .i64 1] w fun y w' => y = .returned (.int .i64 (shF count size (K 1) (K 0) : Nat)) ∧ Turn NoBlock w w' := by
  refine ⟨h.k.shows1, ?_⟩
  have l0 := h.rel.le h.k.mem.r3 (e := 1) (by omega) (h.ok 1 (by omega))
  have l1 := h.rel.le h.k.mem.r3 (e := 0) (by omega) (h.ok 0 (by omega))
  have h2 := h.k.mem.r2
  have h3 := h.k.mem.r3
  have q1 := qshows1 h.r (by omega)
  have d0 := h.rel.dl (e := 1) (by omega)
  have d1 := h.rel.dl (e := 0) (by omega)
  have e1 : (if C 1 = true then 0 else (if (Q 1).length = 0 then 0 else 1) + (if C 0 = true then 4 else if (Q 0).length < count then 2 else 0) : Nat) = shF count size (K 1) (K 0) := by
    unfold shF
    rw [h.rel.c 1 (by omega), h.rel.c 0 (by omega), d0, d1]
    have z0 : ((Q 1).length * size = 0) = ((Q 1).length = 0) := propext ⟨fun h5 => (Nat.mul_eq_zero.1 h5).elim (fun h => h) (fun h => by omega), fun h5 => by rw [h5, Nat.zero_mul]⟩
    have z1 : ((Q 0).length * size = count * size) = ¬ ((Q 0).length < count) := propext ⟨fun h5 h6 => by have := Nat.eq_of_mul_eq_mul_right (by omega) h5; omega, fun h5 => by rw [show (Q 0).length = count by omega]⟩
    simp only [z0, z1]
    cases (K 1).op <;> cases (K 0).op <;> by_cases h5 : (Q 0).length < count <;> simp [h5]
  rw [e1] at q1
  exact q1
theorem t_cells1 (h : PSt w0 w c x count size Y K K G C U Q) : ∃ p ca, w.cell? ⟨x, 1, none⟩ = some (.slice p (Q 1).length ca) ∧ w.cell? ⟨x, 2 + 1, none⟩ = some (.bool (!(K 1).op)) ∧ (Q 1).length ≤ 1024 := by
  obtain ⟨p, ca, hv⟩ := (h.r.row 1 (by omega)).sl
  have c0 : w.cell? ⟨x, 1, none⟩ = some (U 1) := h.r.cw 1 (by omega)
  rw [hv] at c0
  have c1 := h.r.cc 1 (by omega)
  rw [h.rel.c 1 (by omega)] at c1
  exact ⟨p, ca, c0, c1, Nat.le_trans (h.rel.le h.k.mem.r3 (e := 1) (by omega) (h.ok 1 (by omega))) h.k.mem.r2⟩
theorem hx_cell1 {o : Bool} (h : PSx w0 w c x count size Y K1 K) (ho : (K 1).op = o) : w.cell? ⟨x, 2 + 1, none⟩ = some (.bool (!o)) := by
  obtain ⟨G, C, U, Q, h⟩ := h
  have := h.r.cc 1 (by omega)
  rw [h.rel.c 1 (by omega), ho] at this
  exact this
theorem psx_size (h : PSx w0 w c x count size Y K1 K) : Calls Try.prog 46 #[.pointer (some ⟨c, 0, none⟩)] w fun y w' => y = .returned (.int .i64 (size : Int)) ∧ w = w' := by
  obtain ⟨G, C, U, Q, h⟩ := h
  exact h.k.szc
end
end Go.Proofs.Ytocaebcbmfejbaa
