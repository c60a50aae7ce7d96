/-
  Two waits side by side, and what lies beside both. No conditions but those of the calls.
-/
import Derived.Test.YtabakjimlndhcaaLawFoM
namespace Go.Proofs.Ytabakjimlndhcaa
open Go.ChangeShapes Go.WideShapes Go.ChangeAt Go.RowKit Go.Shelf

/-- Waits whose blocks are F. -/
structure WFt (w0 w : World) (c : Nat) (most : Int) (L : List Wt) (F : Nat → Prop) : Prop where
  ex : ∃ tm lm G r K, WM w c most tm lm G r K ∧ G.map Gw.a = L ∧ ∀ k, F k ↔ GFoot c tm lm G r K k
  fr : ∀ k, F k → w0.heap.size ≤ k
  len : (L.length : Int) ≤ most
  most : 0 ≤ most ∧ most ≤ 65536
section
variable {w0 w w' : World} {c ca cb : Nat} {most : Int} {L L' La La' Lb Lb' : List Wt} {F X Y : Nat → Prop}
theorem WFt.lt (h : WFt w0 w c most L F) {k : Nat} (hk : F k) : k < w.heap.size := by
  obtain ⟨tm, lm, G, r, K, h1, -, h3⟩ := h.ex
  exact h1.mem.lt ((h3 k).1 hk)
theorem WFt.kept (h : WFt w0 w c most L F) (t : Turn Y w w') (hY : ∀ k, F k → ¬ Y k) : WFt w0 w' c most L F := by
  obtain ⟨tm, lm, G, r, K, h1, h2, h3⟩ := h.ex
  exact ⟨⟨tm, lm, G, r, K, h1.kept t (fun k hk => hY k ((h3 k).2 hk)), h2, h3⟩, h.fr, h.len, h.most⟩
theorem WFt.st (h : WFt w0 w c most L F) (ht : Turn NoBlock w0 w) (hY : ∀ k, Y k → k < w.heap.size ∧ ¬ F k) : WSt w0 w c most L Y := by
  obtain ⟨tm, lm, G, r, K, h1, h2, h3⟩ := h.ex
  exact ⟨⟨tm, lm, G, r, K, h1, h2, fun k hk => h.fr k ((h3 k).2 hk), fun k hk => ⟨(hY k hk).1, fun hh => (hY k hk).2 ((h3 k).2 hh)⟩⟩, h.len, h.most, ht⟩
theorem WSt.ft (h : WSt w0 w c most L Y) : ∃ F, WFt w0 w c most L F ∧ ∀ k, Y k → k < w.heap.size ∧ ¬ F k := by
  obtain ⟨tm, lm, G, r, K, h1, h2, h3, h4⟩ := h.ex
  exact ⟨GFoot c tm lm G r K, ⟨⟨tm, lm, G, r, K, h1, h2, fun _ => Iff.rfl⟩, h3, h.len, h.most⟩, h4⟩

structure WTwo (w0 w : World) (ca cb : Nat) (most : Int) (La Lb : List Wt) (X : Nat → Prop) : Prop where
  ex : ∃ Fa Fb, WFt w0 w ca most La Fa ∧ WFt w0 w cb most Lb Fb ∧ (∀ k, Fa k → ¬ Fb k) ∧ ∀ k, X k → k < w.heap.size ∧ ¬ Fa k ∧ ¬ Fb k
  turn : Turn NoBlock w0 w
theorem WTwo.swap (h : WTwo w0 w ca cb most La Lb X) : WTwo w0 w cb ca most Lb La X := by
  obtain ⟨Fa, Fb, h1, h2, h3, h4⟩ := h.ex
  exact ⟨⟨Fb, Fa, h2, h1, fun k hb ha => h3 k ha hb, fun k hk => ⟨(h4 k hk).1, (h4 k hk).2.2, (h4 k hk).2.1⟩⟩, h.turn⟩
theorem WTwo.past (h : WTwo w0 w ca cb most La Lb X) (t : Turn NoBlock w w') : WTwo w0 w' ca cb most La Lb X := by
  obtain ⟨Fa, Fb, h1, h2, h3, h4⟩ := h.ex
  exact ⟨⟨Fa, Fb, h1.kept t (fun _ _ h => h), h2.kept t (fun _ _ h => h), h3, fun k hk => ⟨Nat.lt_of_lt_of_le (h4 k hk).1 t.size, (h4 k hk).2⟩⟩, h.turn.trans t (fun _ h => .inl h)⟩
theorem WTwo.fewer (h : WTwo w0 w ca cb most La Lb X) (hY : ∀ k, Y k → X k) : WTwo w0 w ca cb most La Lb Y := by
  obtain ⟨Fa, Fb, h1, h2, h3, h4⟩ := h.ex
  exact ⟨⟨Fa, Fb, h1, h2, h3, fun k hk => h4 k (hY k hk)⟩, h.turn⟩
theorem WTwo.more (h : WTwo w0 w ca cb most La Lb X) (t : Turn X w w') (hY : ∀ k, Y k → X k ∨ (w.heap.size ≤ k ∧ k < w'.heap.size)) (hX : ∀ k, X k → w0.heap.size ≤ k) : WTwo w0 w' ca cb most La Lb Y := by
  obtain ⟨Fa, Fb, h1, h2, h3, h4⟩ := h.ex
  refine ⟨⟨Fa, Fb, h1.kept t (fun k hk hx => (h4 k hx).2.1 hk), h2.kept t (fun k hk hx => (h4 k hx).2.2 hk), h3, fun k hk => ?_⟩, h.turn.trans t (fun k hk => .inr (hX k hk))⟩
  rcases hY k hk with h5 | h5
  · exact ⟨Nat.lt_of_lt_of_le (h4 k h5).1 t.size, (h4 k h5).2⟩
  · exact ⟨h5.2, fun hh => by have := h1.lt hh; omega, fun hh => by have := h2.lt hh; omega⟩
/-- A call of the first: the other lies beside. -/
theorem WTwo.onA (h : WTwo w0 w ca cb most La Lb X) : ∃ Y, WSt w0 w ca most La Y ∧ ∀ w' La', WSt w0 w' ca most La' Y → Kp Y w w' → WTwo w0 w' ca cb most La' Lb X ∧ Kp X w w' := by
  obtain ⟨Fa, Fb, h1, h2, h3, h4⟩ := h.ex
  refine ⟨fun k => X k ∨ Fb k, h1.st h.turn (fun k hk => hk.elim (fun hx => ⟨(h4 k hx).1, (h4 k hx).2.1⟩) (fun hb => ⟨h2.lt hb, fun ha => h3 k ha hb⟩)), fun w' La' s kp => ?_⟩
  obtain ⟨Fa', g1, g2⟩ := s.ft
  refine ⟨⟨⟨Fa', Fb, g1, ?_, fun k ha hb => (g2 k (.inr hb)).2 ha, fun k hk => ⟨(g2 k (.inl hk)).1, (g2 k (.inl hk)).2, (h4 k hk).2.2⟩⟩, s.turn⟩, kp.mono (fun k hk => .inl hk)⟩
  obtain ⟨Z, t, hZ⟩ := kp
  exact h2.kept t (fun k hk => hZ k (.inr hk))
theorem WTwo.onB (h : WTwo w0 w ca cb most La Lb X) : ∃ Y, WSt w0 w cb most Lb Y ∧ ∀ w' Lb', WSt w0 w' cb most Lb' Y → Kp Y w w' → WTwo w0 w' ca cb most La Lb' X ∧ Kp X w w' := by
  obtain ⟨Y, s, back⟩ := h.swap.onA
  exact ⟨Y, s, fun w' Lb' t k => ⟨(back w' Lb' t k).1.swap, (back w' Lb' t k).2⟩⟩
/-- The second made behind the first. -/
theorem wtwo_new {w1 : World} (h1 : WSt w0 w1 ca most [] NoBlock) (h2 : WSt w1 w' cb most [] NoBlock) : WTwo w0 w' ca cb most [] [] NoBlock := by
  obtain ⟨Fa, a1, -⟩ := h1.ft
  obtain ⟨Fb, b1, -⟩ := h2.ft
  exact ⟨⟨Fa, Fb, a1.kept h2.turn (fun _ _ h => h), ⟨b1.ex, fun k hk => Nat.le_trans h1.turn.size (b1.fr k hk), b1.len, b1.most⟩, fun k ha hb => by have := a1.lt ha; have := b1.fr k hb; omega, fun k hk => hk.elim⟩, h1.turn.trans h2.turn (fun _ h => .inl h)⟩
theorem WTwo.blockA (h : WTwo w0 w ca cb most La Lb X) (t d : Int) (v : Value) (its : List It) (hrow : IRow v its w) (hn : its.length ≤ 1000000000) (hf : fit t) (hd : fit d) (hfi : ∀ i ∈ its, fit i.o ∧ fit i.m) :
    Calls Try.prog 14 #[.pointer (some ⟨ca, 0, none⟩), .int .i64 t, .int .i64 d, v] w fun x w' => x = .returned (.int .i64 (blkS most La t its)) ∧ WTwo w0 w' ca cb most (blkL most La t d its) Lb X ∧ Kp X w w' := by
  obtain ⟨Y, s, back⟩ := h.onA
  exact (s.block t d v its hrow hn hf hd hfi).mono (fun _ _ hh => ⟨hh.1, back _ _ hh.2.1 hh.2.2⟩)
theorem WTwo.blockB (h : WTwo w0 w ca cb most La Lb X) (t d : Int) (v : Value) (its : List It) (hrow : IRow v its w) (hn : its.length ≤ 1000000000) (hf : fit t) (hd : fit d) (hfi : ∀ i ∈ its, fit i.o ∧ fit i.m) :
    Calls Try.prog 14 #[.pointer (some ⟨cb, 0, none⟩), .int .i64 t, .int .i64 d, v] w fun x w' => x = .returned (.int .i64 (blkS most Lb t its)) ∧ WTwo w0 w' ca cb most La (blkL most Lb t d its) X ∧ Kp X w w' := by
  obtain ⟨Y, s, back⟩ := h.onB
  exact (s.block t d v its hrow hn hf hd hfi).mono (fun _ _ hh => ⟨hh.1, back _ _ hh.2.1 hh.2.2⟩)
theorem WTwo.tellA (h : WTwo w0 w ca cb most La Lb X) (o s : Int) (ho : fit o) : Calls Try.prog 17 #[.pointer (some ⟨ca, 0, none⟩), .int .i64 o, .int .i64 s] w fun x w' => ∃ v, x = .returned v ∧ KRow v (La.filterMap (wkA (fun m => meetB m s) o 0 s)) w' ∧ WTwo w0 w' ca cb most (La.filter (keepA (fun m => meetB m s) o)) Lb X ∧ Kp X w w' ∧ ∀ k, Blk v k → w.heap.size ≤ k := by
  obtain ⟨Y, st, back⟩ := h.onA
  refine (st.tell o s ho).mono ?_
  rintro x w' ⟨v, rfl, h1, h2, h3, h4⟩
  exact ⟨v, rfl, h1, (back _ _ h2 h3).1, (back _ _ h2 h3).2, h4⟩
theorem WTwo.countA (h : WTwo w0 w ca cb most La Lb X) : Calls Try.prog 27 #[.pointer (some ⟨ca, 0, none⟩)] w fun x w' => x = .returned (.int .i64 (La.length : Int)) ∧ w = w' := by
  obtain ⟨Y, st, -⟩ := h.onA
  exact st.count
theorem WTwo.countB (h : WTwo w0 w ca cb most La Lb X) : Calls Try.prog 27 #[.pointer (some ⟨cb, 0, none⟩)] w fun x w' => x = .returned (.int .i64 (Lb.length : Int)) ∧ w = w' := by
  obtain ⟨Y, st, -⟩ := h.onB
  exact st.count
theorem WTwo.deadlineB (h : WTwo w0 w ca cb most La Lb X) (t : Int) (ht : fit t) : Calls Try.prog 25 #[.pointer (some ⟨cb, 0, none⟩), .int .i64 t] w fun x w' => x = .returned (.tuple #[.int .i64 (dlOf Lb t), .bool (hasW Lb t)]) ∧ w = w' := by
  obtain ⟨Y, st, -⟩ := h.onB
  exact st.deadline t ht
theorem WTwo.expireB (h : WTwo w0 w ca cb most La Lb X) (now : Int) : Calls Try.prog 19 #[.pointer (some ⟨cb, 0, none⟩), .int .i64 now] w fun x w' => ∃ (v : Value) (D : List Wt), x = .returned v ∧ D.Perm (Lb.filter (fun a => decide (a.d ≤ now))) ∧ D.Pairwise (fun p q => ¬ befW q p) ∧ KRow v (D.map woke) w' ∧ WTwo w0 w' ca cb most La (Lb.filter (fun a => !decide (a.d ≤ now))) X ∧ Kp X w w' ∧ ∀ k, Blk v k → w.heap.size ≤ k := by
  obtain ⟨Y, st, back⟩ := h.onB
  refine (st.expire now).mono ?_
  rintro x w' ⟨v, D, rfl, h1, h2, h3, h4, h5, h6⟩
  exact ⟨v, D, rfl, h1, h2, h3, (back _ _ h4 h5).1, (back _ _ h4 h5).2, h6⟩
end
end Go.Proofs.Ytabakjimlndhcaa
