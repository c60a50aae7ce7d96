/-
  Timers and the document's own ones beside each other. No walk, no conditions.
-/
import Derived.Test.YtcbphfpfdfgehaaTTwo
import Derived.Test.YtcbphfpfdfgehaaTRSet
import Derived.Test.YtcbphfpfdfgehaaTRAdv
namespace Go.Proofs.Ytcbphfpfdfgehaa
open Go.ChangeShapes Go.WideShapes Go.ChangeAt Go.RowKit

structure PL (w0 w : World) (c x : Nat) (most na : Int) (La : List En) (nb : Int) (Lb : List En) (X : Nat → Prop) : Prop where
  ex : ∃ F v, TF w0 w c most na La F ∧ RM w x v most nb Lb ∧ (∀ k, (k = x ∨ Blk v k) → w0.heap.size ≤ k ∧ ¬ F k) ∧ ∀ k, X k → k < w.heap.size ∧ ¬ F k ∧ ¬ (k = x ∨ Blk v k)
  turn : Turn NoBlock w0 w
section
variable {w0 w w' : World} {c x : Nat} {most na na' nb nb' : Int} {La La' Lb Lb' : List En} {X Y : Nat → Prop}
theorem PL.past (h : PL w0 w c x most na La nb Lb X) (t : Turn NoBlock w w') : PL w0 w' c x most na La nb Lb X := by
  obtain ⟨F, v, h1, h2, h3, h4⟩ := h.ex
  exact ⟨⟨F, v, h1.kept t (fun _ _ h => h), h2.past t, h3, fun k hk => ⟨Nat.lt_of_lt_of_le (h4 k hk).1 t.size, (h4 k hk).2⟩⟩, h.turn.trans t (fun _ h => .inl h)⟩
theorem PL.turned (h : PL w0 w c x most na La nb Lb X) {K : Nat → Prop} (t : Turn K w w') (hK : ∀ k, K k → X k ∧ w0.heap.size ≤ k) (hY : ∀ k, Y k → X k ∨ (w.heap.size ≤ k ∧ k < w'.heap.size)) : PL w0 w' c x most na La nb Lb Y := by
  obtain ⟨F, v, h1, h2, h3, h4⟩ := h.ex
  refine ⟨⟨F, v, h1.kept t (fun k hf hk => (h4 k (hK k hk).1).2.1 hf), h2.kept t (fun k hg hk => (h4 k (hK k hk).1).2.2 hg), h3, fun k hk => ?_⟩, h.turn.trans t (fun k hk => .inr (hK k hk).2)⟩
  rcases hY k hk with h6 | h6
  · exact ⟨Nat.lt_of_lt_of_le (h4 k h6).1 t.size, (h4 k h6).2⟩
  · exact ⟨h6.2, fun hf => by have := h1.lt hf; omega, fun hg => by have := h2.lt hg; omega⟩
theorem PL.fewer (h : PL w0 w c x most na La nb Lb X) (hY : ∀ k, Y k → X k) : PL w0 w c x most na La nb Lb Y := h.turned (Turn.refl NoBlock w) (fun _ h => h.elim) (fun k hk => .inl (hY k hk))
/-- The program's own, with the document's blocks among those beside it. -/
theorem PL.fst (h : PL w0 w c x most na La nb Lb X) : ∃ G : Nat → Prop, TSt w0 w c most na La (fun k => G k ∨ X k) ∧
    ∀ (w' : World) (na' : Int) (La' : List En) (Y Z : Nat → Prop), TSt w0 w' c most na' La' Z → Kp (fun k => G k ∨ X k) w w' → (∀ k, G k → Z k) → (∀ k, Y k → Z k ∧ (X k ∨ w.heap.size ≤ k)) → PL w0 w' c x most na' La' nb Lb Y := by
  obtain ⟨F, v, h1, h2, h3, h4⟩ := h.ex
  refine ⟨fun k => k = x ∨ Blk v k, h1.st h.turn (fun k hk => hk.elim (fun hg => ⟨h2.lt hg, (h3 k hg).2⟩) (fun hx => ⟨(h4 k hx).1, (h4 k hx).2.1⟩)), fun w' na' La' Y Z hs hk hGZ hY => ?_⟩
  obtain ⟨F', f1, f2⟩ := hs.tf
  obtain ⟨K, t, hK⟩ := hk
  refine ⟨⟨F', v, f1, h2.kept t (fun k hg => hK k (.inl hg)), fun k hg => ⟨(h3 k hg).1, (f2 k (hGZ k hg)).2⟩, fun k hy => ?_⟩, hs.turn⟩
  obtain ⟨q1, q2⟩ := hY k hy
  refine ⟨(f2 k q1).1, (f2 k q1).2, fun hg => ?_⟩
  rcases q2 with q2 | q2
  · exact (h4 k q2).2.2 hg
  · have := h2.lt hg; omega
/-- The document's own. -/
theorem PL.snd (h : PL w0 w c x most na La nb Lb X) : ∃ v, RM w x v most nb Lb ∧
    ∀ (w' : World) (v' : Value) (nb' : Int) (Lb' : List En) (Y : Nat → Prop), RM w' x v' most nb' Lb' → Turn (fun k => k = x) w w' → (∀ k, Blk v' k → Blk v k ∨ w.heap.size ≤ k) → (∀ k, Y k → X k ∨ (w.heap.size ≤ k ∧ k < w'.heap.size ∧ ¬ Blk v' k)) → PL w0 w' c x most na La nb' Lb' Y := by
  obtain ⟨F, v, h1, h2, h3, h4⟩ := h.ex
  refine ⟨v, h2, fun w' v' nb' Lb' Y hr t hv hY => ?_⟩
  have hs := h.turn.size
  refine ⟨⟨F, v', h1.kept t (fun k hf e => (h3 k (.inl e)).2 hf), hr, fun k hk => ?_, fun k hy => ?_⟩, h.turn.trans t (fun k hk => .inr (h3 k (.inl hk)).1)⟩
  · rcases hk with rfl | hk
    · exact h3 k (.inl rfl)
    · rcases hv k hk with h6 | h6
      · exact h3 k (.inr h6)
      · exact ⟨by omega, fun hf => by have := h1.lt hf; omega⟩
  · have hx := h2.lt (.inl rfl)
    rcases hY k hy with h6 | h6
    · obtain ⟨a1, a2, a3⟩ := h4 k h6
      refine ⟨Nat.lt_of_lt_of_le a1 t.size, a2, fun hk => ?_⟩
      rcases hk with e | hk
      · exact a3 (.inl e)
      · rcases hv k hk with h7 | h7
        · exact a3 (.inr h7)
        · omega
    · refine ⟨h6.2.1, fun hf => by have := h1.lt hf; omega, fun hk => ?_⟩
      rcases hk with e | hk
      · omega
      · exact h6.2.2 hk
theorem PL.right (h : PL w0 w c x most na La nb Lb X) : Right La ∧ La.length ≤ 65536 ∧ (0 ≤ na ∧ na ≤ 1099511627776) := by
  obtain ⟨F, v, h1, h2, h3, h4⟩ := h.ex
  have := h1.room
  exact ⟨h1.right, by omega, h1.time⟩
theorem PL.set (h : PL w0 w c x most na La nb Lb X) (k d : Int) (hk : fit k) (hd : fit d) :
    Calls Try.prog 23 #[.pointer (some ⟨c, 0, none⟩), .int .i64 k, .int .i64 d] w fun r w' => r = .returned (.tuple #[.bool (setB na d), .int .i64 (setS most na La k d)]) ∧ PL w0 w' c x most na (setL most na La k d) nb Lb X ∧ Kp X w w' := by
  obtain ⟨G, hs, hmk⟩ := h.fst
  exact (hs.set k d hk hd).mono (fun _ _ hh => ⟨hh.1, hmk _ _ _ X _ hh.2.1 hh.2.2 (fun _ hg => .inl hg) (fun _ hx => ⟨.inr hx, .inl hx⟩), hh.2.2.mono (fun _ hx => .inr hx)⟩)
theorem PL.cancel (h : PL w0 w c x most na La nb Lb X) (k : Int) (hk : fit k) :
    Calls Try.prog 25 #[.pointer (some ⟨c, 0, none⟩), .int .i64 k] w fun r w' => r = .returned (.int .i64 (canS La k)) ∧ PL w0 w' c x most na (dropK La k) nb Lb X ∧ Kp X w w' := by
  obtain ⟨G, hs, hmk⟩ := h.fst
  exact (hs.cancel k hk).mono (fun _ _ hh => ⟨hh.1, hmk _ _ _ X _ hh.2.1 hh.2.2 (fun _ hg => .inl hg) (fun _ hx => ⟨.inr hx, .inl hx⟩), hh.2.2.mono (fun _ hx => .inr hx)⟩)
theorem PL.advance_no (h : PL w0 w c x most na La nb Lb X) (n : Int) (hn : n < 0 ∨ 1099511627776 - na < n) :
    Calls Try.prog 28 #[.pointer (some ⟨c, 0, none⟩), .int .i64 n] w fun r w' => r = .returned (.tuple #[.slice none 0 0, .int .i64 (-10)]) ∧ w = w' := by
  obtain ⟨G, hs, hmk⟩ := h.fst
  exact hs.advance_no n hn
theorem PL.advance (h : PL w0 w c x most na La nb Lb X) (n now' : Int) (h0 : 0 ≤ n) (hn : na + n = now') (hm : now' ≤ 1099511627776) :
    Calls Try.prog 28 #[.pointer (some ⟨c, 0, none⟩), .int .i64 n] w fun r w' => ∃ v, r = .returned (.tuple #[v, .int .i64 0]) ∧ Nums v (keysOf (gone La now')) w' ∧ PL w0 w' c x most now' (rest La now') nb Lb (fun k => X k ∨ Blk v k) ∧ Kp X w w' := by
  obtain ⟨G, hs, hmk⟩ := h.fst
  refine (hs.advance_yes n now' h0 hn hm).mono ?_
  rintro r w' ⟨v, rfl, hv, ht, hkp, hb⟩
  exact ⟨v, rfl, hv, hmk _ _ _ (fun k => X k ∨ Blk v k) _ ht hkp (fun _ hg => .inl (.inl hg)) (fun k hk => hk.elim (fun hx => ⟨.inl (.inr hx), .inl hx⟩) (fun hx => ⟨.inr hx, .inr (hb k hx)⟩)), hkp.mono (fun _ hk => .inr hk)⟩
theorem PL.keys (h : PL w0 w c x most na La nb Lb X) : Calls Try.prog 33 #[.pointer (some ⟨c, 0, none⟩)] w fun r w' => ∃ v, r = .returned v ∧ Nums v (keysOf La) w' ∧ Turn NoBlock w w' := by
  obtain ⟨G, hs, -⟩ := h.fst
  exact hs.keys.mono (fun _ _ ⟨v, h1, h2, h3, _⟩ => ⟨v, h1, h2, h3⟩)
theorem PL.now' (h : PL w0 w c x most na La nb Lb X) : Calls Try.prog 35 #[.pointer (some ⟨c, 0, none⟩)] w fun r w' => r = .returned (.int .i64 na) ∧ w = w' := by
  obtain ⟨G, hs, -⟩ := h.fst
  exact hs.now'
theorem PL.count (h : PL w0 w c x most na La nb Lb X) : Calls Try.prog 34 #[.pointer (some ⟨c, 0, none⟩)] w fun r w' => r = .returned (.int .i64 (La.length : Int)) ∧ w = w' := by
  obtain ⟨G, hs, -⟩ := h.fst
  exact hs.count
theorem PL.deadline (h : PL w0 w c x most na La nb Lb X) (k : Int) (hk : fit k) : Calls Try.prog 31 #[.pointer (some ⟨c, 0, none⟩), .int .i64 k] w fun r w' => r = .returned (.tuple #[.int .i64 (dlK La k), .bool (hasK La k)]) ∧ w = w' := by
  obtain ⟨G, hs, -⟩ := h.fst
  exact hs.deadline k hk
theorem PL.next (h : PL w0 w c x most na La nb Lb X) : Calls Try.prog 32 #[.pointer (some ⟨c, 0, none⟩)] w fun r w' => r = .returned (.tuple #[.int .i64 (fstK La), .int .i64 (fstD La), .bool (!La.isEmpty)]) ∧ Turn NoBlock w w' := by
  obtain ⟨G, hs, -⟩ := h.fst
  exact hs.next
theorem PL.rset (h : PL w0 w c x most na La nb Lb X) (hR : Right Lb) (hl : Lb.length ≤ 65536) (k d : Int) (hk : fit k) (hd : fit d) :
    Calls Try.prog 24 #[.pointer (some ⟨x, 0, none⟩), .int .i64 k, .int .i64 d] w fun r w' => r = .returned (.tuple #[.bool (setB nb d), .int .i64 (setS most nb Lb k d)]) ∧ PL w0 w' c x most na La nb (setL most nb Lb k d) X ∧ Turn (fun k => k = x) w w' := by
  obtain ⟨v, hr, hmk⟩ := h.snd
  exact (rset_any hr hR hl k d hk hd).mono (fun _ _ ⟨h1, v', h2, h3, h4⟩ => ⟨h1, hmk _ _ _ _ X h2 h4 h3 (fun _ hx => .inl hx), h4⟩)
theorem PL.rfind (h : PL w0 w c x most na La nb Lb X) (k : Int) (i : Nat) (hi : At Lb k i) :
    Calls Try.prog 26 #[.pointer (some ⟨x, 0, none⟩), .int .i64 k] w fun r w' => r = .returned (.int .i64 (fndI Lb i)) ∧ w = w' := by
  obtain ⟨v, hr, hmk⟩ := h.snd
  exact rfind_any hr k i hi
theorem PL.rdrop (h : PL w0 w c x most na La nb Lb X) (hR : Right Lb) (k : Int) (i : Nat) (hi : At Lb k i) :
    Calls Try.prog 27 #[.pointer (some ⟨x, 0, none⟩), .int .i64 (fndI Lb i)] w fun r w' => r = .returned (.tuple #[]) ∧ PL w0 w' c x most na La nb (dropK Lb k) X ∧ Turn (fun k => k = x) w w' := by
  obtain ⟨v, hr, hmk⟩ := h.snd
  refine (rdrop_any hr (fndI Lb i) i (fnd_hit hi.le)).mono ?_
  rintro r w' ⟨h1, v', h2, h3, h4⟩
  rw [hi.drop hR] at h2
  exact ⟨h1, hmk _ _ _ _ X h2 h4 (fun q hq => .inr (h3 q hq)) (fun _ hx => .inl hx), h4⟩
theorem PL.radvance_no (h : PL w0 w c x most na La nb Lb X) (hnb : 0 ≤ nb ∧ nb ≤ 1099511627776) (n : Int) (hn : n < 0 ∨ 1099511627776 - nb < n) :
    Calls Try.prog 29 #[.pointer (some ⟨x, 0, none⟩), .int .i64 n] w fun r w' => r = .returned (.tuple #[.slice none 0 0, .int .i64 (-10)]) ∧ w = w' := by
  obtain ⟨v, hr, hmk⟩ := h.snd
  exact radv_no hr hnb n hn
theorem PL.radvance (h : PL w0 w c x most na La nb Lb X) (hnb : 0 ≤ nb ∧ nb ≤ 1099511627776) (n now' : Int) (h0 : 0 ≤ n) (hn : nb + n = now') (hm : now' ≤ 1099511627776) :
    Calls Try.prog 29 #[.pointer (some ⟨x, 0, none⟩), .int .i64 n] w fun r w' => ∃ u, r = .returned (.tuple #[u, .int .i64 0]) ∧ Nums u (keysOf (gone Lb now')) w' ∧ PL w0 w' c x most na La now' (rest Lb now') X ∧ Turn (fun k => k = x) w w' := by
  obtain ⟨v, hr, hmk⟩ := h.snd
  refine (radv_yes hr hnb n now' h0 hn hm).mono ?_
  rintro r w' ⟨u, v', h1, h2, h3, h4, h5, h6⟩
  exact ⟨u, h1, h2, hmk _ _ _ _ X h3 h5 (fun q hq => .inl (h4 q hq)) (fun _ hx => .inl hx), h5⟩
theorem PL.off (h : PL w0 w c x most na La nb Lb X) {k : Nat} (hk : X k) : k ≠ x := by
  obtain ⟨F, v, h1, h2, h3, h4⟩ := h.ex
  exact fun e => (h4 k hk).2.2 (.inl e)
/-- A call that came in, in a box. -/
def Bx (w : World) (ob : Nat) (k key n : Int) : Prop := w.heap[ob]? = some (.cells #[.int .i64 k, .int .i64 key, .int .i64 n] 61 (0, 0))
theorem Bx.cells {ob : Nat} {k key n : Int} (h : Bx w ob k key n) : w.cell? ⟨ob, 1, none⟩ = some (.int .i64 key) ∧ w.cell? ⟨ob, 2, none⟩ = some (.int .i64 n) := ⟨cell_at h 1, cell_at h 2⟩
/-- Both, with the box of the call. -/
structure PB (w0 w : World) (c x : Nat) (most na : Int) (La : List En) (nb : Int) (Lb : List En) (ob : Nat) (k key n : Int) (X : Nat → Prop) : Prop where
  pl : PL w0 w c x most na La nb Lb (fun q => q = ob ∨ X q)
  bx : Bx w ob k key n
variable {ob : Nat} {k key n : Int}
theorem PB.kp (h : PB w0 w c x most na La nb Lb ob k key n X) (hp : PL w0 w' c x most na' La' nb Lb (fun q => q = ob ∨ Y q)) (k' : Kp (fun q => q = ob ∨ X q) w w') : PB w0 w' c x most na' La' nb Lb ob k key n Y := ⟨hp, k'.heap h.bx (.inl rfl)⟩
theorem PB.tx (h : PB w0 w c x most na La nb Lb ob k key n X) (hp : PL w0 w' c x most na La nb' Lb' (fun q => q = ob ∨ Y q)) (t : Turn (fun q => q = x) w w') : PB w0 w' c x most na La nb' Lb' ob k key n Y := ⟨hp, t.heap h.bx (h.pl.off (.inl rfl))⟩
theorem PB.past (h : PB w0 w c x most na La nb Lb ob k key n X) (t : Turn NoBlock w w') : PB w0 w' c x most na La nb Lb ob k key n X := ⟨h.pl.past t, t.heap h.bx (fun h => h)⟩
theorem PB.fewer (h : PB w0 w c x most na La nb Lb ob k key n X) (hY : ∀ k, Y k → X k) : PB w0 w c x most na La nb Lb ob k key n Y := ⟨h.pl.fewer (fun _ hq => hq.elim .inl (fun h => .inr (hY _ h))), h.bx⟩
theorem pb_box (h : PL w0 w c x most na La nb Lb NoBlock) (k key n : Int) : PB w0 (w.alloc (.cells #[.int .i64 k, .int .i64 key, .int .i64 n] 61)) c x most na La nb Lb w.heap.size k key n NoBlock :=
  ⟨h.turned ((Turn.refl NoBlock w).alloc _) (fun _ h => h.elim) (fun q hq => hq.elim (fun e => .inr ⟨by omega, by rw [World.size_alloc]; omega⟩) (fun h => h.elim)), heap_alloc_new w _⟩
theorem pl_new {w1 : World} {c : Nat} {most : Int} (h : TSt w w1 c most 0 [] NoBlock) : PL w (w1.alloc (.cells #[.slice none 0 0, .int .i64 most, .int .i64 0] 59)) c w1.heap.size most 0 [] 0 [] NoBlock := by
  obtain ⟨F, f1, -⟩ := h.tf
  have hb := heap_alloc_new w1 (.cells #[.slice none 0 0, .int .i64 most, .int .i64 0] 59)
  have ht : Turn NoBlock w1 (w1.alloc (.cells #[.slice none 0 0, .int .i64 most, .int .i64 0] 59)) := (Turn.refl _ w1).alloc _
  refine ⟨⟨F, .slice none 0 0, f1.kept ht (fun _ _ h => h), ⟨cell_at hb 0, cell_at hb 1, cell_at hb 2, ⟨_, hb⟩, wrow_nil _ _ _, by simp⟩, fun k hk => ?_, fun k hk => hk.elim⟩, h.turn.trans ht (fun _ h => .inl h)⟩
  rcases hk with rfl | hk
  · exact ⟨h.turn.size, fun hf => by have := f1.lt hf; omega⟩
  · exact (blk_nil k hk).elim
end
end Go.Proofs.Ytcbphfpfdfgehaa
