/-
  Two timers beside each other. No walk, no conditions.
-/
import Derived.Test.YtcbphfpfdfgehaaTKeys
namespace Go.Proofs.Ytcbphfpfdfgehaa
open Go.ChangeShapes Go.WideShapes Go.ChangeAt Go.RowKit

/-- Timers whose blocks are those of F. -/
structure TF (w0 w : World) (c : Nat) (most now : Int) (L : List En) (F : Nat → Prop) : Prop where
  ex : ∃ v b H P, TM w c most now v b H P ∧ HeapN (fH H) H.length ∧ H.Perm L ∧ (∀ k, TFoot c v b k → w0.heap.size ≤ k) ∧ ∀ k, F k ↔ TFoot c v b k
  right : Right L
  room : (L.length : Int) ≤ most ∧ most ≤ 65536
  time : 0 ≤ now ∧ now ≤ 1099511627776
section
variable {w0 w w' : World} {c : Nat} {most now now' : Int} {L L' : List En} {F G X Y : Nat → Prop}
theorem TF.kept (h : TF w0 w c most now L F) (t : Turn G w w') (hG : ∀ k, F k → ¬ G k) : TF w0 w' c most now L F := by
  obtain ⟨v, b, H, P, h1, h2, h3, h4, h5⟩ := h.ex
  exact ⟨⟨v, b, H, P, h1.kept t (fun k hk => hG k ((h5 k).2 hk)), h2, h3, h4, h5⟩, h.right, h.room, h.time⟩
theorem TF.lt (h : TF w0 w c most now L F) {k : Nat} (hk : F k) : k < w.heap.size := by
  obtain ⟨v, b, H, P, h1, h2, h3, h4, h5⟩ := h.ex
  exact h1.lt ((h5 k).1 hk)
theorem TF.lo (h : TF w0 w c most now L F) {k : Nat} (hk : F k) : w0.heap.size ≤ k := by
  obtain ⟨v, b, H, P, h1, h2, h3, h4, h5⟩ := h.ex
  exact h4 k ((h5 k).1 hk)
theorem TF.st (h : TF w0 w c most now L F) (ht : Turn NoBlock w0 w) (hX : ∀ k, X k → k < w.heap.size ∧ ¬ F k) : TSt w0 w c most now L X := by
  obtain ⟨v, b, H, P, h1, h2, h3, h4, h5⟩ := h.ex
  exact ⟨⟨v, b, H, P, h1, h2, h3, h4, fun k hk => ⟨(hX k hk).1, fun hf => (hX k hk).2 ((h5 k).2 hf)⟩⟩, h.right, h.room, h.time, ht⟩
theorem TSt.tf (h : TSt w0 w c most now L X) : ∃ F, TF w0 w c most now L F ∧ ∀ k, X k → k < w.heap.size ∧ ¬ F k := by
  obtain ⟨v, b, H, P, h1, h2, h3, h4, h5⟩ := h.ex
  exact ⟨TFoot c v b, ⟨⟨v, b, H, P, h1, h2, h3, h4, fun k => Iff.rfl⟩, h.right, h.room, h.time⟩, h5⟩
end
/-- Two timers, and the blocks of X beside them. -/
structure Two (w0 w : World) (ca : Nat) (ma na : Int) (La : List En) (cb : Nat) (mb nb : Int) (Lb : List En) (X : Nat → Prop) : Prop where
  ex : ∃ F G, TF w0 w ca ma na La F ∧ TF w0 w cb mb nb Lb G ∧ (∀ k, F k → ¬ G k) ∧ ∀ k, X k → k < w.heap.size ∧ ¬ F k ∧ ¬ G k
  turn : Turn NoBlock w0 w
section
variable {w0 w w' : World} {ca cb : Nat} {ma na na' mb nb nb' : Int} {La La' Lb Lb' : List En} {X Y : Nat → Prop}
theorem Two.swap (h : Two w0 w ca ma na La cb mb nb Lb X) : Two w0 w cb mb nb Lb ca ma na La X := by
  obtain ⟨F, G, h1, h2, h3, h4⟩ := h.ex
  exact ⟨⟨G, F, h2, h1, fun k hg hf => h3 k hf hg, fun k hk => ⟨(h4 k hk).1, (h4 k hk).2.2, (h4 k hk).2.1⟩⟩, h.turn⟩
theorem Two.past (h : Two w0 w ca ma na La cb mb nb Lb X) (t : Turn NoBlock w w') : Two w0 w' ca ma na La cb mb nb Lb X := by
  obtain ⟨F, G, h1, h2, h3, h4⟩ := h.ex
  exact ⟨⟨F, G, h1.kept t (fun _ _ h => h), h2.kept t (fun _ _ h => h), h3, fun k hk => ⟨Nat.lt_of_lt_of_le (h4 k hk).1 t.size, (h4 k hk).2⟩⟩, h.turn.trans t (fun _ h => .inl h)⟩
/-- Blocks beside them have turned. -/
theorem Two.turned (h : Two w0 w ca ma na La cb mb nb Lb X) {K : Nat → Prop} (t : Turn K w w') (hK : ∀ k, K k → X k ∧ w0.heap.size ≤ k) (hY : ∀ k, Y k → X k ∨ (w.heap.size ≤ k ∧ k < w'.heap.size)) : Two w0 w' ca ma na La cb mb nb Lb Y := by
  obtain ⟨F, G, h1, h2, h3, h4⟩ := h.ex
  refine ⟨⟨F, G, h1.kept t (fun k hf hk => (h4 k (hK k hk).1).2.1 hf), h2.kept t (fun k hg hk => (h4 k (hK k hk).1).2.2 hg), h3, fun k hk => ?_⟩, h.turn.trans t (fun k hk => .inr (hK k hk).2)⟩
  rcases hY k hk with h6 | h6
  · exact ⟨Nat.lt_of_lt_of_le (h4 k h6).1 t.size, (h4 k h6).2⟩
  · exact ⟨h6.2, fun hf => by have := h1.lt hf; omega, fun hg => by have := h2.lt hg; omega⟩
/-- The first one, with the blocks of the other one among those beside it. -/
theorem Two.fst (h : Two w0 w ca ma na La cb mb nb Lb X) : ∃ G : Nat → Prop, TSt w0 w ca ma na La (fun k => G k ∨ X k) ∧
    ∀ (w' : World) (na' : Int) (La' : List En) (Y Z : Nat → Prop), TSt w0 w' ca ma na' La' Z → Kp (fun k => G k ∨ X k) w w' → (∀ k, G k → Z k) → (∀ k, Y k → Z k ∧ (X k ∨ w.heap.size ≤ k)) → Two w0 w' ca ma na' La' cb mb nb Lb Y := by
  obtain ⟨F, G, h1, h2, h3, h4⟩ := h.ex
  refine ⟨G, h1.st h.turn (fun k hk => hk.elim (fun hg => ⟨h2.lt hg, fun hf => h3 k hf hg⟩) (fun hx => ⟨(h4 k hx).1, (h4 k hx).2.1⟩)), fun w' na' La' Y Z hs hk hGZ hY => ?_⟩
  obtain ⟨F', f1, f2⟩ := hs.tf
  obtain ⟨K, t, hK⟩ := hk
  refine ⟨⟨F', G, f1, h2.kept t (fun k hg => hK k (.inl hg)), fun k hf hg => (f2 k (hGZ k hg)).2 hf, fun k hy => ?_⟩, hs.turn⟩
  obtain ⟨q1, q2⟩ := hY k hy
  refine ⟨(f2 k q1).1, (f2 k q1).2, fun hg => ?_⟩
  rcases q2 with q2 | q2
  · exact (h4 k q2).2.2 hg
  · have := h2.lt hg; omega
theorem Two.set (h : Two w0 w ca ma na La cb mb nb Lb X) (k d : Int) (hk : fit k) (hd : fit d) :
    Calls Try.prog 23 #[.pointer (some ⟨ca, 0, none⟩), .int .i64 k, .int .i64 d] w fun x w' => x = .returned (.tuple #[.bool (setB na d), .int .i64 (setS ma na La k d)]) ∧ Two w0 w' ca ma na (setL ma na La k d) cb mb nb Lb X := by
  obtain ⟨G, hs, hmk⟩ := h.fst
  exact (hs.set k d hk hd).mono (fun _ _ hh => ⟨hh.1, hmk _ _ _ X _ hh.2.1 hh.2.2 (fun _ hg => .inl hg) (fun _ hx => ⟨.inr hx, .inl hx⟩)⟩)
theorem Two.adv (h : Two w0 w ca ma na La cb mb nb Lb X) (n now' : Int) (h0 : 0 ≤ n) (hn : na + n = now') (hm : now' ≤ 1099511627776) :
    Calls Try.prog 28 #[.pointer (some ⟨ca, 0, none⟩), .int .i64 n] w fun x w' => ∃ v, x = .returned (.tuple #[v, .int .i64 0]) ∧ Nums v (keysOf (gone La now')) w' ∧ Two w0 w' ca ma now' (rest La now') cb mb nb Lb (fun k => X k ∨ Blk v k) ∧ Kp X w w' ∧ ∀ k, Blk v k → w.heap.size ≤ k := by
  obtain ⟨G, hs, hmk⟩ := h.fst
  refine (hs.advance_yes n now' h0 hn hm).mono ?_
  rintro x w' ⟨v, rfl, hv, ht, hkp, hb⟩
  exact ⟨v, rfl, hv, hmk _ _ _ (fun k => X k ∨ Blk v k) _ ht hkp (fun _ hg => .inl (.inl hg)) (fun k hk => hk.elim (fun hx => ⟨.inl (.inr hx), .inl hx⟩) (fun hx => ⟨.inr hx, .inr (hb k hx)⟩)), hkp.mono (fun _ hk => .inr hk), hb⟩
theorem Two.keys (h : Two w0 w ca ma na La cb mb nb Lb X) : Calls Try.prog 33 #[.pointer (some ⟨ca, 0, none⟩)] w fun x w' => ∃ v, x = .returned v ∧ Nums v (keysOf La) w' ∧ Turn NoBlock w w' := by
  obtain ⟨G, hs, -⟩ := h.fst
  exact hs.keys.mono (fun _ _ ⟨v, h1, h2, h3, _⟩ => ⟨v, h1, h2, h3⟩)
theorem Two.now' (h : Two w0 w ca ma na La cb mb nb Lb X) : Calls Try.prog 35 #[.pointer (some ⟨ca, 0, none⟩)] w fun x w' => x = .returned (.int .i64 na) ∧ w = w' := by
  obtain ⟨G, hs, -⟩ := h.fst
  exact hs.now'
theorem two_new {w1 w2 : World} {c1 c2 : Nat} {m1 m2 : Int} (h1 : TSt w0 w1 c1 m1 0 [] NoBlock) (h2 : TSt w1 w2 c2 m2 0 [] NoBlock) : Two w0 w2 c1 m1 0 [] c2 m2 0 [] NoBlock := by
  obtain ⟨F, f1, -⟩ := h1.tf
  obtain ⟨G, g1, -⟩ := h2.tf
  obtain ⟨v, b, H, P, a1, a2, a3, a4, a5⟩ := g1.ex
  exact ⟨⟨F, G, f1.kept h2.turn (fun _ _ h => h), ⟨⟨v, b, H, P, a1, a2, a3, fun k hk => Nat.le_trans h1.turn.size (a4 k hk), a5⟩, g1.right, g1.room, g1.time⟩, fun k hf hg => by have := f1.lt hf; have := g1.lo hg; omega, fun k hk => hk.elim⟩, h1.turn.trans h2.turn (fun _ h => .inl h)⟩
end
end Go.Proofs.Ytcbphfpfdfgehaa
