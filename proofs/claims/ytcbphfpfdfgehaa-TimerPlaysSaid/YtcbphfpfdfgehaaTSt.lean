/-
  A law's state: behind w0 timers of the rising list L in blocks of their own. No walk, no conditions.
-/
import Derived.Test.YtcbphfpfdfgehaaTPush
import Derived.Test.YtcbphfpfdfgehaaTList
namespace Go.Proofs.Ytcbphfpfdfgehaa
open Go.ChangeShapes Go.WideShapes Go.ChangeAt Go.RowKit

/-- The blocks of X are as they were. -/
def Kp (X : Nat → Prop) (w w' : World) : Prop := ∃ F, Turn F w w' ∧ ∀ k, X k → ¬ F k
theorem Kp.row {X : Nat → Prop} {w w' : World} {e size n : Nat} {v : Value} {xs : List Value} (h : Kp X w w') (hr : WRow w e size v n xs) (hv : ∀ k, Blk v k → X k) : WRow w' e size v n xs := by
  obtain ⟨F, t, hF⟩ := h
  exact hr.kept t (fun k hk => hF k (hv k hk))
theorem Kp.heap {X : Nat → Prop} {w w' : World} {k : Nat} {o : Obj} (h : Kp X w w') (hk : w.heap[k]? = some o) (hx : X k) : w'.heap[k]? = some o := by
  obtain ⟨F, t, hF⟩ := h
  exact t.heap hk (hF k hx)
theorem Kp.cell {X : Nat → Prop} {w w' : World} {p : Addr} {v : Value} (h : Kp X w w') (hc : w.cell? p = some v) (hx : X p.block) : w'.cell? p = some v := by
  obtain ⟨F, t, hF⟩ := h
  exact t.cell hc (hF _ hx)
theorem Kp.size {X : Nat → Prop} {w w' : World} (h : Kp X w w') : w.heap.size ≤ w'.heap.size := by
  obtain ⟨F, t, _⟩ := h
  exact t.size
theorem Kp.of_past {X : Nat → Prop} {w w' : World} (t : Turn NoBlock w w') : Kp X w w' := ⟨_, t, fun _ _ h => h⟩
theorem Kp.trans {X : Nat → Prop} {a b c : World} (h : Kp X a b) (k : Kp X b c) (hX : ∀ i, X i → i < a.heap.size) : Kp X a c := by
  obtain ⟨F, t, hF⟩ := h
  obtain ⟨F', t', hF'⟩ := k
  refine ⟨fun i => F i ∨ F' i ∨ a.heap.size ≤ i, (t.mono (fun i hi => .inl (.inl hi))).trans t' (fun i hi => .inl (.inr (.inl hi))), fun i hi h => ?_⟩
  rcases h with h | h | h
  · exact hF i hi h
  · exact hF' i hi h
  · have := hX i hi; omega
theorem Kp.mono {X Y : Nat → Prop} {w w' : World} (h : Kp X w w') (hY : ∀ k, Y k → X k) : Kp Y w w' := by
  obtain ⟨F, t, hF⟩ := h
  exact ⟨F, t, fun k hk => hF k (hY k hk)⟩

structure TSt (w0 w : World) (c : Nat) (most now : Int) (L : List En) (X : Nat → Prop) : Prop where
  ex : ∃ v b H P, TM w c most now v b H P ∧ HeapN (fH H) H.length ∧ H.Perm L ∧ (∀ k, TFoot c v b k → w0.heap.size ≤ k) ∧ ∀ k, X k → k < w.heap.size ∧ ¬ TFoot c v b k
  right : Right L
  room : (L.length : Int) ≤ most ∧ most ≤ 65536
  time : 0 ≤ now ∧ now ≤ 1099511627776
  turn : Turn NoBlock w0 w
section
variable {w0 w w' : World} {c b : Nat} {most now now' : Int} {L L' H H' : List En} {v v' : Value} {P P' : Int → Option Int} {X Y : Nat → Prop}
theorem TSt.past (h : TSt w0 w c most now L X) (t : Turn NoBlock w w') : TSt w0 w' c most now L X := by
  obtain ⟨v, b, H, P, h1, h2, h3, h4, h5⟩ := h.ex
  exact ⟨⟨v, b, H, P, h1.past t, h2, h3, h4, fun k hk => ⟨Nat.lt_of_lt_of_le (h5 k hk).1 t.size, (h5 k hk).2⟩⟩, h.right, h.room, h.time, h.turn.trans t (fun _ h => .inl h)⟩
theorem TSt.fewer (h : TSt w0 w c most now L X) (hY : ∀ k, Y k → X k) : TSt w0 w c most now L Y := by
  obtain ⟨v, b, H, P, h1, h2, h3, h4, h5⟩ := h.ex
  exact ⟨⟨v, b, H, P, h1, h2, h3, h4, fun k hk => h5 k (hY k hk)⟩, h.right, h.room, h.time, h.turn⟩
theorem TSt.more (h : TSt w0 w c most now L X) (t : Turn X w w') (hY : ∀ k, Y k → X k ∨ (w.heap.size ≤ k ∧ k < w'.heap.size)) (hX : ∀ k, X k → w0.heap.size ≤ k) : TSt w0 w' c most now L Y := by
  obtain ⟨v, b, H, P, h1, h2, h3, h4, h5⟩ := h.ex
  refine ⟨⟨v, b, H, P, h1.kept t (fun k hk hx => (h5 k hx).2 hk), h2, h3, h4, fun k hk => ?_⟩, h.right, h.room, h.time, h.turn.trans t (fun k hk => .inr (hX k hk))⟩
  rcases hY k hk with h6 | h6
  · exact ⟨Nat.lt_of_lt_of_le (h5 k h6).1 t.size, (h5 k h6).2⟩
  · exact ⟨h6.2, fun hh => by have := h1.lt hh; omega⟩
/-- What a call has made. -/
theorem tst_made (h : TSt w0 w c most now L X) (_h1 : TM w c most now v b H P) (h4 : ∀ k, TFoot c v b k → w0.heap.size ≤ k) (h5 : ∀ k, X k → k < w.heap.size ∧ ¬ TFoot c v b k)
    (m : TM w' c most now' v' b H' P') (hh : HeapN (fH H') H'.length) (hp : H'.Perm L') (hR : Right L') (hl : (L'.length : Int) ≤ most) (ht : 0 ≤ now' ∧ now' ≤ 1099511627776) (hb : ∀ k, Blk v' k → Blk v k ∨ w.heap.size ≤ k) (t : Turn (TFoot c v b) w w') :
    TSt w0 w' c most now' L' X ∧ Kp X w w' := by
  refine ⟨⟨⟨v', b, H', P', m, hh, hp, fun k hk => ?_, fun k hk => ⟨Nat.lt_of_lt_of_le (h5 k hk).1 t.size, fun hf => ?_⟩⟩, hR, ⟨hl, h.room.2⟩, ht, h.turn.trans t (fun k hk => .inr (h4 k hk))⟩, _, t, fun k hk => (h5 k hk).2⟩
  · rcases hk with h6 | h6 | h6
    · exact h4 k (.inl h6)
    · exact h4 k (.inr (.inl h6))
    · rcases hb k h6 with h7 | h7
      · exact h4 k (.inr (.inr h7))
      · exact Nat.le_trans h.turn.size h7
  · rcases hf with h6 | h6 | h6
    · exact (h5 k hk).2 (.inl h6)
    · exact (h5 k hk).2 (.inr (.inl h6))
    · rcases hb k h6 with h7 | h7
      · exact (h5 k hk).2 (.inr (.inr h7))
      · have := (h5 k hk).1; omega
theorem find_some (h3 : H.Perm L) (hp : PosOK H P) {k : Int} (hk : hasK L k = true) : ∃ i : Nat, P k = some (i : Int) ∧ i < H.length ∧ (eAt H i).k = k := by
  obtain ⟨e, he, hek⟩ := hasK_iff.1 hk
  obtain ⟨i, hi, hie⟩ := mem_eAt (h3.mem_iff.2 he)
  have := hp.all i hi
  rw [hie, hek] at this
  exact ⟨i, this, hi, by rw [hie, hek]⟩
theorem find_none (h3 : H.Perm L) (hp : PosOK H P) {k : Int} (hk : hasK L k = false) : P k = none := by
  cases hP : P k with
  | none => rfl
  | some z =>
    obtain ⟨i, -, hi, he⟩ := hp.only k z hP
    exact absurd he (hasK_no.1 hk _ (h3.mem_iff.1 (eAt_mem hi)))
end
end Go.Proofs.Ytcbphfpfdfgehaa
