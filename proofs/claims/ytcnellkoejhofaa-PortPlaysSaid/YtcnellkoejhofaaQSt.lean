/-
  A law's state: behind w0 a port of the packets Q and the watches Ws in blocks of its own. No walk, no conditions.
-/
import Derived.Test.YtcnellkoejhofaaQMem
namespace Go.Proofs.Ytcnellkoejhofaa
open Go.ChangeShapes Go.WideShapes Go.ChangeAt Go.RowKit

/-- The blocks of X are as they were. -/
def Kp (X : Nat → Prop) (w w' : World) : Prop := ∃ F, Turn F w w' ∧ ∀ k, X k → ¬ F k
theorem Kp.row {X : Nat → Prop} {w w' : World} {e size n : Nat} {v : Value} {xs : List Value} (h : Kp X w w') (hr : WRow w e size v n xs) (hv : ∀ k, Blk v k → X k) : WRow w' e size v n xs := by
  obtain ⟨F, t, hF⟩ := h
  exact hr.kept t (fun k hk => hF k (hv k hk))
theorem Kp.heap {X : Nat → Prop} {w w' : World} {k : Nat} {o : Obj} (h : Kp X w w') (hk : w.heap[k]? = some o) (hx : X k) : w'.heap[k]? = some o := by
  obtain ⟨F, t, hF⟩ := h
  exact t.heap hk (hF k hx)
theorem Kp.cell {X : Nat → Prop} {w w' : World} {p : Addr} {v : Value} (h : Kp X w w') (hc : w.cell? p = some v) (hx : X p.block) : w'.cell? p = some v := by
  obtain ⟨F, t, hF⟩ := h
  exact t.cell hc (hF _ hx)
theorem Kp.size {X : Nat → Prop} {w w' : World} (h : Kp X w w') : w.heap.size ≤ w'.heap.size := by
  obtain ⟨F, t, _⟩ := h
  exact t.size
theorem Kp.of_past {X : Nat → Prop} {w w' : World} (t : Turn NoBlock w w') : Kp X w w' := ⟨_, t, fun _ _ h => h⟩
theorem Kp.trans {X : Nat → Prop} {a b c : World} (h : Kp X a b) (k : Kp X b c) (hX : ∀ i, X i → i < a.heap.size) : Kp X a c := by
  obtain ⟨F, t, hF⟩ := h
  obtain ⟨F', t', hF'⟩ := k
  refine ⟨fun i => F i ∨ F' i ∨ a.heap.size ≤ i, (t.mono (fun i hi => .inl (.inl hi))).trans t' (fun i hi => .inl (.inr (.inl hi))), fun i hi h => ?_⟩
  rcases h with h | h | h
  · exact hF i hi h
  · exact hF' i hi h
  · have := hX i hi; omega
theorem Kp.mono {X Y : Nat → Prop} {w w' : World} (h : Kp X w w') (hY : ∀ k, Y k → X k) : Kp Y w w' := by
  obtain ⟨F, t, hF⟩ := h
  exact ⟨F, t, fun k hk => hF k (hY k hk)⟩

/-- What calls can make of a port: no more than there may be. -/
structure POk (depth most : Int) (Q : List Pk) (Ws : List Wc) : Prop where
  dep : 1 ≤ depth ∧ depth ≤ 65536
  mst : 0 ≤ most ∧ most ≤ 65536
  users : (usersN Q : Int) ≤ depth
  fired : (Ws.length : Int) + ((Q.length : Int) - (usersN Q : Int)) ≤ most
  objs : ∀ t ∈ Ws, 1 ≤ t.o
theorem usersN_le (Q : List Pk) : usersN Q ≤ Q.length := List.countP_le_length
theorem POk.qlen {depth most : Int} {Q : List Pk} {Ws : List Wc} (h : POk depth most Q Ws) : Q.length ≤ 131072 := by
  have h1 := h.dep; have h2 := h.mst; have h3 := h.users; have h4 := h.fired; omega
theorem POk.wlen {depth most : Int} {Q : List Pk} {Ws : List Wc} (h : POk depth most Q Ws) : Ws.length ≤ 65536 := by
  have h2 := h.mst; have h4 := h.fired; have := usersN_le Q; omega
theorem POk.ulen {depth most : Int} {Q : List Pk} {Ws : List Wc} (h : POk depth most Q Ws) : usersN Q ≤ 65536 := by
  have h2 := h.dep; have h4 := h.users; omega

structure PSt (w0 w : World) (c : Nat) (depth most : Int) (Q : List Pk) (Ws : List Wc) (X : Nat → Prop) : Prop where
  ex : ∃ v b V K, PM w c depth most v Q b V Ws K ∧ (∀ k, PFoot c v b V k → w0.heap.size ≤ k) ∧ ∀ k, X k → k < w.heap.size ∧ ¬ PFoot c v b V k
  ok : POk depth most Q Ws
  turn : Turn NoBlock w0 w
section
variable {w0 w w' : World} {c b : Nat} {depth most : Int} {Q Q' : List Pk} {Ws Ws' : List Wc} {v v' : Value} {V V' : Int → Value} {K K' : List Int} {X Y : Nat → Prop}
theorem PSt.same (h : PSt w0 w c depth most Q Ws X) (e : Q = Q') (e' : Ws = Ws') : PSt w0 w c depth most Q' Ws' X := e ▸ e' ▸ h
theorem PSt.past (h : PSt w0 w c depth most Q Ws X) (t : Turn NoBlock w w') : PSt w0 w' c depth most Q Ws X := by
  obtain ⟨v, b, V, K, h1, h4, h5⟩ := h.ex
  exact ⟨⟨v, b, V, K, h1.past t, h4, fun k hk => ⟨Nat.lt_of_lt_of_le (h5 k hk).1 t.size, (h5 k hk).2⟩⟩, h.ok, h.turn.trans t (fun _ h => .inl h)⟩
theorem PSt.fewer (h : PSt w0 w c depth most Q Ws X) (hY : ∀ k, Y k → X k) : PSt w0 w c depth most Q Ws Y := by
  obtain ⟨v, b, V, K, h1, h4, h5⟩ := h.ex
  exact ⟨⟨v, b, V, K, h1, h4, fun k hk => h5 k (hY k hk)⟩, h.ok, h.turn⟩
theorem PSt.more (h : PSt w0 w c depth most Q Ws X) (t : Turn X w w') (hY : ∀ k, Y k → X k ∨ (w.heap.size ≤ k ∧ k < w'.heap.size)) (hX : ∀ k, X k → w0.heap.size ≤ k) : PSt w0 w' c depth most Q Ws Y := by
  obtain ⟨v, b, V, K, h1, h4, h5⟩ := h.ex
  refine ⟨⟨v, b, V, K, h1.kept t (fun k hk hx => (h5 k hx).2 hk), h4, fun k hk => ?_⟩, h.ok, h.turn.trans t (fun k hk => .inr (hX k hk))⟩
  rcases hY k hk with h6 | h6
  · exact ⟨Nat.lt_of_lt_of_le (h5 k h6).1 t.size, (h5 k h6).2⟩
  · exact ⟨h6.2, fun hh => by have := h1.lt hh; omega⟩
/-- What a call has made. -/
theorem pst_made (h : PSt w0 w c depth most Q Ws X) (_h1 : PM w c depth most v Q b V Ws K) (h4 : ∀ k, PFoot c v b V k → w0.heap.size ≤ k) (h5 : ∀ k, X k → k < w.heap.size ∧ ¬ PFoot c v b V k)
    (m : PM w' c depth most v' Q' b V' Ws' K') (ok : POk depth most Q' Ws') (hb : ∀ k, Blk v' k → Blk v k ∨ w.heap.size ≤ k) (hV : ∀ i k, Blk (V' i) k → Blk (V i) k ∨ w.heap.size ≤ k) (t : Turn (PFoot c v b V) w w') :
    PSt w0 w' c depth most Q' Ws' X ∧ Kp X w w' := by
  have hall : ∀ k, PFoot c v' b V' k → PFoot c v b V k ∨ w.heap.size ≤ k := by
    rintro k (rfl | hk | rfl | ⟨i, hk⟩)
    · exact .inl (.inl rfl)
    · exact (hb k hk).imp (fun h => .inr (.inl h)) id
    · exact .inl (.inr (.inr (.inl rfl)))
    · exact (hV i k hk).imp (fun h => .inr (.inr (.inr ⟨i, h⟩))) id
  refine ⟨⟨⟨v', b, V', K', m, fun k hk => ?_, fun k hk => ⟨Nat.lt_of_lt_of_le (h5 k hk).1 t.size, fun hf => ?_⟩⟩, ok, h.turn.trans t (fun k hk => .inr (h4 k hk))⟩, _, t, fun k hk => (h5 k hk).2⟩
  · rcases hall k hk with h7 | h7
    · exact h4 k h7
    · exact Nat.le_trans h.turn.size h7
  · rcases hall k hf with h7 | h7
    · exact (h5 k hk).2 h7
    · have := (h5 k hk).1; omega
end
end Go.Proofs.Ytcnellkoejhofaa
