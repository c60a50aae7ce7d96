/-
  The port and the document's port beside each other, in a law's state. No conditions.
-/
import Derived.Test.YtcnellkoejhofaaRSame
import Derived.Test.YtcnellkoejhofaaQAwake
namespace Go.Proofs.Ytcnellkoejhofaa
open Go.ChangeShapes Go.WideShapes Go.ChangeAt Go.RowKit

section
variable {w0 w w' : World} {c x : Nat} {depth most : Int} {Q Q' RQ RQ' : List Pk} {Ws Ws' RWs RWs' : List Wc} {X Y Z : Nat → Prop}
theorem PSt.turned (h : PSt w0 w c depth most Q Ws X) {F : Nat → Prop} (t : Turn F w w') (hF : ∀ k, F k → X k ∧ w0.heap.size ≤ k) (hY : ∀ k, Y k → X k ∨ (w.heap.size ≤ k ∧ k < w'.heap.size)) : PSt w0 w' c depth most Q Ws Y := by
  obtain ⟨v, b, V, K, h1, h4, h5⟩ := h.ex
  refine ⟨⟨v, b, V, K, h1.kept t (fun k hk hx => (h5 k (hF k hx).1).2 hk), h4, fun k hk => ?_⟩, h.ok, h.turn.trans t (fun k hk => .inr (hF k hk).2)⟩
  rcases hY k hk with h6 | h6
  · exact ⟨Nat.lt_of_lt_of_le (h5 k h6).1 t.size, (h5 k h6).2⟩
  · exact ⟨h6.2, fun hh => by have := h1.lt hh; omega⟩
structure PP (w0 w : World) (c x : Nat) (depth most : Int) (Q : List Pk) (Ws : List Wc) (RQ : List Pk) (RWs : List Wc) (Y : Nat → Prop) : Prop where
  ex : ∃ vq vw, PSt w0 w c depth most Q Ws (fun k => RFoot x vq vw k ∨ Y k) ∧ RM w x depth most vq vw RQ RWs ∧ ∀ k, RFoot x vq vw k → w0.heap.size ≤ k ∧ ¬ Y k
theorem PP.turn (h : PP w0 w c x depth most Q Ws RQ RWs Y) : Turn NoBlock w0 w := by
  obtain ⟨vq, vw, h1, -⟩ := h.ex
  exact h1.turn
theorem PP.ok (h : PP w0 w c x depth most Q Ws RQ RWs Y) : POk depth most Q Ws := by
  obtain ⟨vq, vw, h1, -⟩ := h.ex
  exact h1.ok
theorem PP.past (h : PP w0 w c x depth most Q Ws RQ RWs Y) (t : Turn NoBlock w w') : PP w0 w' c x depth most Q Ws RQ RWs Y := by
  obtain ⟨vq, vw, h1, h2, h3⟩ := h.ex
  exact ⟨⟨vq, vw, h1.past t, h2.past t, h3⟩⟩
theorem PP.fewer (h : PP w0 w c x depth most Q Ws RQ RWs Y) (hZ : ∀ k, Z k → Y k) : PP w0 w c x depth most Q Ws RQ RWs Z := by
  obtain ⟨vq, vw, h1, h2, h3⟩ := h.ex
  exact ⟨⟨vq, vw, h1.fewer (fun k hk => hk.imp id (hZ k)), h2, fun k hk => ⟨(h3 k hk).1, fun hz => (h3 k hk).2 (hZ k hz)⟩⟩⟩
theorem PP.same (h : PP w0 w c x depth most Q Ws RQ RWs Y) (e1 : Q = Q') (e2 : Ws = Ws') (e3 : RQ = RQ') (e4 : RWs = RWs') : PP w0 w c x depth most Q' Ws' RQ' RWs' Y := e1 ▸ e2 ▸ e3 ▸ e4 ▸ h
/-- A block laid beside. -/
theorem PP.beside (h : PP w0 w c x depth most Q Ws RQ RWs Y) (o : Obj) : PP w0 (w.alloc o) c x depth most Q Ws RQ RWs (fun k => Y k ∨ k = w.heap.size) := by
  obtain ⟨vq, vw, h1, h2, h3⟩ := h.ex
  have t : Turn NoBlock w (w.alloc o) := (Turn.refl _ w).alloc _
  refine ⟨⟨vq, vw, h1.turned t (fun _ h => h.elim) (fun k hk => ?_), h2.past t, fun k hk => ⟨(h3 k hk).1, fun hy => ?_⟩⟩⟩
  · rcases hk with hk | hk | hk
    · exact .inl (.inl hk)
    · exact .inl (.inr hk)
    · exact .inr ⟨by omega, by rw [World.size_alloc]; omega⟩
  · rcases hy with hy | hy
    · exact (h3 k hk).2 hy
    · have := h2.lt hk; omega
theorem PP.prog {vq vw : Value} (h2 : RM w x depth most vq vw RQ RWs) (h3 : ∀ k, RFoot x vq vw k → w0.heap.size ≤ k ∧ ¬ Y k) (g1 : PSt w0 w' c depth most Q' Ws' (fun k => RFoot x vq vw k ∨ Y k)) (g2 : Kp (fun k => RFoot x vq vw k ∨ Y k) w w') : PP w0 w' c x depth most Q' Ws' RQ RWs Y ∧ Kp Y w w' := by
  obtain ⟨F, t, hF⟩ := g2
  exact ⟨⟨⟨vq, vw, g1, h2.kept t (fun k hk => hF k (.inl hk)), h3⟩⟩, F, t, fun k hk => hF k (.inr hk)⟩
theorem PP.refd {vq vw : Value} (h1 : PSt w0 w c depth most Q Ws (fun k => RFoot x vq vw k ∨ Y k)) (_h2 : RM w x depth most vq vw RQ RWs) (h3 : ∀ k, RFoot x vq vw k → w0.heap.size ≤ k ∧ ¬ Y k) (hY : ∀ k, Y k → k < w.heap.size) (g : RMade w w' x depth most vq vw RQ' RWs') : PP w0 w' c x depth most Q Ws RQ' RWs' Y ∧ Kp Y w w' := by
  obtain ⟨vq', vw', m, hf, t⟩ := g
  refine ⟨⟨⟨vq', vw', h1.turned t (fun k hk => ⟨.inl hk, (h3 k hk).1⟩) (fun k hk => ?_), m, fun k hk => ?_⟩⟩, _, t, fun k hk hk' => (h3 k hk').2 hk⟩
  · rcases hk with hk | hk
    · rcases hf k hk with h4 | h4
      · exact .inl (.inl h4)
      · exact .inr ⟨h4, m.lt hk⟩
    · exact .inl (.inr hk)
  · rcases hf k hk with h4 | h4
    · exact h3 k h4
    · exact ⟨Nat.le_trans h1.turn.size h4, fun hy => by have := hY k hy; omega⟩
theorem PP.ylt (h : PP w0 w c x depth most Q Ws RQ RWs Y) {k : Nat} (hk : Y k) : k < w.heap.size := by
  obtain ⟨vq, vw, h1, -⟩ := h.ex
  obtain ⟨v, b, V, K, -, -, h5⟩ := h1.ex
  exact (h5 k (.inr hk)).1

theorem PP.queue (h : PP w0 w c x depth most Q Ws RQ RWs Y) (k n : Int) : Calls Try.prog 10 #[.pointer (some ⟨c, 0, none⟩), .int .i64 k, .int .i64 n] w fun e w' => e = .returned (.int .i64 (queS depth Q)) ∧ PP w0 w' c x depth most (queL depth Q k n) Ws RQ RWs Y ∧ Kp Y w w' := by
  obtain ⟨vq, vw, h1, h2, h3⟩ := h.ex
  refine (h1.queue k n).mono ?_
  rintro e w2 ⟨rfl, g1, g2⟩
  exact ⟨rfl, PP.prog h2 h3 g1 g2⟩
theorem PP.radd (h : PP w0 w c x depth most Q Ws RQ RWs Y) (ok : POk depth most RQ RWs) (k n : Int) : Calls Try.prog 11 #[.pointer (some ⟨x, 0, none⟩), .int .i64 k, .int .i64 n] w fun e w' => e = .returned (.int .i64 (queS depth RQ)) ∧ PP w0 w' c x depth most Q Ws (queL depth RQ k n) RWs Y ∧ Kp Y w w' := by
  obtain ⟨vq, vw, h1, h2, h3⟩ := h.ex
  refine (Proofs.Ytcnellkoejhofaa.radd h2 ok k n).mono ?_
  rintro e w2 ⟨rfl, g⟩
  exact ⟨rfl, PP.refd h1 h2 h3 (fun _ hk => h.ylt hk) g⟩
theorem PP.take (h : PP w0 w c x depth most Q Ws RQ RWs Y) : Calls Try.prog 12 #[.pointer (some ⟨c, 0, none⟩)] w fun e w' => e = .returned (.tuple #[(takP Q).agg, .int .i64 (takS Q)]) ∧ PP w0 w' c x depth most Q.tail Ws RQ RWs Y ∧ Kp Y w w' := by
  obtain ⟨vq, vw, h1, h2, h3⟩ := h.ex
  refine (h1.take).mono ?_
  rintro e w2 ⟨rfl, g1, g2⟩
  exact ⟨rfl, PP.prog h2 h3 g1 g2⟩
theorem PP.rtake (h : PP w0 w c x depth most Q Ws RQ RWs Y) : Calls Try.prog 13 #[.pointer (some ⟨x, 0, none⟩)] w fun e w' => e = .returned (.tuple #[(takP RQ).agg, .int .i64 (takS RQ)]) ∧ PP w0 w' c x depth most Q Ws RQ.tail RWs Y ∧ Kp Y w w' := by
  obtain ⟨vq, vw, h1, h2, h3⟩ := h.ex
  refine (Proofs.Ytcnellkoejhofaa.rtake h2).mono ?_
  rintro e w2 ⟨rfl, g⟩
  exact ⟨rfl, PP.refd h1 h2 h3 (fun _ hk => h.ylt hk) g⟩
theorem PP.watch (h : PP w0 w c x depth most Q Ws RQ RWs Y) (o k m : Int) (ho : fit o) : Calls Try.prog 15 #[.pointer (some ⟨c, 0, none⟩), .int .i64 o, .int .i64 k, .int .i64 m] w fun e w' => e = .returned (.int .i64 (watS most Q Ws o m)) ∧ PP w0 w' c x depth most Q (watL most Q Ws o k m) RQ RWs Y ∧ Kp Y w w' := by
  obtain ⟨vq, vw, h1, h2, h3⟩ := h.ex
  refine (h1.watch o k m ho).mono ?_
  rintro e w2 ⟨rfl, g1, g2⟩
  exact ⟨rfl, PP.prog h2 h3 g1 g2⟩
theorem PP.rwatch (h : PP w0 w c x depth most Q Ws RQ RWs Y) (ok : POk depth most RQ RWs) (o k m : Int) : Calls Try.prog 16 #[.pointer (some ⟨x, 0, none⟩), .int .i64 o, .int .i64 k, .int .i64 m] w fun e w' => e = .returned (.int .i64 (watS most RQ RWs o m)) ∧ PP w0 w' c x depth most Q Ws RQ (watL most RQ RWs o k m) Y ∧ Kp Y w w' := by
  obtain ⟨vq, vw, h1, h2, h3⟩ := h.ex
  refine (Proofs.Ytcnellkoejhofaa.rwatch h2 ok o k m).mono ?_
  rintro e w2 ⟨rfl, g⟩
  exact ⟨rfl, PP.refd h1 h2 h3 (fun _ hk => h.ylt hk) g⟩
theorem PP.tell (h : PP w0 w c x depth most Q Ws RQ RWs Y) (o s : Int) (ho : fit o) : Calls Try.prog 17 #[.pointer (some ⟨c, 0, none⟩), .int .i64 o, .int .i64 s] w fun e w' => e = .returned (.int .i64 (telN Ws o s : Int)) ∧ PP w0 w' c x depth most (Q ++ packs (ofO Ws o) o s) (telL Ws o s) RQ RWs Y ∧ Kp Y w w' := by
  obtain ⟨vq, vw, h1, h2, h3⟩ := h.ex
  refine (h1.tell o s ho).mono ?_
  rintro e w2 ⟨rfl, g1, g2⟩
  exact ⟨rfl, PP.prog h2 h3 g1 g2⟩
theorem PP.rtell (h : PP w0 w c x depth most Q Ws RQ RWs Y) (ok : POk depth most RQ RWs) (o s : Int) : Calls Try.prog 18 #[.pointer (some ⟨x, 0, none⟩), .int .i64 o, .int .i64 s] w fun e w' => e = .returned (.int .i64 (telN RWs o s : Int)) ∧ PP w0 w' c x depth most Q Ws (RQ ++ packs (ofO RWs o) o s) (telL RWs o s) Y ∧ Kp Y w w' := by
  obtain ⟨vq, vw, h1, h2, h3⟩ := h.ex
  refine (Proofs.Ytcnellkoejhofaa.rtell h2 ok.wlen ok.qlen o s).mono ?_
  rintro e w2 ⟨rfl, g⟩
  exact ⟨rfl, PP.refd h1 h2 h3 (fun _ hk => h.ylt hk) g⟩
theorem PP.forget (h : PP w0 w c x depth most Q Ws RQ RWs Y) (o : Int) (ho : fit o) : Calls Try.prog 21 #[.pointer (some ⟨c, 0, none⟩), .int .i64 o] w fun e w' => e = .returned (.int .i64 (frgN Ws o : Int)) ∧ PP w0 w' c x depth most Q (frgL Ws o) RQ RWs Y ∧ Kp Y w w' := by
  obtain ⟨vq, vw, h1, h2, h3⟩ := h.ex
  refine (h1.forget o ho).mono ?_
  rintro e w2 ⟨rfl, g1, g2⟩
  exact ⟨rfl, PP.prog h2 h3 g1 g2⟩
theorem PP.rforget (h : PP w0 w c x depth most Q Ws RQ RWs Y) (ok : POk depth most RQ RWs) (o : Int) : Calls Try.prog 22 #[.pointer (some ⟨x, 0, none⟩), .int .i64 o] w fun e w' => e = .returned (.int .i64 (frgN RWs o : Int)) ∧ PP w0 w' c x depth most Q Ws RQ (frgL RWs o) Y ∧ Kp Y w w' := by
  obtain ⟨vq, vw, h1, h2, h3⟩ := h.ex
  refine (Proofs.Ytcnellkoejhofaa.rforget h2 ok.wlen o).mono ?_
  rintro e w2 ⟨rfl, g⟩
  exact ⟨rfl, PP.refd h1 h2 h3 (fun _ hk => h.ylt hk) g⟩
theorem PP.rcancel (h : PP w0 w c x depth most Q Ws RQ RWs Y) (ok : POk depth most RQ RWs) (o k : Int) : Calls Try.prog 20 #[.pointer (some ⟨x, 0, none⟩), .int .i64 o, .int .i64 k] w fun e w' => e = .returned (.int .i64 (canR RQ RWs o k)) ∧ PP w0 w' c x depth most Q Ws (canQ RQ o k) (canL RWs o k) Y ∧ Kp Y w w' := by
  obtain ⟨vq, vw, h1, h2, h3⟩ := h.ex
  refine (Proofs.Ytcnellkoejhofaa.rcancel h2 ok.wlen ok.qlen o k).mono ?_
  rintro e w2 ⟨rfl, g⟩
  exact ⟨rfl, PP.refd h1 h2 h3 (fun _ hk => h.ylt hk) g⟩
theorem PP.packets (h : PP w0 w c x depth most Q Ws RQ RWs Y) : Calls Try.prog 23 #[.pointer (some ⟨c, 0, none⟩)] w fun e w' => ∃ v', e = .returned v' ∧ PRow v' Q w' ∧ (∀ k, Blk v' k → w.heap.size ≤ k) ∧ Turn NoBlock w w' := by
  obtain ⟨vq, vw, h1, h2, h3⟩ := h.ex
  exact h1.packets
theorem PP.len (h : PP w0 w c x depth most Q Ws RQ RWs Y) : Calls Try.prog 24 #[.pointer (some ⟨c, 0, none⟩)] w fun e w' => e = .returned (.int .i64 (Q.length : Int)) ∧ w = w' := by
  obtain ⟨vq, vw, h1, h2, h3⟩ := h.ex
  exact h1.len
theorem PP.watches (h : PP w0 w c x depth most Q Ws RQ RWs Y) : Calls Try.prog 25 #[.pointer (some ⟨c, 0, none⟩)] w fun e w' => e = .returned (.int .i64 (Ws.length : Int)) ∧ w = w' := by
  obtain ⟨vq, vw, h1, h2, h3⟩ := h.ex
  exact h1.watches
theorem PP.watched (h : PP w0 w c x depth most Q Ws RQ RWs Y) (o : Int) (ho : fit o) : Calls Try.prog 26 #[.pointer (some ⟨c, 0, none⟩), .int .i64 o] w fun e w' => e = .returned (.int .i64 ((ofO Ws o).length : Int)) ∧ w = w' := by
  obtain ⟨vq, vw, h1, h2, h3⟩ := h.ex
  exact h1.watched o ho
end
end Go.Proofs.Ytcnellkoejhofaa
