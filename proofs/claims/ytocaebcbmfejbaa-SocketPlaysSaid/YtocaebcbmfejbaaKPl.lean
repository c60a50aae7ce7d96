/-
  SocketPlays' state: the program's socket and the reference's, alike; what each of the two calls makes of it. No conditions.
-/
import Derived.Test.YtocaebcbmfejbaaRKLaw2
import Derived.Test.YtocaebcbmfejbaaKAwake
namespace Go.Proofs.Ytocaebcbmfejbaa
open Go.RowKit

/-- The program's socket has the ends K1, the reference's those that answer to K; the blocks of Y lie beside both. -/
structure PSt (w0 w : World) (c x : Nat) (dg : Bool) (room : Nat) (Y : Nat → Prop) (K1 K : Nat → En) (C M D : Nat → Bool) (U : Nat → Value) (Q : Nat → Pcs) : Prop where
  k : KSt w0 w c dg room K1 (fun j => RF x U Q j ∨ Y j)
  r : RAt w x dg room C M D U Q
  rel : Rel dg room K C M D Q
  ap : ∀ j, Y j → ¬ RF x U Q j
  mine : ∀ j, RF x U Q j ∨ Y j → w0.heap.size ≤ j
  r2 : room ≤ 1048576
def PSx (w0 w : World) (c x : Nat) (dg : Bool) (room : Nat) (Y : Nat → Prop) (K1 K : Nat → En) : Prop := ∃ C M D U Q, PSt w0 w c x dg room Y K1 K C M D U Q
section
variable {w0 w w' : World} {c x room : Nat} {dg : Bool} {Y Z : Nat → Prop} {K1 K : Nat → En}
theorem PSx.turn (h : PSx w0 w c x dg room Y K1 K) : Turn NoBlock w0 w := by
  obtain ⟨C, M, D, U, Q, h⟩ := h
  exact h.k.turn
theorem PSx.past (h : PSx w0 w c x dg room Y K1 K) (t : Turn NoBlock w w') : PSx w0 w' c x dg room Y K1 K := by
  obtain ⟨C, M, D, U, Q, h⟩ := h
  exact ⟨C, M, D, U, Q, h.k.past t, h.r.past t, h.rel, h.ap, h.mine, h.r2⟩
/-- What lies beside has turned, or has become other blocks. -/
theorem PSx.more (h : PSx w0 w c x dg room Y K1 K) (t : Turn Y w w') (hZ : ∀ k, Z k → Y k ∨ (w.heap.size ≤ k ∧ k < w'.heap.size)) : PSx w0 w' c x dg room Z K1 K := by
  obtain ⟨C, M, D, U, Q, h⟩ := h
  have hr := h.r.kept t (fun k hk hy => h.ap k hy hk)
  have hz : ∀ k, Z k → ¬ RF x U Q k ∧ w0.heap.size ≤ k := fun k hk => by
    rcases hZ k hk with h1 | h1
    · exact ⟨h.ap k h1, h.mine k (.inr h1)⟩
    · exact ⟨fun h2 => by have := h.r.lt h2; omega, by have := h.k.turn.size; omega⟩
  refine ⟨C, M, D, U, Q, h.k.more (t.mono (fun k hk => .inl (.inr hk))) (fun k hk => ?_) h.mine, hr, h.rel, fun k hk => (hz k hk).1, fun k hk => ?_, h.r2⟩
  · rcases hk with hk | hk
    · exact .inl (.inl hk)
    · rcases hZ k hk with h1 | h1
      · exact .inl (.inr h1)
      · exact .inr h1
  · rcases hk with hk | hk
    · exact h.mine k (.inl hk)
    · exact (hz k hk).2
theorem PSx.fewer (h : PSx w0 w c x dg room Y K1 K) (hZ : ∀ k, Z k → Y k) : PSx w0 w c x dg room Z K1 K := by
  obtain ⟨C, M, D, U, Q, h⟩ := h
  exact ⟨C, M, D, U, Q, h.k.fewer (fun k hk => hk.imp (fun h => h) (hZ k)), h.r, h.rel, fun k hk => h.ap k (hZ k hk), fun k hk => h.mine k (hk.imp (fun h => h) (hZ k)), h.r2⟩
/-- The program's call has been made. -/
theorem pst_prog {C M D : Nat → Bool} {U : Nat → Value} {Q : Nat → Pcs} {K2 : Nat → En} (h : PSt w0 w c x dg room Y K1 K C M D U Q) (hk : KSt w0 w' c dg room K2 (fun j => RF x U Q j ∨ Y j)) (kp : Kp (fun j => RF x U Q j ∨ Y j) w w') : PSt w0 w' c x dg room Y K2 K C M D U Q := by
  obtain ⟨F, t, hF⟩ := kp
  exact ⟨hk, h.r.kept t (fun k hk hf => hF k (.inl hk) hf), h.rel, h.ap, h.mine, h.r2⟩
/-- The reference's call has been made. -/
theorem pst_ref {C M D : Nat → Bool} {U : Nat → Value} {Q Q' : Nat → Pcs} {K2 : Nat → En} {V : Nat → Prop} (h : PSt w0 w c x dg room (fun j => Y j ∨ V j) K1 K C M D U Q) (hYV : ∀ j, Y j → ¬ V j) (hm : RMadeQ w w' x dg room C M D U Q V Q') (hr : Rel dg room K2 C M D Q') : PSx w0 w' c x dg room Y K1 K2 := by
  obtain ⟨U', h1, t, h3⟩ := hm
  have ht := h.k.turn.size
  refine ⟨C, M, D, U', Q', h.k.more (t.mono (fun k hk => .inl (.inl (hk ▸ .inl rfl)))) (fun k hk => ?_) h.mine, h1, hr, fun j hj hf => ?_, fun j hj => ?_, h.r2⟩
  · rcases hk with hk | hk
    · rcases h3 k hk with h4 | h4 | h4
      · exact .inl (.inl h4)
      · exact .inl (.inr (.inr h4))
      · exact .inr h4
    · exact .inl (.inr (.inl hk))
  · rcases h3 j hf with h4 | h4 | h4
    · exact h.ap j (.inl hj) h4
    · exact hYV j hj h4
    · obtain ⟨V', hM, -, -, h5⟩ := h.k
      have := (h5 j (.inr (.inl hj))).1
      omega
  · rcases hj with hj | hj
    · rcases h3 j hj with h4 | h4 | h4
      · exact h.mine j (.inl h4)
      · exact h.mine j (.inr (.inr h4))
      · omega
    · exact h.mine j (.inr (.inl hj))
/-- Write's answer at any end, and the ends behind it. -/
def wN (dg : Bool) (room : Nat) (K : Nat → En) (e : Int) (n : Nat) : Int := if e = 0 then (wrN dg room K 0 n : Nat) else if e = 1 then (wrN dg room K 1 n : Nat) else 0
def wS (dg : Bool) (room : Nat) (K : Nat → En) (e : Int) (n : Nat) : Int := if e = 0 then wrS dg room K 0 n else if e = 1 then wrS dg room K 1 n else -10
def wK (dg : Bool) (room : Nat) (K : Nat → En) (e : Int) (b : List UInt8) : Nat → En := if e = 0 then wrK dg room K 0 b else if e = 1 then wrK dg room K 1 b else K
def rS (K : Nat → En) (e n : Int) : Int := if e = 0 then rdSt K 0 n else if e = 1 then rdSt K 1 n else -10
def rB (K : Nat → En) (e n : Int) : List UInt8 := if e = 0 then rdB K 0 n else if e = 1 then rdB K 1 n else []
def rK (K : Nat → En) (e n : Int) (pk : Bool) : Nat → En := if e = 0 then rdK K 0 n pk else if e = 1 then rdK K 1 n pk else K
/-- The program's Write. -/
theorem p_write (h : PSx w0 w c x dg room Y K K) (e : Int) (vb : Value) (b : List UInt8) (hb : b.length ≤ 1000000) (hr : Rk w vb b) :
    Calls Try.prog 25 #[.pointer (some ⟨c, 0, none⟩), .int .i64 e, vb] w fun y w' => y = .returned (.tuple #[.int .i64 (wN dg room K e b.length), .int .i64 (wS dg room K e b.length)]) ∧ PSx w0 w' c x dg room Y (wK dg room K e b) K ∧ Kp Y w w' := by
  obtain ⟨C, M, D, U, Q, h⟩ := h
  have kp2 : ∀ {w' : World}, Kp (fun j => RF x U Q j ∨ Y j) w w' → Kp Y w w' := fun h => by
    obtain ⟨F, t, hF⟩ := h
    exact ⟨F, t, fun k hk => hF k (.inr hk)⟩
  unfold wN wS wK
  by_cases e0 : e = 0
  · subst e0
    rw [if_pos rfl, if_pos rfl, if_pos rfl]
    exact (h.k.write0 vb b hb hr).mono (fun y w' hh => ⟨hh.1, ⟨C, M, D, U, Q, pst_prog h hh.2.1 hh.2.2⟩, kp2 hh.2.2⟩)
  · by_cases e1 : e = 1
    · subst e1
      rw [if_neg (show ¬ (1 : Int) = 0 by decide), if_pos rfl, if_neg (show ¬ (1 : Int) = 0 by decide), if_pos rfl, if_neg (show ¬ (1 : Int) = 0 by decide), if_pos rfl]
      exact (h.k.write1 vb b hb hr).mono (fun y w' hh => ⟨hh.1, ⟨C, M, D, U, Q, pst_prog h hh.2.1 hh.2.2⟩, kp2 hh.2.2⟩)
    · rw [if_neg e0, if_neg e1, if_neg e0, if_neg e1, if_neg e0, if_neg e1]
      exact (kwrite_bad c e vb w e0 e1).mono (fun y w' hh => by
        obtain ⟨rfl, rfl⟩ := hh
        exact ⟨rfl, ⟨C, M, D, U, Q, h⟩, Kp.of_past (Turn.refl _ _)⟩)
/-- The reference's Write, behind the program's. -/
theorem p_write2 (e : Int) (vb : Value) (b : List UInt8) (h : PSx w0 w c x dg room (fun j => Y j ∨ Blk vb j) (wK dg room K e b) K) (hYV : ∀ j, Y j → ¬ Blk vb j) (hb : Byts vb b w) (hbl : b.length ≤ 100000) :
    Calls Try.prog 26 #[.pointer (some ⟨x, 0, none⟩), .int .i64 e, vb] w fun y w' => y = .returned (.tuple #[.int .i64 (wN dg room K e b.length), .int .i64 (wS dg room K e b.length)]) ∧ PSx w0 w' c x dg room Y (wK dg room K e b) (wK dg room K e b) ∧ Kp Y w w' := by
  obtain ⟨C, M, D, U, Q, h⟩ := h
  have kpx : ∀ {w' : World} {Q' : Nat → Pcs}, RMadeQ w w' x dg room C M D U Q (Blk vb) Q' → Kp Y w w' := fun h2 => by
    obtain ⟨U', -, t, -⟩ := h2
    exact ⟨_, t, fun k hk e => h.ap k (.inl hk) (e ▸ .inl rfl)⟩
  unfold wN wS wK at *
  by_cases e0 : e = 0
  · subst e0
    rw [if_pos rfl] at h
    rw [if_pos rfl, if_pos rfl, if_pos rfl]
    refine (rw0 h.r h.rel h.r2 vb b hb hbl).mono (fun y w' hh => ⟨hh.1, ?_⟩)
    obtain ⟨Q', h2, h3⟩ := hh.2
    exact ⟨pst_ref h hYV h2 h3, kpx h2⟩
  · by_cases e1 : e = 1
    · subst e1
      rw [if_neg (by decide), if_pos rfl] at h
      rw [if_neg (show ¬ (1 : Int) = 0 by decide), if_pos rfl, if_neg (show ¬ (1 : Int) = 0 by decide), if_pos rfl, if_neg (show ¬ (1 : Int) = 0 by decide), if_pos rfl]
      refine (rw1 h.r h.rel h.r2 vb b hb hbl).mono (fun y w' hh => ⟨hh.1, ?_⟩)
      obtain ⟨Q', h2, h3⟩ := hh.2
      exact ⟨pst_ref h hYV h2 h3, kpx h2⟩
    · rw [if_neg e0, if_neg e1] at h
      rw [if_neg e0, if_neg e1, if_neg e0, if_neg e1, if_neg e0, if_neg e1]
      exact (rwrite_bad x e vb w e0 e1).mono (fun y w' hh => by
        obtain ⟨rfl, rfl⟩ := hh
        exact ⟨rfl, PSx.fewer ⟨C, M, D, U, Q, h⟩ (fun k hk => .inl hk), Kp.of_past (Turn.refl _ _)⟩)
/-- The program's Read. -/
theorem p_read (h : PSx w0 w c x dg room Y K K) (e n : Int) (pk : Bool) :
    Calls Try.prog 28 #[.pointer (some ⟨c, 0, none⟩), .int .i64 e, .int .i64 n, .bool pk] w fun y w' => ∃ p ca, y = .returned (.tuple #[.slice p (rB K e n).length ca, .int .i64 (rS K e n)]) ∧ Byts (.slice p (rB K e n).length ca) (rB K e n) w' ∧ PSx w0 w' c x dg room (fun j => Y j ∨ Blk (.slice p (rB K e n).length ca) j) (rK K e n pk) K ∧ Kp Y w w' ∧ ∀ k, Blk (.slice p (rB K e n).length ca) k → ¬ Y k := by
  obtain ⟨C, M, D, U, Q, h⟩ := h
  have hYlt : ∀ k, Y k → k < w.heap.size := fun k hk => by
    obtain ⟨V', hM, -, -, h5⟩ := h.k
    exact (h5 k (.inr hk)).1
  have go : ∀ (E : Nat) (u : Int) (bs : List UInt8) (K2 : Nat → En), (∀ (y : Ending) (w' : World), (∃ v, y = .returned (.tuple #[v, .int .i64 u]) ∧ Byts v bs w' ∧ KSt w0 w' c dg room K2 (fun k => (RF x U Q k ∨ Y k) ∨ Blk v k) ∧ Kp (fun k => RF x U Q k ∨ Y k) w w' ∧ ∀ k, Blk v k → w.heap.size ≤ k) → ∃ p ca, y = .returned (.tuple #[.slice p bs.length ca, .int .i64 u]) ∧ Byts (.slice p bs.length ca) bs w' ∧ PSx w0 w' c x dg room (fun j => Y j ∨ Blk (.slice p bs.length ca) j) K2 K ∧ Kp Y w w' ∧ ∀ k, Blk (.slice p bs.length ca) k → ¬ Y k) := by
    rintro E u bs K2 y w' ⟨v, rfl, h1, h2, ⟨F, t, hF⟩, h4⟩
    obtain ⟨p, ca, rfl⟩ := WRow.sl h1
    refine ⟨p, ca, rfl, h1, ⟨C, M, D, U, Q, h2.fewer (fun k hk => ?_), h.r.kept t (fun k hk hf => hF k (.inl hk) hf), h.rel, fun j hj hf => ?_, fun j hj => ?_, h.r2⟩, ⟨F, t, fun k hk => hF k (.inr hk)⟩, fun k hk hy => by have := hYlt k hy; have := h4 k hk; omega⟩
    · rcases hk with hk | hk | hk
      · exact .inl (.inl hk)
      · exact .inl (.inr hk)
      · exact .inr hk
    · rcases hj with hj | hj
      · exact h.ap j hj hf
      · have := h.r.lt hf; have := h4 j hj; omega
    · rcases hj with hj | hj | hj
      · exact h.mine j (.inl hj)
      · exact h.mine j (.inr hj)
      · have := h.k.turn.size; have := h4 j hj; omega
  unfold rS rB rK
  by_cases e0 : e = 0
  · subst e0
    rw [if_pos rfl, if_pos rfl, if_pos rfl]
    exact (h.k.read0 n pk).mono (go 0 _ _ _)
  · by_cases e1 : e = 1
    · subst e1
      rw [if_neg (show ¬ (1 : Int) = 0 by decide), if_pos rfl, if_neg (show ¬ (1 : Int) = 0 by decide), if_pos rfl, if_neg (show ¬ (1 : Int) = 0 by decide), if_pos rfl]
      exact (h.k.read1 n pk).mono (go 1 _ _ _)
    · rw [if_neg e0, if_neg e1, if_neg e0, if_neg e1, if_neg e0, if_neg e1]
      exact (kread_bad c e n pk w e0 e1).mono (fun y w' hh => by
        obtain ⟨rfl, rfl⟩ := hh
        exact ⟨none, 0, rfl, byts_nil _, PSx.more ⟨C, M, D, U, Q, h⟩ (Turn.refl _ _) (fun k hk => .inl (hk.elim (fun h => h) (fun h => (blk_nil k h).elim))), Kp.of_past (Turn.refl _ _), fun k hk => (blk_nil k hk).elim⟩)
/-- The reference's Read, behind the program's. -/
theorem p_read2 (e n : Int) (hn : n ≤ 9223372036854775807) (pk : Bool) (h : PSx w0 w c x dg room Y (rK K e n pk) K) :
    Calls Try.prog 29 #[.pointer (some ⟨x, 0, none⟩), .int .i64 e, .int .i64 n, .bool pk] w fun y w' => ∃ v, y = .returned (.tuple #[v, .int .i64 (rS K e n)]) ∧ Byts v (rB K e n) w' ∧ PSx w0 w' c x dg room Y (rK K e n pk) (rK K e n pk) ∧ Kp Y w w' := by
  obtain ⟨C, M, D, U, Q, h⟩ := h
  have h' : PSt w0 w c x dg room (fun j => Y j ∨ False) (rK K e n pk) K C M D U Q := ⟨h.k.fewer (fun k hk => hk.imp (fun h => h) (fun h => h.elim (fun h => h) (fun h => h.elim))), h.r, h.rel, fun j hj => h.ap j (hj.elim (fun h => h) (fun h => h.elim)), fun j hj => h.mine j (hj.imp (fun h => h) (fun h => h.elim (fun h => h) (fun h => h.elim))), h.r2⟩
  have kpx : ∀ {w' : World} {Q' : Nat → Pcs}, RMadeQ w w' x dg room C M D U Q (fun _ => False) Q' → Kp Y w w' := fun h2 => by
    obtain ⟨U', -, t, -⟩ := h2
    exact ⟨_, t, fun k hk e => h.ap k hk (e ▸ .inl rfl)⟩
  unfold rS rB
  unfold rK at *
  by_cases e0 : e = 0
  · subst e0
    rw [if_pos rfl] at h'
    rw [if_pos rfl, if_pos rfl, if_pos rfl]
    refine (rr0 h.r h.rel h.r2 n hn pk).mono ?_
    rintro y w' ⟨v, rfl, h1, Q', h2, h3⟩
    exact ⟨v, rfl, h1, pst_ref h' (fun j _ hf => hf) h2 h3, kpx h2⟩
  · by_cases e1 : e = 1
    · subst e1
      rw [if_neg (by decide), if_pos rfl] at h'
      rw [if_neg (show ¬ (1 : Int) = 0 by decide), if_pos rfl, if_neg (show ¬ (1 : Int) = 0 by decide), if_pos rfl, if_neg (show ¬ (1 : Int) = 0 by decide), if_pos rfl]
      refine (rr1 h.r h.rel h.r2 n hn pk).mono ?_
      rintro y w' ⟨v, rfl, h1, Q', h2, h3⟩
      exact ⟨v, rfl, h1, pst_ref h' (fun j _ hf => hf) h2 h3, kpx h2⟩
    · rw [if_neg e0, if_neg e1] at h
      rw [if_neg e0, if_neg e1, if_neg e0, if_neg e1, if_neg e0, if_neg e1]
      exact (rread_bad x e n pk w e0 e1).mono (fun y w' hh => by
        obtain ⟨rfl, rfl⟩ := hh
        exact ⟨_, rfl, byts_nil _, ⟨C, M, D, U, Q, h⟩, Kp.of_past (Turn.refl _ _)⟩)
end
end Go.Proofs.Ytocaebcbmfejbaa
