/-
  SpaceSees' walk.
-/
import Derived.Test.YtdddmjdlikjedaaSAll
namespace Go.Proofs.Ytdddmjdlikjedaa
open Go.ChangeShapes Go.WideShapes Go.ChangeAt Go.RowKit

/-- Bytes that a law is handed. -/
def SArg (W : World) (p : Option Addr) (len cap : Nat) (bs : List UInt8) : Prop :=
  bs.length = len ∧ len ≤ cap ∧ (0 < len → ∃ b off, p = some ⟨b, off, none⟩ ∧ ∀ j, j < len → W.cell? ⟨b, off + j, none⟩ = some (.int .u8 ((bs.getD j 0).toNat : Int)))
theorem SArg.src {W w : World} {p : Option Addr} {len cap : Nat} {bs : List UInt8} (h : SArg W p len cap bs) (t : Turn NoBlock W w) : Src w (.slice p len cap) bs := by
  obtain ⟨rfl, h1, h2⟩ := h
  rcases Nat.eq_zero_or_pos bs.length with h0 | h0
  · have : bs = [] := List.eq_nil_of_length_eq_zero h0
    subst this
    exact .inl ⟨⟨p, cap, rfl⟩, rfl⟩
  · obtain ⟨b, off, rfl, hc⟩ := h2 h0
    exact .inr ⟨b, off, cap, rfl, fun j hj => t.cell (hc j hj) (fun h => h)⟩
theorem SArg.srcF {W w : World} {p : Option Addr} {cap : Nat} {bs : List UInt8} {s : Nat} {r : Rep} (h : SArg W p bs.length cap bs) (t : Turn NoBlock W w) (hf : ∀ j, SFoot s r j → W.heap.size ≤ j) : SrcF w s r (.slice p bs.length cap) bs := by
  obtain ⟨_, h1, h2⟩ := h
  rcases Nat.eq_zero_or_pos bs.length with h0 | h0
  · have : bs = [] := List.eq_nil_of_length_eq_zero h0
    subst this
    exact .inl ⟨p, cap, rfl, rfl⟩
  · obtain ⟨b, off, rfl, hc⟩ := h2 h0
    have hb : b < W.heap.size := block_lt_of_cell (hc 0 h0)
    exact .inr ⟨b, off, cap, rfl, h1, fun hk => by have := hf b hk; omega, Nat.lt_of_lt_of_le hb t.size, fun j hj => t.cell (hc j hj) (fun h => h)⟩
section
variable {w0 w w' : World} {c s a : Nat} {size most : Int} {r : Rep} {M : Mod} {l : List Pc} {o : Ob} {U R : Nat} {C : Nat → UInt8} {x : Int}
/-- Written where all may be written; what else the call does to the set. -/
theorem SpS.write2 (h : SpS w0 c s a size most r M l w) (z : So M U C o R) (hs : size ≤ 65536) (hU : U ≤ 65536) (hx : 0 ≤ x) (B off cb : Nat) (pb : Option Addr) (bs : List UInt8) (hpb : 0 < bs.length → pb = some ⟨B, off, none⟩) (hv : SrcF w s r (.slice pb bs.length cb) bs) (hl : bs.length ≤ 4096) (hxn : x + (bs.length : Int) ≤ size) (hm : ∀ y, x ≤ y → y < x + (bs.length : Int) → ¬ Free l y) (h1 : In1 l U) (hpr : ∀ p ∈ l, p.at' < x + (bs.length : Int) → x < p.fin → hasB p.prot 2 = true) (hl16 : l.length ≤ 16) (P : Nat) (hP : bs.length + 63 < 64 * P + 1) (hR : l.length * P ≤ R) :
    Calls Try.prog 42 #[.pointer (some ⟨c, 0, none⟩), .int .i64 x, .slice pb bs.length cb] w fun e w' => e = .returned (.tuple #[.int .i64 (bs.length : Int), .int .i64 0]) ∧ ∃ li r' M' o', SpM l x (bs.length : Int) li ∧ SMem w' s r' M' ∧ VNext w s r w' r' ∧ So M' U (wrK C li bs li.length) o' (R - l.length * P) := by
  refine (zwrite_ok (P := P) h.sp h.mem z h.cf hU x B off cb pb bs hpb hv hl (SpM l x (bs.length : Int)) (h.partsYes hs 2 (.inr rfl) hx (by omega) hxn hm hpr) (fun li hli => ?_)).mono ?_
  · have hlen := hli.len
    refine ⟨by omega, hli.sum, Nat.le_trans (Nat.mul_le_mul_right P hlen) hR, fun q hq => ?_⟩
    have := hli.in1 h1 hq
    omega
  · rintro e w' ⟨h2, li, r', M', o', h3, h4, h5, h6, _⟩
    have := Nat.mul_le_mul_right P h3.len
    exact ⟨h2, li, r', M', o', h3, h4, h6, h5.less (by omega)⟩
end
/-- Two spaces over one set, the first of them with a piece. -/
structure See1 (w0 w : World) (s : Nat) (r : Rep) (M : Mod) (c1 a1 c2 a2 : Nat) (l1 : List Pc) : Prop where
  mem : SMem w s r M
  fresh : ∀ j, SFoot s r j → w0.heap.size ≤ j
  sp1 : SpAt w c1 s a1
  sp2 : SpAt w c2 s a2
  mB : GMem w a2 4096 8 (.slice none 0 0) []
  gA : GT (fun j => j = c1 ∨ j = c2 ∨ j = a2 ∨ SFoot s r j) w0 a1 2048 8 l1 w
  ne : a1 ≠ c1 ∧ a1 ≠ c2 ∧ a1 ≠ a2 ∧ c1 ≠ c2 ∧ c1 ≠ a2 ∧ c2 ≠ a2
  ge : w0.heap.size ≤ c1 ∧ w0.heap.size ≤ c2 ∧ w0.heap.size ≤ a2
  nf : ¬ SFoot s r c1 ∧ ¬ SFoot s r c2 ∧ ¬ SFoot s r a2
/-- Both with a piece. -/
structure See2 (w0 w : World) (s : Nat) (r : Rep) (M : Mod) (c1 a1 c2 a2 : Nat) (l1 l2 : List Pc) : Prop where
  hA : SpS w0 c1 s a1 2048 8 r M l1 w
  hB : SpS w0 c2 s a2 4096 8 r M l2 w
section
variable {w0 w w' : World} {s c1 a1 c2 a2 : Nat} {r r' : Rep} {M M' : Mod} {l1 l2 : List Pc} {o : Ob}
theorem see_new (K : VSt w0 w s r M) : See1 w0 ((((w.alloc (.cells #[.int .i64 2048, .int .i64 8, .slice none 0 0] 114)).alloc (.cells #[.pointer (some ⟨s, 0, none⟩), .pointer (some ⟨w.heap.size, 0, none⟩)] 125)).alloc (.cells #[.int .i64 4096, .int .i64 8, .slice none 0 0] 114)).alloc (.cells #[.pointer (some ⟨s, 0, none⟩), .pointer (some ⟨w.heap.size + 1 + 1, 0, none⟩)] 125)) s r M (w.heap.size + 1) w.heap.size (w.heap.size + 1 + 1 + 1) (w.heap.size + 1 + 1) [] := by
  have hz := K.turn.size
  have hf : ∀ j, w.heap.size ≤ j → ¬ SFoot s r j := fun j hj e => by have := K.mem.lt e; omega
  have m1 := gmem_new 2048 8 w
  have t1 : Turn NoBlock w (w.alloc (.cells #[.int .i64 2048, .int .i64 8, .slice none 0 0] 114)) := (Turn.refl _ _).alloc _
  have b1 := heap_alloc_new (w.alloc (.cells #[.int .i64 2048, .int .i64 8, .slice none 0 0] 114)) (.cells #[.pointer (some ⟨s, 0, none⟩), .pointer (some ⟨w.heap.size, 0, none⟩)] 125)
  rw [World.size_alloc] at b1
  obtain ⟨W1, hW1⟩ : ∃ W1, W1 = w.alloc (.cells #[.int .i64 2048, .int .i64 8, .slice none 0 0] 114) := ⟨_, rfl⟩
  have z1 : W1.heap.size = w.heap.size + 1 := by rw [hW1, World.size_alloc]
  rw [← hW1] at m1 t1 b1 ⊢
  obtain ⟨W2, hW2⟩ : ∃ W2, W2 = W1.alloc (.cells #[.pointer (some ⟨s, 0, none⟩), .pointer (some ⟨w.heap.size, 0, none⟩)] 125) := ⟨_, rfl⟩
  have z2 : W2.heap.size = w.heap.size + 1 + 1 := by rw [hW2, World.size_alloc, z1]
  have t2 : Turn NoBlock W1 W2 := by rw [hW2]; exact (Turn.refl _ _).alloc _
  rw [← hW2] at b1 ⊢
  have m2 := gmem_new 4096 8 W2
  rw [z2] at m2
  obtain ⟨W3, hW3⟩ : ∃ W3, W3 = W2.alloc (.cells #[.int .i64 4096, .int .i64 8, .slice none 0 0] 114) := ⟨_, rfl⟩
  have z3 : W3.heap.size = w.heap.size + 1 + 1 + 1 := by rw [hW3, World.size_alloc, z2]
  have t3 : Turn NoBlock W2 W3 := by rw [hW3]; exact (Turn.refl _ _).alloc _
  rw [← hW3] at m2 ⊢
  have b2 := heap_alloc_new W3 (.cells #[.pointer (some ⟨s, 0, none⟩), .pointer (some ⟨w.heap.size + 1 + 1, 0, none⟩)] 125)
  rw [z3] at b2
  have t4 : Turn NoBlock W3 (W3.alloc (.cells #[.pointer (some ⟨s, 0, none⟩), .pointer (some ⟨w.heap.size + 1 + 1, 0, none⟩)] 125)) := (Turn.refl _ _).alloc _
  have t34 := t3.trans t4 (fun _ h => .inl h)
  have t24 := t2.trans t34 (fun _ h => .inl h)
  have t14 := t1.trans t24 (fun _ h => .inl h)
  refine ⟨K.mem.past t14, K.fresh, t34.heap b1 id, b2, m2.past t4, ⟨gok_new 2048 (by omega), ⟨_, m1.past t24, fun j hj => ?_⟩, fun j hj => ?_, K.turn.trans t14 (fun _ h => .inl h)⟩, by omega, by omega, ⟨hf _ (by omega), hf _ (by omega), hf _ (by omega)⟩⟩
  · rcases hj with rfl | hj
    · refine ⟨hz, fun e => ?_⟩
      rcases e with e | e | e | e
      · omega
      · omega
      · omega
      · exact hf _ (Nat.le_refl _) e
    · cases hj
  · rw [World.size_alloc, z3]
    rcases hj with rfl | rfl | rfl | hj
    · omega
    · omega
    · omega
    · have := K.mem.lt hj
      omega
/-- The first space's piece. -/
theorem See1.map1 (h : See1 w0 w s r M c1 a1 c2 a2 []) (f : Int) (hf : 0 ≤ f ∧ f ≤ 4) (hO : M.O 1 = some o) (hd : o.drp = false) (hz : o.size = 1024) :
    Calls Try.prog 41 #[.pointer (some ⟨c1, 0, none⟩), .int .i64 (-1), .int .i64 512, .int .i64 1, .int .i64 (64 * f), .int .i64 3] w fun e w' => e = .returned (.tuple #[.int .i64 0, .int .i64 0]) ∧ See1 w0 w' s r M c1 a1 c2 a2 [⟨0, 512, 1, 64 * f, 3⟩] := by
  have hL := lies_any h.sp1 h.mem 1 (64 * f) 512 (by unfold fit; omega) (by unfold fit; omega) (by unfold fit; omega) hO hd (by rw [hz]; decide)
  rw [show lieS o (64 * f) 512 = 0 by unfold lieS; rw [if_neg (by omega), if_pos (by rw [hz]; omega)]] at hL
  refine (map_room h.sp1 h.gA (by omega) (by simp) 512 1 (64 * f) 3 0 (by unfold fit; omega) (by unfold isGrid isMul; omega) rfl (by unfold isMul; omega) (by unfold isProt; omega) (fun x h0 _ _ h3 => ?_) ⟨0, by omega, by omega, fun y _ _ p hp => (by cases hp.1)⟩ hL).mono ?_
  · rcases Int.lt_or_le 0 x with hx | hx
    · obtain ⟨y, _, _, hy⟩ := h3 0 (by omega) hx
      exact absurd (fun p hp => by cases hp.1) hy
    · omega
  · rintro e w' ⟨h1, k, h2, h3⟩
    rw [put_nil] at h2
    refine ⟨h1, h.mem.kept h3 (fun j hj e => e.1 (.inr (.inr (.inr hj)))), h.fresh, h.sp1.past h3 (fun e => e.1 (.inl rfl)), h.sp2.past h3 (fun e => e.1 (.inr (.inl rfl))), h.mB.kept h3 (fun j hj e => ?_), h2, h.ne, h.ge, h.nf⟩
    rcases hj with rfl | hj
    · exact e.1 (.inr (.inr (.inl rfl)))
    · cases hj
/-- The second space's piece. -/
theorem See1.map2 (h : See1 w0 w s r M c1 a1 c2 a2 l1) (hO : M.O 1 = some o) (hd : o.drp = false) (hz : o.size = 1024) :
    Calls Try.prog 41 #[.pointer (some ⟨c2, 0, none⟩), .int .i64 1024, .int .i64 1024, .int .i64 1, .int .i64 0, .int .i64 1] w fun e w' => e = .returned (.tuple #[.int .i64 1024, .int .i64 0]) ∧ See2 w0 w' s r M c1 a1 c2 a2 l1 [⟨1024, 1024, 1, 0, 1⟩] := by
  have hL := lies_any h.sp2 h.mem 1 0 1024 (by unfold fit; omega) (by unfold fit; omega) (by unfold fit; omega) hO hd (by rw [hz]; decide)
  rw [show lieS o 0 1024 = 0 by unfold lieS; rw [if_neg (by omega), if_pos (by rw [hz]; omega)]] at hL
  obtain ⟨v1, m1, f1⟩ := h.gA.mem
  have gB : GT (fun j => j = c1 ∨ j = c2 ∨ SFoot s r j ∨ GFoot a1 v1 j) w0 a2 4096 8 [] w := by
    refine ⟨gok_new 4096 (by omega), ⟨_, h.mB, fun j hj => ?_⟩, fun j hj => ?_, h.gA.turn⟩
    · rcases hj with rfl | hj
      · refine ⟨h.ge.2.2, fun e => ?_⟩
        have hn := h.ne
        rcases e with e | e | e | e
        · omega
        · omega
        · exact h.nf.2.2 e
        · exact (f1 _ e).2 (.inr (.inr (.inl rfl)))
      · cases hj
    · rcases hj with rfl | rfl | hj | hj
      · exact lt_of_block h.sp1
      · exact lt_of_block h.sp2
      · exact h.mem.lt hj
      · exact m1.lt hj
  refine (map_at h.sp2 gB (by omega) (by simp) 1024 1 0 1 1024 (by unfold isGrid isMul; omega) (by unfold isMul; omega) (by unfold isProt; omega) (by omega) (fun y _ _ p hp => (by cases hp.1)) hL).mono ?_
  rintro e w' ⟨h1, k, h2, h3⟩
  rw [put_nil] at h2
  have hm := h.mem.kept h3 (fun j hj e => e.1 (.inr (.inr (.inl hj))))
  have hg1 := m1.kept h3 (fun j hj e => e.1 (.inr (.inr (.inr hj))))
  have s1 := h.sp1.past h3 (fun e => e.1 (.inl rfl))
  have s2 := h.sp2.past h3 (fun e => e.1 (.inr (.inl rfl)))
  refine ⟨h1, ⟨⟨s1, hm, ⟨h.gA.ok, ⟨v1, hg1, fun j hj => ⟨(f1 j hj).1, fun e => (f1 j hj).2 ?_⟩⟩, fun j hj => ?_, h2.turn⟩, h.fresh, h.nf.1, h.ge.1⟩, ⟨s2, hm, h2.weak (fun j hj => ?_), h.fresh, h.nf.2.1, h.ge.2.1⟩⟩⟩
  · rcases e with e | e
    · exact .inl e
    · exact .inr (.inr (.inr e))
  · rcases hj with rfl | hj
    · exact lt_of_block s1
    · exact hm.lt hj
  · rcases hj with hj | hj
    · exact .inr (.inl hj)
    · exact .inr (.inr (.inl hj))
theorem See2.past (h : See2 w0 w s r M c1 a1 c2 a2 l1 l2) (t : Turn NoBlock w w') : See2 w0 w' s r M c1 a1 c2 a2 l1 l2 := ⟨h.hA.past t, h.hB.past t⟩
theorem See2.next (h : See2 w0 w s r M c1 a1 c2 a2 l1 l2) (m : SMem w' s r' M') (k : VNext w s r w' r') : See2 w0 w' s r' M' c1 a1 c2 a2 l1 l2 := ⟨h.hA.next m k, h.hB.next m k⟩
end
end Go.Proofs.Ytdddmjdlikjedaa
