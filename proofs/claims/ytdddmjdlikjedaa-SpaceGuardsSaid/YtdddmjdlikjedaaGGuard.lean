/-
  A law's state with blocks that it must leave alone: a region with its pieces, and what each call makes of it. No conditions.
-/
import Derived.Test.YtdddmjdlikjedaaGApartM
namespace Go.Proofs.Ytdddmjdlikjedaa
open Go.ChangeShapes Go.WideShapes Go.ChangeAt Go.RowKit

/-- A region that was made behind W, with these pieces, apart from the blocks of K. -/
structure GT (K : Nat → Prop) (W : World) (a : Nat) (size most : Int) (l : List Pc) (w : World) : Prop where
  ok : GOK size l
  mem : ∃ v, GMem w a size most v l ∧ ∀ j, GFoot a v j → W.heap.size ≤ j ∧ ¬ K j
  kb : ∀ j, K j → j < w.heap.size
  turn : Turn NoBlock W w
section
variable {K K' : Nat → Prop} {W w w' : World} {a : Nat} {size most : Int} {l l' : List Pc}
theorem GT.kept {F : Nat → Prop} (h : GT K W a size most l w) (t : Turn F w w') (hF : ∀ j, F j → j < w.heap.size → K j ∧ W.heap.size ≤ j) : GT K W a size most l w' := by
  obtain ⟨v, h1, h2⟩ := h.mem
  exact ⟨h.ok, ⟨v, h1.kept t (fun j hj e => (h2 j hj).2 (hF j e (h1.lt hj)).1), h2⟩, fun j hj => Nat.lt_of_lt_of_le (h.kb j hj) t.size, h.turn.trans t (fun j hj => by
    rcases Nat.lt_or_ge j w.heap.size with e | e
    · exact .inr (hF j hj e).2
    · exact .inr (Nat.le_trans h.turn.size e))⟩
theorem GT.past (h : GT K W a size most l w) (t : Turn NoBlock w w') : GT K W a size most l w' := h.kept t (fun _ h => h.elim)
/-- Other blocks to be left alone. -/
theorem GT.guard (h : GT K W a size most l w) (hb : ∀ j, K' j → j < w.heap.size) (hK : ∀ v j, GMem w a size most v l → GFoot a v j → ¬ K' j) : GT K' W a size most l w := by
  obtain ⟨v, h1, h2⟩ := h.mem
  exact ⟨h.ok, ⟨v, h1, fun j hj => ⟨(h2 j hj).1, hK v j h1 hj⟩⟩, hb, h.turn⟩
theorem gt_new (K : Nat → Prop) (W w : World) (t : Turn NoBlock W w) (size most : Int) (h : 0 ≤ size ∧ size ≤ 4294967296) (hb : ∀ j, K j → j < w.heap.size) : GT K W w.heap.size size most [] (w.alloc (.cells #[.int .i64 size, .int .i64 most, .slice none 0 0] 114)) :=
  ⟨gok_new size h, ⟨_, gmem_new size most w, fun j hj => by
    rcases hj with rfl | hj
    · exact ⟨t.size, fun e => by have := hb _ e; omega⟩
    · cases hj⟩, fun j hj => by have := hb j hj; rw [World.size_alloc]; omega, t.alloc _⟩
theorem GT.foot (h : GT K W a size most l w) : ∃ v, GMem w a size most v l ∧ (∀ j, GFoot a v j → W.heap.size ≤ j ∧ ¬ K j ∧ j < w.heap.size) := by
  obtain ⟨v, h1, h2⟩ := h.mem
  exact ⟨v, h1, fun j hj => ⟨(h2 j hj).1, (h2 j hj).2, h1.lt hj⟩⟩
theorem GT.find (h : GT K W a size most l w) (hs : size ≤ 65536) (x : Int) (hx : fit x) (h0 : 0 ≤ x) :
    Calls Try.prog 36 #[.pointer (some ⟨a, 0, none⟩), .int .i64 x] w fun e w' => ((∃ p, e = .returned (.tuple #[p.agg, .bool true]) ∧ HasP l x p) ∨ (e = .returned (.tuple #[Pc.zero.agg, .bool false]) ∧ Free l x)) ∧ Turn NoBlock w w' := by
  obtain ⟨v, h1, h2⟩ := h.mem
  have := gok_len h.ok
  exact find_any h1 h.ok (by omega) x hx h0
theorem GT.place (h : GT K W a size most l w) (hs : size ≤ 65536) (n : Int) (fn : fit n) (hn : isGrid 0 n) :
    Calls Try.prog 38 #[.pointer (some ⟨a, 0, none⟩), .int .i64 n] w fun e w' => PlaceIs l size n e ∧ Turn NoBlock w w' := by
  obtain ⟨v, h1, h2⟩ := h.mem
  have := gok_len h.ok
  exact place_any h1 h.ok (by omega) n fn hn
theorem GT.mapped (h : GT K W a size most l w) (hs : size ≤ 65536) :
    Calls Try.prog 37 #[.pointer (some ⟨a, 0, none⟩)] w fun e w' => e = .returned (.int .i64 (sumP l)) ∧ Turn NoBlock w w' := by
  obtain ⟨v, h1, h2⟩ := h.mem
  have h3 := gok_len h.ok
  have h4 := sumP_bd h.ok 1024 (by omega)
  exact mapped_any h1 (fun p hp => by have := (h.ok.each p hp).1; omega) (by omega) (by omega)
/-- Whatever is put. -/
theorem GT.put (h : GT K W a size most l w) (hs : size ≤ 65536) (hm : (l.length : Int) < most ∧ most ≤ 65536) (p : Pc) (hf : fit p.at' ∧ fit p.len) :
    Calls Try.prog 32 #[.pointer (some ⟨a, 0, none⟩), p.agg] w fun e w' =>
      (∃ z : Int, z < 0 ∧ e = .returned (.int .i64 z) ∧ ¬ (isPut p ∧ p.fin ≤ size ∧ ∀ q ∈ l, ¬ Ov p.at' p.len q) ∧ GT K W a size most l w' ∧ Turn NoBlock w w') ∨
      (∃ k, e = .returned (.int .i64 0) ∧ (isPut p ∧ p.fin ≤ size ∧ ∀ q ∈ l, ¬ Ov p.at' p.len q) ∧ GT K W a size most (putL l k p) w' ∧ Turn (fun j => ¬ K j ∧ W.heap.size ≤ j) w w') := by
  obtain ⟨v, h1, h2⟩ := h.mem
  have hl := gok_len h.ok
  by_cases q1 : isPut p
  · by_cases q2 : p.fin ≤ size
    · obtain ⟨k, b, hk⟩ := seg_any h.ok p.at' p.len
      refine (callsIn_wide.1 (put_in 5 (Nat.le_refl _) h1 h.ok (by omega) p q1 q2 k b hk (by omega))).mono ?_
      rintro e w' (⟨g1, g2, g3⟩ | ⟨g1, ⟨g2, -⟩ | ⟨-, g3, ⟨⟨v', g4, g5⟩, g6⟩⟩⟩)
      · obtain ⟨q, hq, hov⟩ := hk.some g1
        exact .inl ⟨-26, by omega, g2, fun hh => hh.2.2 q hq hov, h.past g3, g3⟩
      · omega
      · subst g1
        refine .inr ⟨b, g3, ⟨q1, q2, hk.none h.ok rfl⟩, ⟨gok_put h.ok q1 q2 hk, ⟨v', g4, fun j hj => ?_⟩, fun j hj => Nat.lt_of_lt_of_le (h.kb j hj) g6.size, h.turn.trans g6 (fun j hj => .inr (h2 j hj).1)⟩, g6.mono (fun j hj => .inl ⟨(h2 j hj).2, (h2 j hj).1⟩)⟩
        rcases g5 j hj with hh | hh
        · exact h2 j hh
        · exact ⟨Nat.le_trans h.turn.size hh, fun e => by have := h.kb j e; omega⟩
    · refine (put_far h1 h.ok p q1 hf q2).mono ?_
      rintro e w' ⟨g1, g2⟩
      exact .inl ⟨-14, by omega, g1, fun hh => q2 hh.2.1, h.past g2, g2⟩
  · refine (put_no p a w q1).mono ?_
    rintro e w' ⟨g1, g2⟩
    exact .inl ⟨-10, by omega, g1, fun hh => q1 hh.1, h.past g2, g2⟩
/-- What a cut makes of a region's pieces, and which were cut. -/
structure CutM (l : List Pc) (size x n : Int) (li l' : List Pc) : Prop where
  okI : GOK size li
  ins : ∀ q ∈ li, x ≤ q.at' ∧ q.at' < q.fin ∧ q.fin ≤ x + n ∧ ∃ p ∈ l, p.at' ≤ q.at' ∧ q.fin ≤ p.fin ∧ q.key = p.key
  vwI : ∀ y t, Vw li y t ↔ (x ≤ y ∧ y < x + n) ∧ Vw l y t
  vw : ∀ y t, Vw l' y t ↔ ¬ (x ≤ y ∧ y < x + n) ∧ Vw l y t
/-- Whatever is cut. -/
theorem GT.cut (h : GT K W a size most l w) (hs : size ≤ 65536) (hm : size < 16 * most ∧ most ≤ 65536) (x n : Int) (hx : fit x) (hn : fit n) :
    Calls Try.prog 33 #[.pointer (some ⟨a, 0, none⟩), .int .i64 x, .int .i64 n] w fun e w' =>
      (∃ z : Int, z < 0 ∧ e = .returned (.tuple #[.slice none 0 0, .int .i64 z]) ∧ ¬ (isGrid x n ∧ x + n ≤ size) ∧ Turn NoBlock w w') ∨
      ((isGrid x n ∧ x + n ≤ size) ∧ ∃ vi li l', e = .returned (.tuple #[vi, .int .i64 0]) ∧ PRow vi li w' ∧ CutM l size x n li l' ∧ GT (fun j => K j ∨ Blk vi j) W a size most l' w' ∧ Turn (fun j => ¬ K j ∧ W.heap.size ≤ j) w w' ∧ ∀ j, Blk vi j → w.heap.size ≤ j) := by
  obtain ⟨v, h1, h2⟩ := h.mem
  have hl := gok_len h.ok
  by_cases hr : isGrid x n ∧ x + n ≤ size
  · obtain ⟨k, b, hk⟩ := seg_any h.ok x n
    have hx1 : 0 ≤ x ∧ 1 ≤ n := by have := hr.1; unfold isGrid isMul at this; omega
    refine (cut_any h1 h.ok (by omega) (by omega) x n hr k b hk).mono ?_
    have ho := outL_len l k b x n
    rintro e w' (⟨g1, _⟩ | ⟨_, vi, rfl, c1, c2, ⟨v', lo', p1, p2, p3, p4, p5⟩, c4⟩)
    · omega
    · refine .inr ⟨hr, vi, _, _, rfl, c1, ⟨gok_ins hk h.ok hr.1, fun q hq => ?_, fun y t => vw_ins hk h.ok hx1, fun y t => vw_cut hk h.ok hx1 p1⟩, ⟨gok_cut hk h.ok hr.1 p1 p2, ⟨v', p3, fun j hj => ?_⟩, fun j hj => ?_, h.turn.trans c4 (fun j hj => .inr (h2 j hj).1)⟩, c4.mono (fun j hj => .inl ⟨(h2 j hj).2, (h2 j hj).1⟩), c2⟩
      · obtain ⟨a1, a2, a3, p, hp, a4⟩ := ins_in hk h.ok hq
        obtain ⟨i, _, _, hi⟩ := mem_seg hp
        exact ⟨a1, a2, a3, p, List.mem_of_getElem? hi, a4⟩
      · have hd := p5 j
        rcases p4 j hj with e | e
        · exact ⟨(h2 j e).1, fun hh => by rcases hh with hh | hh; exact (h2 j e).2 hh; exact hd hh hj⟩
        · exact ⟨Nat.le_trans h.turn.size e, fun hh => by rcases hh with hh | hh; (have := h.kb j hh; omega); exact hd hh hj⟩
      · rcases hj with hj | hj
        · exact Nat.lt_of_lt_of_le (h.kb j hj) c4.size
        · exact (own_prow vi _).lt w' c1 j hj
  · refine (cut_no h1 h.ok x n hx hn hr).mono ?_
    rintro e w' ⟨⟨g1, g2⟩, g3⟩
    exact .inl ⟨_, g2, g1, hr, g3⟩
end
end Go.Proofs.Ytdddmjdlikjedaa
