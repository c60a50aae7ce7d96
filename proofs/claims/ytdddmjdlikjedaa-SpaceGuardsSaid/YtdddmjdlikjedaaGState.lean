/-
  A law's state: a region with its pieces, and what each call makes of it.
-/
import Derived.Test.YtdddmjdlikjedaaGWin
namespace Go.Proofs.Ytdddmjdlikjedaa
open Go.ChangeShapes Go.WideShapes Go.ChangeAt Go.RowKit

/-- A region that was made behind W, with these pieces. -/
structure GS (W : World) (a : Nat) (size most : Int) (l : List Pc) (w : World) : Prop where
  ok : GOK size l
  mem : ∃ v, GMem w a size most v l ∧ ∀ j, GFoot a v j → W.heap.size ≤ j
  turn : Turn NoBlock W w
section
variable {W w w' : World} {a : Nat} {size most : Int} {l : List Pc}
theorem GS.past (h : GS W a size most l w) (t : Turn NoBlock w w') : GS W a size most l w' := by
  obtain ⟨v, h1, h2⟩ := h.mem
  exact ⟨h.ok, ⟨v, h1.past t, h2⟩, h.turn.trans t (fun _ h => .inl h)⟩
theorem gs_new (W w : World) (t : Turn NoBlock W w) (size most : Int) (h : 0 ≤ size ∧ size ≤ 4294967296) : GS W w.heap.size size most [] (w.alloc (.cells #[.int .i64 size, .int .i64 most, .slice none 0 0] 114)) :=
  ⟨gok_new size h, ⟨_, gmem_new size most w, fun j hj => by
    rcases hj with rfl | hj
    · exact t.size
    · cases hj⟩, t.alloc _⟩
theorem GS.find (h : GS W a size most l w) (hs : size ≤ 65536) (x : Int) (hx : fit x) (h0 : 0 ≤ x) :
    Calls Try.prog 36 #[.pointer (some ⟨a, 0, none⟩), .int .i64 x] w fun e w' => ((∃ p, e = .returned (.tuple #[p.agg, .bool true]) ∧ HasP l x p) ∨ (e = .returned (.tuple #[Pc.zero.agg, .bool false]) ∧ Free l x)) ∧ GS W a size most l w' := by
  obtain ⟨v, h1, h2⟩ := h.mem
  have := gok_len h.ok
  exact (find_any h1 h.ok (by omega) x hx h0).mono (fun e w' hh => ⟨hh.1, h.past hh.2⟩)
theorem GS.place (h : GS W a size most l w) (hs : size ≤ 65536) (n : Int) (fn : fit n) (hn : isGrid 0 n) :
    Calls Try.prog 38 #[.pointer (some ⟨a, 0, none⟩), .int .i64 n] w fun e w' => PlaceIs l size n e ∧ GS W a size most l w' := by
  obtain ⟨v, h1, h2⟩ := h.mem
  have := gok_len h.ok
  exact (place_any h1 h.ok (by omega) n fn hn).mono (fun e w' hh => ⟨hh.1, h.past hh.2⟩)
/-- Whatever is put. -/
theorem GS.put (h : GS W a size most l w) (hs : size ≤ 2048) (hm : 40 ≤ most ∧ most ≤ 65536) (p : Pc) (hf : fit p.at' ∧ fit p.len) :
    Calls Try.prog 32 #[.pointer (some ⟨a, 0, none⟩), p.agg] w fun e w' =>
      (∃ z : Int, z < 0 ∧ e = .returned (.int .i64 z) ∧ ¬ (isPut p ∧ p.fin ≤ size ∧ ∀ q ∈ l, ¬ Ov p.at' p.len q) ∧ GS W a size most l w') ∨
      (∃ k, e = .returned (.int .i64 0) ∧ (isPut p ∧ p.fin ≤ size ∧ ∀ q ∈ l, ¬ Ov p.at' p.len q) ∧ GS W a size most (putL l k p) w') := by
  obtain ⟨v, h1, h2⟩ := h.mem
  have hl := gok_len h.ok
  by_cases q1 : isPut p
  · by_cases q2 : p.fin ≤ size
    · obtain ⟨k, b, hk⟩ := seg_any h.ok p.at' p.len
      refine (callsIn_wide.1 (put_in 5 (Nat.le_refl _) h1 h.ok (by omega) p q1 q2 k b hk (by omega))).mono ?_
      rintro e w' (⟨g1, g2, g3⟩ | ⟨g1, ⟨g2, -⟩ | ⟨-, g3, ⟨⟨v', g4, g5⟩, g6⟩⟩⟩)
      · obtain ⟨q, hq, hov⟩ := hk.some g1
        exact .inl ⟨-26, by omega, g2, fun hh => hh.2.2 q hq hov, h.past g3⟩
      · omega
      · subst g1
        refine .inr ⟨b, g3, ⟨q1, q2, hk.none h.ok rfl⟩, ⟨gok_put h.ok q1 q2 hk, ⟨v', g4, fun j hj => ?_⟩, h.turn.trans g6 (fun j hj => .inr (h2 j hj))⟩⟩
        rcases g5 j hj with hh | hh
        · exact h2 j hh
        · exact Nat.le_trans h.turn.size hh
    · refine (put_far h1 h.ok p q1 hf q2).mono ?_
      rintro e w' ⟨g1, g2⟩
      exact .inl ⟨-14, by omega, g1, fun hh => q2 hh.2.1, h.past g2⟩
  · refine (put_no p a w q1).mono ?_
    rintro e w' ⟨g1, g2⟩
    exact .inl ⟨-10, by omega, g1, fun hh => q1 hh.1, h.past g2⟩
end
end Go.Proofs.Ytdddmjdlikjedaa
