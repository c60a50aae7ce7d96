/-
  What Cut, List, Mapped and New answer. No conditions but that the pieces rise and lie in the region, and that arguments are numbers of 64 bits.
-/
import Derived.Test.YtdddmjdlikjedaaGSplit
namespace Go.Proofs.Ytdddmjdlikjedaa
open Go.ChangeShapes Go.WideShapes Go.ChangeAt Go.RowKit Go.Shelf

def insL (l : List Pc) (k b : Nat) (x n : Int) : List Pc := (seg l k b).map (fun p => partP p x n)
def outL (l : List Pc) (k b : Nat) (x n : Int) : List Pc := (seg l k b).flatMap (outP x n)
theorem outP_len (x n : Int) (p : Pc) : (outP x n p).length ≤ 2 := by unfold outP; split <;> split <;> simp
theorem outL_len (l : List Pc) (k b : Nat) (x n : Int) : (outL l k b x n).length ≤ 2 * l.length := by
  have h1 : (seg l k b).length ≤ l.length := by unfold seg; rw [List.length_drop, List.length_take]; omega
  have h2 : ∀ m : List Pc, (m.flatMap (outP x n)).length ≤ 2 * m.length := fun m => by
    induction m with
    | nil => simp
    | cons p m ih => have := outP_len x n p; rw [List.flatMap_cons, List.length_append, List.length_cons]; omega
  have := h2 (seg l k b)
  unfold outL
  omega

/-- What Cut leaves when it cuts. -/
structure CutIs (w w' : World) (a : Nat) (size most : Int) (v vi : Value) (l li lo : List Pc) (k b : Nat) : Prop where
  row : PRow vi li w'
  fresh : ∀ j, Blk vi j → w.heap.size ≤ j
  ok : ∃ v' lo', lo'.Perm lo ∧ lo'.Pairwise (fun p q => p.at' ≤ q.at') ∧ GMem w' a size most v' (l.take k ++ lo' ++ l.drop b) ∧ (∀ j, GFoot a v' j → GFoot a v j ∨ w.heap.size ≤ j) ∧ ∀ j, Blk vi j → ¬ GFoot a v' j
  turn : Turn (GFoot a v) w w'

theorem cut_no {w : World} {a : Nat} {size most : Int} {v : Value} {l : List Pc} (h : GMem w a size most v l) (ok : GOK size l) (x n : Int) (hx : fit x) (hn : fit n) (hr : ¬ (isGrid x n ∧ x + n ≤ size)) :
    Calls Try.prog 33 #[.pointer (some ⟨a, 0, none⟩), .int .i64 x, .int .i64 n] w fun e W' => (e = .returned (.tuple #[.slice none 0 0, .int .i64 (rightS size x n)]) ∧ rightS size x n < 0) ∧ Turn NoBlock w W' := by
  have cR := right_any h ok x n hx hn
  have hs : rightS size x n = -14 ∨ rightS size x n = -10 := by
    unfold rightS
    by_cases h1 : isGrid x n
    · rw [if_pos h1, if_neg (fun h2 => hr ⟨h1, h2⟩)]; exact .inl rfl
    · rw [if_neg h1]; exact .inr rfl
  clear h ok
  rcases hs with hs | hs
  · rw [hs] at cR ⊢
    go_enter Try.func33, Try.ntmps33
    go_wp2_with (go_at_call 71; (with_reducible refine cR.mono ?_); rintro e w' ⟨rfl, rfl⟩)
    go_ret2
    exact ⟨⟨rfl, by omega⟩, Turn.refl _ _⟩
  · rw [hs] at cR ⊢
    go_enter Try.func33, Try.ntmps33
    go_wp2_with (go_at_call 71; (with_reducible refine cR.mono ?_); rintro e w' ⟨rfl, rfl⟩)
    go_ret2
    exact ⟨⟨rfl, by omega⟩, Turn.refl _ _⟩

theorem cut_any {w : World} {a : Nat} {size most : Int} {v : Value} {l : List Pc} (h : GMem w a size most v l) (ok : GOK size l) (hll : l.length ≤ 32768) (hmost : 0 ≤ most ∧ most ≤ 65536) (x n : Int) (hr : isGrid x n ∧ x + n ≤ size) (k b : Nat) (hs : SegIs l x n k b) :
    Calls Try.prog 33 #[.pointer (some ⟨a, 0, none⟩), .int .i64 x, .int .i64 n] w fun e W' =>
      (most < (l.length - (b - k) + (outL l k b x n).length : Nat) ∧ e = .returned (.tuple #[.slice none 0 0, .int .i64 (-4)]) ∧ Turn NoBlock w W') ∨
      ((l.length - (b - k) + (outL l k b x n).length : Nat) ≤ most ∧ ∃ vi, e = .returned (.tuple #[vi, .int .i64 0]) ∧ CutIs w W' a size most v vi l (insL l k b x n) (outL l k b x n) k b) := by
  have htop := ok.top
  have hg : 0 ≤ x ∧ 1 ≤ n := by have := hr.1; unfold isGrid isMul at this; omega
  have fx : fit x := by unfold fit; omega
  have fn : fit n := by unfold fit; omega
  have cR := right_any h ok x n fx fn
  rw [show rightS size x n = 0 by unfold rightS; rw [if_pos hr.1, if_pos hr.2]] at cR
  have cS := callsIn_wide.1 (split_in 4 (Nat.le_refl _) h ok (by omega) x n hg.1 (by omega) hr.2 k b hs)
  have HG := Lib.hid (And.intro h (And.intro ok hs))
  have hol := outL_len l k b x n
  clear h ok hs hr
  go_enter Try.func33, Try.ntmps33
  go_wp2_with (go_at_call 71; (with_reducible refine cR.mono ?_); rintro e w' ⟨rfl, rfl⟩)
  (go_at_call 72; (with_reducible refine cS.mono ?_); rintro e w1 ⟨vi, vo, rfl, r1, r2, q1, q2, q3, t1⟩)
  have cP := callsIn_wide.1 (replace_in 4 (Nat.le_refl _) (HG.out.1.past t1) HG.out.2.1 (by omega) x n fx fn k b HG.out.2.2 r2 (by unfold outL at hol; omega) (fun j hj hv => by have h1 := HG.out.1.lt hj; have h2 := q2 j hv; omega) hmost)
  have cP2 := cP.mono (R' := fun e w' => ∃ z : Int, e = .returned (.int .i64 z) ∧ Hid ((z = -4 ∧ most < (l.length - (b - k) + (outL l k b x n).length : Nat) ∧ Turn NoBlock w1 w') ∨ (z = 0 ∧ (l.length - (b - k) + (outL l k b x n).length : Nat) ≤ most ∧ ReplIs w1 w' a size most v vo l (outL l k b x n) k b))) (by
    rintro e w' (⟨g1, rfl, g2⟩ | ⟨g1, rfl, g2⟩)
    · exact ⟨_, rfl, Lib.hid (.inl ⟨rfl, g1, g2⟩)⟩
    · exact ⟨_, rfl, Lib.hid (.inr ⟨rfl, g1, g2⟩)⟩)
  have HS := Lib.hid (And.intro r1 (And.intro q1 (And.intro q2 (And.intro q3 t1))))
  clear r1 r2 q1 q2 q3 t1 cP
  go_wp2_with (go_at_call 70; (with_reducible refine cP2.mono ?_); rintro e w2 ⟨z, rfl, HZ⟩; have hz : z = -4 ∨ z = 0 := (by rcases HZ.out with h | h; exact .inl h.1; exact .inr h.1); rcases hz with rfl | rfl)
  · go_ret2
    obtain ⟨r1, q1, q2, q3, t1⟩ := HS.out
    rcases HZ.out with ⟨_, g1, g2⟩ | ⟨g0, _⟩
    · exact .inl ⟨g1, rfl, t1.trans g2 (fun _ h => .inl h)⟩
    · omega
  · go_ret2
    obtain ⟨r1, q1, q2, q3, t1⟩ := HS.out
    rcases HZ.out with ⟨g0, _⟩ | ⟨_, g1, ⟨v', lo', p1, p2, p3, p4⟩, p5⟩
    · omega
    · have hz := t1.size
      have hl1 : ∀ j, Blk vi j → j < w1.heap.size := fun j hj => (own_prow vi _).lt w1 r1 j hj
      refine .inr ⟨g1, vi, rfl, (own_prow vi _).kept _ _ _ r1 p5 (fun j hj e => ?_), q1, ⟨v', lo', p1, p2, p3, fun j hj => ?_, fun j hj hf => ?_⟩, (t1.mono (fun _ h => h.elim)).trans p5 (fun j hj => ?_)⟩
      · rcases e with e | e
        · have := HG.out.1.lt e; have := q1 j hj; omega
        · exact q3 j hj e
      · rcases p4 j hj with e | e
        · exact .inl e
        · exact .inr (by omega)
      · rcases p4 j hf with e | e
        · have := HG.out.1.lt e; have := q1 j hj; omega
        · have := hl1 j hj; omega
      · rcases hj with e | e
        · exact .inl e
        · exact .inr (q2 j e)
end Go.Proofs.Ytdddmjdlikjedaa
