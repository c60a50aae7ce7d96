/-
  What goes through the pieces that have some of a range's numbers tells, round by round. No conditions but that the pieces rise and lie in the region, and that the loop's body keeps what the way reads.
-/
import Derived.RangeFuncNested
import Derived.RangeFuncBox
import Derived.RangeFuncLeaves
import Derived.Shelf.Abstract
import Derived.WalkKit
import Derived.OwnWalkIn
import Derived.TacticsInMore
import Derived.LoopNIn
import Derived.LoopIn
import Derived.Sort.LoopGhostIn
import Derived.Maps.AppendAt
import Derived.Test.YtdddmjdlikjedaaGFrom
namespace Go.Proofs.Ytdddmjdlikjedaa
open Go.RowKit Go.Shelf

attribute [local go_sem] Oper.semAt_some

/-- Has a piece some of n numbers from x on? -/
def Ov (x n : Int) (p : Pc) : Prop := 0 ≤ x ∧ 1 ≤ n ∧ p.at' < x + n ∧ x < p.fin
instance (x n : Int) (p : Pc) : Decidable (Ov x n p) := by unfold Ov; exact inferInstance
/-- The pieces from k on to ahead of b are those that have some of the numbers. -/
structure SegIs (l : List Pc) (x n : Int) (k b : Nat) : Prop where
  from' : FromIs l x k
  lo : k ≤ b
  hi : b ≤ l.length
  ov : ∀ (j : Nat) (p : Pc), k ≤ j → j < b → l[j]? = some p → Ov x n p
  no : ∀ p : Pc, l[b]? = some p → ¬ Ov x n p
theorem seg_ex {l : List Pc} {x n : Int} {k : Nat} (h : FromIs l x k) : ∃ b, SegIs l x n k b := by
  have key : ∀ (m j : Nat), l.length - j = m → k ≤ j → j ≤ l.length → (∀ (i : Nat) (p : Pc), k ≤ i → i < j → l[i]? = some p → Ov x n p) → ∃ b, SegIs l x n k b := by
    intro m
    induction m with
    | zero =>
      intro j hm hk hj hov
      exact ⟨j, h, hk, hj, hov, fun p hp => by have := (List.getElem?_eq_some_iff.1 hp).1; omega⟩
    | succ m ih =>
      intro j hm hk hj hov
      obtain ⟨p, hp⟩ := gget_some (show j < l.length by omega)
      by_cases ho : Ov x n p
      · refine ih (j + 1) (by omega) (by omega) (by omega) (fun i q h1 h2 hq => ?_)
        by_cases e : i = j
        · subst e; rw [hp] at hq; simp at hq; subst hq; exact ho
        · exact hov i q h1 (by omega) hq
      · exact ⟨j, h, hk, hj, hov, fun q hq => by rw [hp] at hq; simp at hq; subst hq; exact ho⟩
  exact key _ k rfl (Nat.le_refl _) h.le (fun i p h1 h2 => by omega)
/-- What stands behind them has none of the numbers. -/
theorem SegIs.past {l : List Pc} {size x n : Int} {k b : Nat} (h : SegIs l x n k b) (ok : GOK size l) {j : Nat} {p : Pc} (hj : b ≤ j) (hp : l[j]? = some p) : ¬ Ov x n p := by
  rcases Nat.lt_or_ge b j with h1 | h1
  · obtain ⟨q, hq⟩ := gget_some (show b < l.length by have := (List.getElem?_eq_some_iff.1 hp).1; omega)
    have h2 := h.no q hq
    have h3 := rise_at ok.rise h1 hq hp
    have h4 := h.from'.high b q h.lo hq
    have h5 := ok.each q (List.mem_of_getElem? hq)
    unfold Ov Pc.fin at *
    omega
  · obtain rfl : j = b := by omega
    exact h.no p hp

/-- What the way reads. -/
structure OSees (B0 B1 B2 a : Nat) (size most : Int) (v : Value) (l : List Pc) (x n : Int) (W : World) : Prop where
  b0 : Boxed W B0 57 (.pointer (some ⟨a, 0, none⟩))
  b1 : Boxed W B1 3 (.int .i64 x)
  b2 : Boxed W B2 3 (.int .i64 n)
  mem : GMem W a size most v l
section
variable {B0 B1 B2 a : Nat} {size most : Int} {v : Value} {l : List Pc} {x n : Int}
theorem OSees.kept {W W' : World} {G : Nat → Prop} (h : OSees B0 B1 B2 a size most v l x n W) (ht : Turn G W W') (hG : ∀ j, j = B0 ∨ j = B1 ∨ j = B2 ∨ GFoot a v j → ¬ G j) : OSees B0 B1 B2 a size most v l x n W' :=
  ⟨ht.heap h.b0 (hG _ (.inl rfl)), ht.heap h.b1 (hG _ (.inr (.inl rfl))), ht.heap h.b2 (hG _ (.inr (.inr (.inl rfl)))), h.mem.kept ht (fun k hk => hG k (.inr (.inr (.inr hk))))⟩
theorem OSees.past {W W' : World} (h : OSees B0 B1 B2 a size most v l x n W) (ht : Turn NoBlock W W') : OSees B0 B1 B2 a size most v l x n W' := h.kept ht (fun _ _ h => h)
/-- What a round must keep. -/
def KpO (B0 B1 B2 a : Nat) (size most : Int) (v : Value) (l : List Pc) (x n : Int) (W W' : World) : Prop := OSees B0 B1 B2 a size most v l x n W → OSees B0 B1 B2 a size most v l x n W'
theorem KpO.trans {X Y Z : World} (h : KpO B0 B1 B2 a size most v l x n X Y) (h' : KpO B0 B1 B2 a size most v l x n Y Z) : KpO B0 B1 B2 a size most v l x n X Z := fun s => h' (h s)
theorem turn_putObj (W : World) (l : Nat) (o : Obj) : Turn (fun k => k = l) W (W.putObj l o) := by
  have h1 := grownBy_putObj' W l o
  exact ⟨h1.os, h1.tape, h1.output, h1.size, fun k hk hn => h1.block k hk (fun e => hn (by cases e; rfl))⟩
theorem KpO.put {w : World} (h1 : B0 < w.heap.size) (h2 : B1 < w.heap.size) (h3 : B2 < w.heap.size) (h4 : ∀ j, GFoot a v j → j < w.heap.size) (W : World) (i : Nat) (o o' : Obj) (hl : w.heap.size ≤ i) (_ : W.heap[i]? = some o) (_ : o.isCells = false) (_ : o.isWalk = false) :
    KpO B0 B1 B2 a size most v l x n W (W.putObj i o') := fun s =>
  s.kept (turn_putObj W i o') (fun j hj e => by
    subst e
    rcases hj with h | h | h | h
    · omega
    · omega
    · omega
    · have := h4 _ h; omega)

theorem over_in (F : Fence) (m : Nat) (hf : F.fn 69) (hro : F.round = none) (a : Nat) (x n : Int) (w : World) :
    CallsIn F m Try.prog 69 #[.pointer (some ⟨a, 0, none⟩), .int .i64 x, .int .i64 n] w fun e w' => e = .returned (.func (.func 90) #[] #[.pointer (some ⟨w.heap.size, 0, none⟩), .pointer (some ⟨w.heap.size + 1, 0, none⟩), .pointer (some ⟨w.heap.size + 2, 0, none⟩)]) ∧
      w' = ((w.alloc (.cells #[.pointer (some ⟨a, 0, none⟩)] 57)).alloc (.cells #[.int .i64 x] 3)).alloc (.cells #[.int .i64 n] 3) := by
  refine callsIn_of_wp Try.func69 rfl hf ?_ hro
  simp only [Try.ntmps69, List.size_toArray, List.length_cons, List.length_nil, Nat.reduceAdd, Nat.reduceSub, Array.replicate_succ, Array.replicate_zero, List.push_toArray, List.append_toArray, List.nil_append, List.cons_append]
  gi_wp2
  go_ret
  exact ⟨rfl, rfl⟩

end

/-- One of the pieces that have some of the numbers, with its place. -/
def Sg (l : List Pc) (x n : Int) (k b : Nat) : Type := { y : Nat × Pc // k ≤ y.1 ∧ y.1 < b ∧ l[y.1]? = some y.2 ∧ Ov x n y.2 }
def Sg.enc {l : List Pc} {x n : Int} {k b : Nat} (y : Sg l x n k b) : Array Value := #[.int .i64 ((y.1.1 : Nat) : Int), y.1.2.agg]
/-- They are those, in their order. -/
def IsSeg {l : List Pc} {x n : Int} {k b : Nat} (ys : List (Sg l x n k b)) (j : Nat) : Prop := ys.length = j ∧ ∀ (i : Nat) (y : Sg l x n k b), ys[i]? = some y → y.1.1 = k + i
theorem IsSeg.snoc {l : List Pc} {x n : Int} {k b : Nat} {ys : List (Sg l x n k b)} {j : Nat} (h : IsSeg ys j) (y : Sg l x n k b) (hy : y.1.1 = k + j) : IsSeg (ys ++ [y]) (j + 1) := by
  refine ⟨by rw [List.length_append, h.1]; rfl, fun i z hz => ?_⟩
  rcases Nat.lt_or_ge i ys.length with h1 | h1
  · rw [List.getElem?_append_left h1] at hz; exact h.2 i z hz
  · rw [List.getElem?_append_right h1] at hz
    have := (List.getElem?_eq_some_iff.1 hz).1
    simp at this
    have e : i = ys.length := by omega
    subst e
    simp at hz
    subst hz
    rw [h.1]; exact hy
theorem grown_of {w w' : World} (t : Turn NoBlock w w') : w.grownBy w' none := ⟨t.os, t.tape, t.output, t.size, fun k hk _ => t.block k hk (fun h => h)⟩

set_option maxRecDepth 100000 in
set_option maxHeartbeats 4000000 in
theorem oway_in (F : Fence) (m : Nat) (hf : F.fn 90) (hro : F.round = none) (hn : 2 ≤ m) (i B0 B1 B2 a : Nat) (size most : Int) (v : Value) (l : List Pc) (x n : Int) (k b : Nat) (hs : SegIs l x n k b) (hll : l.length ≤ 65536)
    (cF : ∀ W, OSees B0 B1 B2 a size most v l x n W → CallsIn F (m - 1) Try.prog 91 #[.pointer (some ⟨a, 0, none⟩), .int .i64 x] W fun e w' => e = .returned (.int .i64 k) ∧ Turn NoBlock W w')
    (cO : ∀ p W, p ∈ l → CallsIn F (m - 1) Try.prog 92 #[.int .i64 p.at', .int .i64 p.len, .int .i64 x, .int .i64 n] W fun e w' => e = .returned (.bool (decide (Ov x n p))) ∧ W = w')
    (hf2 : F.fn 91) (hf3 : F.fn 92)
    (J Jx : List (Sg l x n k b) → World → Prop) (W : World) (hJ : AbidesFrom W.heap.size J)
    (hY : ∀ pre y W1, J pre W1 → pre.length < b - k → YieldAt F (m - 1) Try.prog i y.enc W1 fun e W' =>
      (e = .returned (.bool true) ∧ J (pre ++ [y]) W' ∧ KpO B0 B1 B2 a size most v l x n W1 W') ∨ (e = .returned (.bool false) ∧ Jx (pre ++ [y]) W'))
    (hS : OSees B0 B1 B2 a size most v l x n W) (h0 : J [] W) :
    CallsIn F m Try.prog 90 #[.func (.yield i) #[] #[], .pointer (some ⟨B0, 0, none⟩), .pointer (some ⟨B1, 0, none⟩), .pointer (some ⟨B2, 0, none⟩)] W fun e W' => (∃ v, e = .returned v) ∧
      ((∃ xs, IsSeg xs (b - k) ∧ J xs W') ∨ (∃ pre, True ∧ Jx pre W')) := by
  have b0 := hS.b0.cell
  have b1 := hS.b1.cell
  have c1 := cF W hS
  have h1 : 1 ≤ m := by omega
  have HS := Lib.hid hs
  have HJ := Lib.hid hJ
  have HY := Lib.hid hY
  have HO := Lib.hid cO
  have HSS := Lib.hid hS
  have hlo := hs.lo
  have hhi := hs.hi
  clear hs hJ hY cO hS cF
  refine callsIn_of_wp Try.func90 rfl hf ?_ hro
  simp only [Try.ntmps90, List.size_toArray, List.length_cons, List.length_nil, Nat.reduceAdd, Nat.reduceSub, Array.replicate_succ, Array.replicate_zero, List.push_toArray, List.append_toArray, List.nil_append, List.cons_append]
  gi_wp2_with (gi_at_call 91; refine c1.mono ?_; rintro e w' ⟨rfl, t⟩; have K := Lib.hid t; clear t)
  obtain ⟨N, hN⟩ : ∃ N, l.length = N := ⟨_, rfl⟩
  obtain ⟨pv, cv, hv⟩ := HSS.out.mem.row.slice
  rw [hN] at hv hll hhi
  have HV := Lib.hid (And.intro hN hv)
  clear hN hv b0 b1
  have hJ0 := HJ.out _ _ _ none h0 (grown_of K.out) (fun r e => by cases e)
  have S0 := Lib.hid (HSS.out.past K.out)
  have hsz := K.out.size
  gi_loopg [5] (b - k) (fun g s5 wr => ∃ (j : Nat) (pre : List (Sg l x n k b)), j ≤ b - k ∧ g = b - k - j ∧ s5 = .int .i64 ((k + j : Nat) : Int) ∧ IsSeg pre j ∧ J pre wr ∧ Hid (OSees B0 B1 B2 a size most v l x n wr))
  case atStart => exact ⟨0, [], by omega, by omega, rfl, ⟨rfl, fun i y h => by simp at h⟩, hJ0, S0⟩
  case round =>
    obtain ⟨j, pre, hj, hg, rfl, hI, hJp, HSr⟩ := hrel
    have e0 := HSr.out.b0.cell
    have e1 := HSr.out.b1.cell
    have e2 := HSr.out.b2.cell
    have l0 := HSr.out.b0.lt
    have l1 := HSr.out.b1.lt
    have l2 := HSr.out.b2.lt
    have l3 := lt_of_block HSr.out.mem.head
    have e3 := HSr.out.mem.c2
    rw [HV.out.2] at e3
    obtain ⟨q, hq⟩ : ∃ q, k + j = q := ⟨_, rfl⟩
    rw [hq]
    by_cases hlt : q < N
    · obtain ⟨p, hp⟩ := gget_some (show q < l.length by rw [HV.out.1]; exact hlt)
      have hrow := HSr.out.mem.row
      rw [HV.out.2] at hrow
      obtain ⟨gv, cv', hve, -, -⟩ := hrow.shape (by rw [HV.out.1]; omega)
      simp only [Value.slice.injEq] at hve
      obtain ⟨rfl, -, rfl⟩ := hve
      obtain ⟨d0, d1, d2, d3, d4⟩ := hrow.five hp
      have cO := HO.out p (wr.alloc (.cells #[.int .i64 p.at', .int .i64 p.len, .int .i64 p.vmo, .int .i64 p.from', .int .i64 p.prot] 61)) (List.mem_of_getElem? hp)
      have hJa := HJ.out pre wr (wr.alloc (.cells #[.int .i64 p.at', .int .i64 p.len, .int .i64 p.vmo, .int .i64 p.from', .int .i64 p.prot] 61)) none hJp (World.grownBy_alloc wr _ none) (fun r e => by cases e)
      have Sa := HSr.out.past ((Turn.refl NoBlock wr).alloc (.cells #[.int .i64 p.at', .int .i64 p.len, .int .i64 p.vmo, .int .i64 p.from', .int .i64 p.prot] 61))
      have HSa := Lib.hid Sa
      by_cases hb : q < b
      · have hov : Ov x n p := HS.out.ov q p (by omega) hb hp
        obtain ⟨y, hy⟩ : ∃ y : Sg l x n k b, y.1 = (q, p) := ⟨⟨(q, p), by dsimp only; omega, hb, hp, hov⟩, rfl⟩
        have hyk : y.1.1 = k + j := by rw [hy]; omega
        have hI2 := hI.snoc y hyk
        rw [show decide (Ov x n p) = true by simpa using hov] at cO
        obtain ⟨fn, tmps, assign, body, hyy, hR⟩ := HY.out pre y _ hJa (by rw [hI.1]; omega)
        unfold Sg.enc Pc.agg at hyy
        rw [hy] at hyy
        dsimp only at hyy
        obtain ⟨pa, pl, pv', pf, pr⟩ := p
        simp only at d0 d1 d2 d3 d4 cO hJa hyy hR HSa
        have HI2 := Lib.hid hI2
        have hqN : (q : Int) < N := by omega
        have hNN : (N : Int) ≤ 65536 := by omega
        clear Sa hrow hp hov hy hyk hI2 hJa hJp hI
        gi_wp2_with (gi_at_call 92; refine cO.mono ?_; rintro e w' ⟨rfl, rfl⟩)
        refine hR.mono ?_
        rintro e W3 (⟨rfl, hJ3, hk3⟩ | ⟨rfl, hJx3⟩)
        · have s3 := Lib.hid (hk3 HSa.out)
          clear hk3
          gi_wp2
          gi_roundg (b - k - (j + 1))
          case measure => omega
          case rel => exact ⟨j + 1, _, by omega, rfl, by rw [show ((k + (j + 1) : Nat) : Int) = (q : Int) + 1 by omega], HI2.out, hJ3, s3⟩
        · gi_wp2
          refine bodyPost_ret (results_none rfl _ _ _) rfl ?_
          exact ⟨⟨_, rfl⟩, .inr ⟨_, trivial, hJx3⟩⟩
      · obtain rfl : q = b := by omega
        have hnov := HS.out.no p hp
        rw [show decide (Ov x n p) = false by simpa using hnov] at cO
        have hje : j = q - k := by omega
        obtain ⟨pa, pl, pv', pf, pr⟩ := p
        simp only at d0 d1 d2 d3 d4 cO hJa
        clear Sa hrow hp hnov hJp
        gi_wp2_with (gi_at_call 92; refine cO.mono ?_; rintro e w' ⟨rfl, rfl⟩)
        refine ⟨fun _ h => (by cases h), ?_⟩
        gi_wp2
        refine bodyPost_ret (results_none rfl _ _ _) rfl ?_
        exact ⟨⟨_, rfl⟩, .inl ⟨pre, by rw [← hje]; exact hI, hJa⟩⟩
    · obtain rfl : q = N := by omega
      have hje : j = b - k := by omega
      gi_wp2
      go_end0
      exact ⟨⟨_, rfl⟩, .inl ⟨pre, by rw [← hje]; exact hI, hJp⟩⟩
end Go.Proofs.Ytdddmjdlikjedaa
