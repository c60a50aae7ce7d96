/-
  What goes through a queue tells, round by round: its items, in order. No conditions but that the lists are such as calls can make, and that the loop's body keeps what the way reads.
-/
import Derived.RangeFuncNested
import Derived.RangeFuncBox
import Derived.RangeFuncLeaves
import Derived.Shelf.Abstract
import Derived.WalkKit
import Derived.OwnWalkIn
import Derived.TacticsInMore
import Derived.LoopNIn
import Derived.LoopIn
import Derived.Sort.LoopGhostIn
import Derived.Maps.AppendAt
import Derived.Test.YtpfoleaampcibaaSmall
import Derived.Test.YtpfoleaampcibaaSays
namespace Go.Proofs.Ytpfoleaampcibaa
open Go.RowKit Go.Shelf

attribute [local go_sem] Oper.semAt_some

/-- What the way through queue q reads. -/
structure Sees (Ba Bb a p c n k : Nat) (q : Int) (B : Nat → Nat) (W : World) : Prop where
  ba : Boxed W Ba 23 (.pointer (some ⟨a, 0, none⟩))
  bb : Boxed W Bb 3 (.int .i64 q)
  head : W.heap[a]? = some (.cells #[.int .i64 n, .slice (some ⟨p, 0, none⟩) (n + k) (n + k), .slice (some ⟨c, 0, none⟩) k k] 51 (0, 0))
  way : ∀ i, i < n + k → W.cell? ⟨p, i * 3 + 2, none⟩ = some (.int .i64 (B i))

theorem Sees.c0 {Ba Bb a p c n k : Nat} {q : Int} {B : Nat → Nat} {W : World} (h : Sees Ba Bb a p c n k q B W) : W.cell? ⟨a, 0, none⟩ = some (.int .i64 n) := by simpa using cell_at h.head 0
theorem Sees.c1 {Ba Bb a p c n k : Nat} {q : Int} {B : Nat → Nat} {W : World} (h : Sees Ba Bb a p c n k q B W) : W.cell? ⟨a, 1, none⟩ = some (.slice (some ⟨p, 0, none⟩) (n + k) (n + k)) := by simpa using cell_at h.head 1
theorem Sees.c2 {Ba Bb a p c n k : Nat} {q : Int} {B : Nat → Nat} {W : World} (h : Sees Ba Bb a p c n k q B W) : W.cell? ⟨a, 2, none⟩ = some (.slice (some ⟨c, 0, none⟩) k k) := by simpa using cell_at h.head 2
/-- Blocks that are not of the way's may be turned. -/
theorem Sees.kept {Ba Bb a p c n k : Nat} {q : Int} {B : Nat → Nat} {W W' : World} {G : Nat → Prop} (h : Sees Ba Bb a p c n k q B W) (ht : Turn G W W') (hG : ∀ j, j = Ba ∨ j = Bb ∨ j = a ∨ j = p → ¬ G j) : Sees Ba Bb a p c n k q B W' :=
  ⟨ht.heap h.ba (hG _ (.inl rfl)), ht.heap h.bb (hG _ (.inr (.inl rfl))), ht.heap h.head (hG _ (.inr (.inr (.inl rfl)))), fun _ hi => ht.cell (h.way _ hi) (hG _ (.inr (.inr (.inr rfl))))⟩
theorem sees_of {Ba Bb a p c : Nat} {q : Int} {r : Raw} {W : World} (hm : Mem W a p c r) (h1 : Boxed W Ba 23 (.pointer (some ⟨a, 0, none⟩))) (h2 : Boxed W Bb 3 (.int .i64 q)) : Sees Ba Bb a p c r.items r.queues q r.B W :=
  ⟨h1, h2, hm.head, fun _ hi => hm.b hi⟩

/-- What a round must keep. -/
def KpSees (Ba Bb a p c n k : Nat) (q : Int) (B : Nat → Nat) (W W' : World) : Prop := Sees Ba Bb a p c n k q B W → Sees Ba Bb a p c n k q B W'
theorem KpSees.trans {Ba Bb a p c n k : Nat} {q : Int} {B : Nat → Nat} {X Y Z : World} (h : KpSees Ba Bb a p c n k q B X Y) (h' : KpSees Ba Bb a p c n k q B Y Z) : KpSees Ba Bb a p c n k q B X Z := fun s => h' (h s)
theorem turn_putObj (W : World) (l : Nat) (o : Obj) : Turn (fun k => k = l) W (W.putObj l o) := by
  have h1 := grownBy_putObj' W l o
  exact ⟨h1.os, h1.tape, h1.output, h1.size, fun k hk hn => h1.block k hk (fun e => hn (by cases e; rfl))⟩
theorem KpSees.put {Ba Bb a p c n k : Nat} {q : Int} {B : Nat → Nat} {w : World} (h1 : Ba < w.heap.size) (h2 : Bb < w.heap.size) (h3 : a < w.heap.size) (h4 : p < w.heap.size) (W : World) (l : Nat) (o o' : Obj) (hl : w.heap.size ≤ l) (_ : W.heap[l]? = some o) (_ : o.isCells = false) (_ : o.isWalk = false) :
    KpSees Ba Bb a p c n k q B W (W.putObj l o') := fun s =>
  s.kept (turn_putObj W l o') (fun j hj e => by omega)

/-- The items of a queue as integers. -/
def castL (l : List Nat) : List Int := l.map (fun (x : Nat) => (x : Int))
theorem castL_take (l : List Nat) (k : Nat) : castL (l.take k) = (castL l).take k := by simp [castL]
theorem castL_snoc (l : List Nat) (k : Nat) (h : k < l.length) : castL (l.take (k + 1)) = castL (l.take k) ++ [((l.getD k 0 : Nat) : Int)] := by
  have e : l.take (k + 1) = l.take k ++ [l.getD k 0] := by
    rw [List.take_add_one, List.getElem?_eq_getElem h]
    simp [List.getD, List.getElem?_eq_getElem h]
  rw [e]; simp [castL]

theorem hasq_in_yes (F : Fence) (m : Nat) (hf : F.fn 31) (hro : F.round = none) (w : World) (a c k : Nat) (q : Int) (hc : w.cell? ⟨a, 2, none⟩ = some (.slice (some ⟨c, 0, none⟩) k k)) (h0 : 0 ≤ q) (h1 : q < k) :
    CallsIn F m Try.prog 31 #[.pointer (some ⟨a, 0, none⟩), .int .i64 q] w fun e w' => e = .returned (.bool true) ∧ w = w' := by
  refine callsIn_of_wp Try.func31 rfl hf ?_ hro
  simp only [Try.ntmps31, List.size_toArray, List.length_cons, List.length_nil, Nat.reduceAdd, Nat.reduceSub, Array.replicate_succ, Array.replicate_zero, List.push_toArray, List.append_toArray, List.nil_append, List.cons_append]
  gi_wp2
  go_ret
  exact ⟨rfl, rfl⟩
theorem hasq_in_no (F : Fence) (m : Nat) (hf : F.fn 31) (hro : F.round = none) (w : World) (a c k : Nat) (q : Int) (hc : w.cell? ⟨a, 2, none⟩ = some (.slice (some ⟨c, 0, none⟩) k k)) (h0 : q < 0 ∨ (k : Int) ≤ q) :
    CallsIn F m Try.prog 31 #[.pointer (some ⟨a, 0, none⟩), .int .i64 q] w fun e w' => e = .returned (.bool false) ∧ w = w' := by
  rcases h0 with h0 | h0
  · refine callsIn_of_wp Try.func31 rfl hf ?_ hro
    simp only [Try.ntmps31, List.size_toArray, List.length_cons, List.length_nil, Nat.reduceAdd, Nat.reduceSub, Array.replicate_succ, Array.replicate_zero, List.push_toArray, List.append_toArray, List.nil_append, List.cons_append]
    gi_wp2
    go_ret
    exact ⟨rfl, rfl⟩
  · have h1 : 0 ≤ q := by omega
    have hd : decide (q < (k : Int)) = false := by simp; omega
    refine callsIn_of_wp Try.func31 rfl hf ?_ hro
    simp only [Try.ntmps31, List.size_toArray, List.length_cons, List.length_nil, Nat.reduceAdd, Nat.reduceSub, Array.replicate_succ, Array.replicate_zero, List.push_toArray, List.append_toArray, List.nil_append, List.cons_append]
    gi_wp2
    go_ret
    exact ⟨rfl, rfl⟩
theorem head_in (F : Fence) (m : Nat) (hf : F.fn 28) (hro : F.round = none) (w : World) (a n q hd : Nat) (hc : w.cell? ⟨a, 0, none⟩ = some (.int .i64 n)) (hh : n + q = hd) (hb : hd ≤ 131072) :
    CallsIn F m Try.prog 28 #[.pointer (some ⟨a, 0, none⟩), .int .i64 q] w fun e w' => e = .returned (.int .i64 hd) ∧ w = w' := by
  subst hh
  refine callsIn_of_wp Try.func28 rfl hf ?_ hro
  simp only [Try.ntmps28, List.size_toArray, List.length_cons, List.length_nil, Nat.reduceAdd, Nat.reduceSub, Array.replicate_succ, Array.replicate_zero, List.push_toArray, List.append_toArray, List.nil_append, List.cons_append]
  gi_wp2
  go_ret
  exact ⟨by simp, rfl⟩
theorem all_in (F : Fence) (m : Nat) (hf : F.fn 34) (hro : F.round = none) (a : Nat) (q : Int) (w : World) :
    CallsIn F m Try.prog 34 #[.pointer (some ⟨a, 0, none⟩), .int .i64 q] w fun e w' => e = .returned (.func (.func 35) #[] #[.pointer (some ⟨w.heap.size, 0, none⟩), .pointer (some ⟨w.heap.size + 1, 0, none⟩)]) ∧ w' = (w.alloc (.cells #[.pointer (some ⟨a, 0, none⟩)] 23)).alloc (.cells #[.int .i64 q] 3) := by
  refine callsIn_of_wp Try.func34 rfl hf ?_ hro
  simp only [Try.ntmps34, List.size_toArray, List.length_cons, List.length_nil, Nat.reduceAdd, Nat.reduceSub, Array.replicate_succ, Array.replicate_zero, List.push_toArray, List.append_toArray, List.nil_append, List.cons_append]
  gi_wp2
  go_ret
  exact ⟨rfl, rfl⟩

set_option maxRecDepth 100000 in
set_option maxHeartbeats 2000000 in
theorem way_none (F : Fence) (m : Nat) (hf : F.fn 35) (hf2 : F.fn 31) (hro : F.round = none) (hn : 2 ≤ m) (l Ba Bb a p c n k : Nat) (q : Int) (B : Nat → Nat) (hq : ¬ inQ k q) (J Jx : Nat → World → Prop)
    (W : World) (hS : Sees Ba Bb a p c n k q B W) (h0 : J 0 W) :
    CallsIn F m Try.prog 35 #[.func (.yield l) #[] #[], .pointer (some ⟨Ba, 0, none⟩), .pointer (some ⟨Bb, 0, none⟩)] W fun e W' => (∃ v, e = .returned v) ∧
      (J 0 W' ∨ (∃ j, j ≤ 0 ∧ Jx j W')) := by
  have b1 := hS.ba.cell
  have b2 := hS.bb.cell
  have c1 := hasq_in_no F (m - 1) hf2 hro W a c k q hS.c2 (inQ_not hq)
  have h1 : 1 ≤ m := by omega
  clear hS hq
  refine callsIn_of_wp Try.func35 rfl hf ?_ hro
  simp only [Try.ntmps35, List.size_toArray, List.length_cons, List.length_nil, Nat.reduceAdd, Nat.reduceSub, Array.replicate_succ, Array.replicate_zero, List.push_toArray, List.append_toArray, List.nil_append, List.cons_append]
  gi_wp2_with (gi_at_call 31; refine c1.mono ?_; rintro e w' ⟨rfl, rfl⟩)
  refine bodyPost_ret (results_none rfl _ _ _) rfl ?_
  exact ⟨⟨_, rfl⟩, .inl h0⟩

/-- Item by item: behind j items J j is held. -/
def Rounds (F : Fence) (m l Ba Bb a p c n k : Nat) (q : Int) (B : Nat → Nat) (L : List Nat) (J Jx : Nat → World → Prop) : Prop :=
  ∀ j x W, J j W → j < L.length → x = L.getD j 0 → YieldAt F (m - 1) Try.prog l #[.int .i64 ((x : Nat) : Int)] W fun e W' =>
    (e = .returned (.bool true) ∧ J (j + 1) W' ∧ KpSees Ba Bb a p c n k q B W W') ∨ (e = .returned (.bool false) ∧ Jx (j + 1) W')

set_option maxRecDepth 100000 in
set_option maxHeartbeats 2000000 in
theorem way_in (F : Fence) (m : Nat) (hf : F.fn 35) (hf2 : F.fn 31) (hf3 : F.fn 28) (hro : F.round = none) (hn : 2 ≤ m) (l Ba Bb a p c n k q hd : Nat) (B A : Nat → Nat) (L : List Nat) (hq : q < k) (hnn : n ≤ 65536) (hkk : k ≤ 65536) (hh : n + q = hd)
    (hch : Chain A B hd L hd) (hL : ∀ x ∈ L, x < n) (J Jx : Nat → World → Prop)
    (hY : Rounds F m l Ba Bb a p c n k q B L J Jx)
    (W : World) (hS : Sees Ba Bb a p c n k q B W) (h0 : J 0 W) :
    CallsIn F m Try.prog 35 #[.func (.yield l) #[] #[], .pointer (some ⟨Ba, 0, none⟩), .pointer (some ⟨Bb, 0, none⟩)] W fun e W' => (∃ v, e = .returned v) ∧
      (J L.length W' ∨ (∃ j, j ≤ L.length ∧ Jx j W')) := by
  have b1 := hS.ba.cell
  have b2 := hS.bb.cell
  have c1 := hasq_in_yes F (m - 1) hf2 hro W a c k q hS.c2 (by omega) (by omega)
  have c2 := head_in F (m - 1) hf3 hro W a n q hd hS.c0 hh (by omega)
  have d1 := hS.c1
  have hdl : hd < n + k := by omega
  have d2 := hS.way hd hdl
  have hB0 := hch.next 0 (by omega)
  simp only [List.getD_cons_zero] at hB0
  obtain ⟨N, hN⟩ : ∃ N, n + k = N := ⟨_, rfl⟩
  obtain ⟨len, hlen⟩ : ∃ len, L.length = len := ⟨_, rfl⟩
  rw [hB0] at d2
  simp only [hN] at d1
  rw [hN] at hdl
  have h1 : 1 ≤ m := by omega
  have HS : Hid (Sees Ba Bb a p c n k q B W) := hS
  have HN : Hid (n + k = N) := hN
  have HLn : Hid (L.length = len) := hlen
  have HC : Hid (Chain A B hd L hd) := hch
  have HL : Hid (∀ x ∈ L, x < n) := hL
  have HH : Hid (n + q = hd) := hh
  have hY' : Hid (Rounds F m l Ba Bb a p c n k q B L J Jx) := hY
  obtain ⟨x0, hx0⟩ : ∃ x0, (L ++ [hd]).getD 0 hd = x0 := ⟨_, rfl⟩
  rw [hx0] at d2
  have HX : Hid ((L ++ [hd]).getD 0 hd = x0) := hx0
  rw [hlen]
  clear hS hN hlen hch hL hh hY hx0 hB0 hq
  refine callsIn_of_wp Try.func35 rfl hf ?_ hro
  simp only [Try.ntmps35, List.size_toArray, List.length_cons, List.length_nil, Nat.reduceAdd, Nat.reduceSub, Array.replicate_succ, Array.replicate_zero, List.push_toArray, List.append_toArray, List.nil_append, List.cons_append]
  gi_wp2_with (first
    | (gi_at_call 31; refine c1.mono ?_; rintro e w' ⟨rfl, rfl⟩)
    | (gi_at_call 28; refine c2.mono ?_; rintro e w' ⟨rfl, rfl⟩))
  gi_loopg [5] len (fun g i wr => ∃ j x : Nat, j ≤ len ∧ g = len - j ∧ i = .int .i64 x ∧ Hid ((L ++ [hd]).getD j hd = x) ∧ J j wr ∧ Hid (Sees Ba Bb a p c n k q B wr))
  case atStart => exact ⟨0, x0, Nat.zero_le _, by omega, rfl, HX, h0, HS⟩
  case round =>
    obtain ⟨j, x, hj, hgk, rfl, hx, hJ, hs⟩ := hrel
    by_cases hlt : j < len
    · have hjL : j < L.length := by rw [HLn.out]; exact hlt
      have hxe : x = L.getD j 0 := by
        rw [← hx.out]
        simp [List.getD, List.getElem?_append_left hjL, List.getElem?_eq_getElem hjL]
      have hxm : x ∈ L := by
        rw [hxe]
        simp [List.getD, List.getElem?_eq_getElem hjL]
      have hxn := HL.out x hxm
      have hxh : ((x : Int) != hd) = true := by have := HH.out; simp; omega
      have hxN : x < N := by have := HN.out; omega
      obtain ⟨fn, tmps, assign, body, hy, hR⟩ := hY'.out j x wr hJ hjL hxe
      obtain ⟨y, hyy⟩ : ∃ y, (L ++ [hd]).getD (j + 1) hd = y := ⟨_, rfl⟩
      have hB : B x = y := by
        have := HC.out.next (j + 1) (by omega)
        rw [hyy] at this
        rw [← this, List.getD_cons_succ, hxe]
        simp [List.getD, List.getElem?_eq_getElem hjL]
      have HB : Hid (B x = y) := hB
      have HY2 : Hid ((L ++ [hd]).getD (j + 1) hd = y) := hyy
      clear hxe hxm hxn hyy hjL hB
      gi_wp2
      refine hR.mono ?_
      rintro e W3 (⟨rfl, hJ3, hk3⟩ | ⟨rfl, hJx3⟩)
      · have s3 := hk3 hs.out
        have e1 := s3.ba.cell
        have e2 := s3.c1
        have e3 := s3.way x (by rw [HN.out]; exact hxN)
        rw [HB.out] at e3
        simp only [HN.out] at e2
        have hs3 : Hid (Sees Ba Bb a p c n k q B W3) := s3
        clear s3 hk3
        gi_wp2
        gi_roundg (len - (j + 1))
        case measure => omega
        case rel => exact ⟨j + 1, y, by omega, by omega, rfl, HY2, hJ3, hs3⟩
      · gi_wp2
        refine bodyPost_ret (results_none rfl _ _ _) rfl ?_
        exact ⟨⟨_, rfl⟩, .inr ⟨j + 1, by omega, hJx3⟩⟩
    · obtain rfl : j = len := by omega
      have hxe : x = hd := by
        rw [← hx.out, ← HLn.out]
        simp [List.getD]
      subst hxe
      gi_wp2
      go_end0
      exact ⟨⟨_, rfl⟩, .inl hJ⟩

end Go.Proofs.Ytpfoleaampcibaa
