/-
  What goes through an end's queue tells, round by round: its messages, in order. No conditions but that the end is in memory, and that the loop's body keeps what the way reads.
-/
import Derived.Test.YtcbphfpfdfgehaaCRange
import Derived.OwnWalkIn
import Derived.TacticsInMore
import Derived.LoopNIn
import Derived.LoopIn
import Derived.Maps.AppendAt
namespace Go.Proofs.Ytcbphfpfdfgehaa
open Go.RowKit Go.Shelf

attribute [local go_sem] Oper.semAt_some

theorem turn_putObj (W : World) (l : Nat) (o : Obj) : Turn (fun k => k = l) W (W.putObj l o) := by
  have h1 := grownBy_putObj' W l o
  exact ⟨h1.os, h1.tape, h1.output, h1.size, fun k hk hn => h1.block k hk (fun e => hn (by cases e; rfl))⟩
theorem Boxed.kept' {W W' : World} {B t : Nat} {v : Value} {F : Nat → Prop} (h : Boxed W B t v) (ht : Turn F W W') (hF : ¬ F B) : Boxed W' B t v := ht.heap h hF

/-- What the way back through a row reads. -/
structure BSees (B : Nat) (v : Value) (l : List QM) (W : World) : Prop where
  box : Boxed W B 42 v
  row : WRow W 49 3 v l.length (qcells l)
theorem BSees.kept {B : Nat} {v : Value} {l : List QM} {W W' : World} {F : Nat → Prop} (h : BSees B v l W) (t : Turn F W W') (hF : ∀ k, k = B ∨ Blk v k → ¬ F k) : BSees B v l W' :=
  ⟨Boxed.kept' h.box t (hF B (.inl rfl)), h.row.kept t (fun k hk => hF k (.inr hk))⟩
def KpB (B : Nat) (v : Value) (l : List QM) (W W' : World) : Prop := BSees B v l W → BSees B v l W'
theorem KpB.trans {B : Nat} {v : Value} {l : List QM} {X Y Z : World} (h : KpB B v l X Y) (k : KpB B v l Y Z) : KpB B v l X Z := fun s => k (h s)
theorem KpB.put {B : Nat} {v : Value} {l : List QM} {w : World} (h1 : B < w.heap.size) (h2 : ∀ k, Blk v k → k < w.heap.size) (W : World) (i : Nat) (o o' : Obj) (hl : w.heap.size ≤ i) (_ : W.heap[i]? = some o) (_ : o.isCells = false) (_ : o.isWalk = false) : KpB B v l W (W.putObj i o') := fun s =>
  s.kept (turn_putObj W i o') (fun k hk e => by
    subst e
    rcases hk with h | h
    · omega
    · have := h2 _ h; omega)

/-- An element with its place. -/
def Bk (l : List QM) : Type := { y : Nat × QM // l[y.1]? = some y.2 }
def Bk.enc {l : List QM} (y : Bk l) : Array Value := #[.int .i64 ((y.1.1 : Nat) : Int), y.1.2.agg]
def bk {l : List QM} (ys : List (Bk l)) : List QM := ys.map (·.1.2)
/-- What shows its slices. -/
def Shown (q : QM) : Prop := (∃ p c, q.vd = .slice p q.m.d.length c) ∧ ∃ p c, q.vh = .slice p q.m.h.length c
theorem QM.Ok.shown {w : World} {q : QM} (h : q.Ok w) : Shown q := ⟨h.d.sl, h.h.sl⟩

theorem back_any (w : World) (p : Option Addr) (n c : Nat) :
    Calls Try.prog 73 #[.slice p n c] w fun e w' => e = .returned (.func (.func 83) #[] #[.pointer (some ⟨w.heap.size, 0, none⟩)]) ∧ w' = w.alloc (.cells #[.slice p n c] 42) := by
  go_enter Try.func73, Try.ntmps73
  go_wp2
  go_ret
  exact ⟨rfl, rfl⟩
theorem queue_any (w : World) (a : Addr) :
    Calls Try.prog 49 #[.pointer (some a)] w fun e w' => e = .returned (.func (.func 72) #[] #[.pointer (some ⟨w.heap.size, 0, none⟩)]) ∧ w' = w.alloc (.cells #[.pointer (some a)] 111) := by
  go_enter Try.func49, Try.ntmps49
  go_wp2
  go_ret
  exact ⟨rfl, rfl⟩

theorem rev_take {l : List QM} {j : Nat} {q : QM} (h : l[l.length - 1 - j]? = some q) (hj : j < l.length) : l.reverse.take (j + 1) = l.reverse.take j ++ [q] := by
  rw [List.take_add_one, List.getElem?_reverse hj, h]
  rfl

set_option maxRecDepth 100000 in
set_option maxHeartbeats 4000000 in
theorem bway_in (m : Nat) (hn : 2 ≤ m) (i B : Nat) (v : Value) (l : List QM) (hll : l.length ≤ 1000000000) (hsh : ∀ q ∈ l, Shown q)
    (J Jx : List (Bk l) → World → Prop) (W : World) (hJ : AbidesFrom W.heap.size J)
    (hY : ∀ pre y W1, J pre W1 → pre.length < l.length → YieldAt Fence.wide (m - 1) Try.prog i y.enc W1 fun e W' =>
      (e = .returned (.bool true) ∧ J (pre ++ [y]) W' ∧ KpB B v l W1 W') ∨ (e = .returned (.bool false) ∧ Jx (pre ++ [y]) W'))
    (hS : BSees B v l W) (h0 : J [] W) :
    CallsIn Fence.wide m Try.prog 83 #[.func (.yield i) #[] #[], .pointer (some ⟨B, 0, none⟩)] W fun e W' => (∃ v, e = .returned v) ∧
      ((∃ xs, bk xs = l.reverse ∧ J xs W') ∨ (∃ pre, bk pre <+: l.reverse ∧ Jx pre W')) := by
  have b0 := hS.box.cell
  have h1 : 1 ≤ m := by omega
  have HJ := Lib.hid hJ
  have HY := Lib.hid hY
  have HSS := Lib.hid hS
  have HSH := Lib.hid hsh
  obtain ⟨n, hn'⟩ : ∃ n, l.length = n := ⟨_, rfl⟩
  obtain ⟨pv, cv, hv⟩ := hS.row.sl
  rw [hn'] at hv hll
  rw [hv] at b0
  have HV := Lib.hid (And.intro hn' hv)
  clear hJ hY hS hn' hsh hv
  refine callsIn_of_wp (F := Fence.wide) Try.func83 rfl trivial ?_ rfl
  simp only [Try.ntmps83, List.size_toArray, List.length_cons, List.length_nil, Nat.reduceAdd, Nat.reduceSub, Array.replicate_succ, Array.replicate_zero, List.push_toArray, List.append_toArray, List.nil_append, List.cons_append]
  gi_wp2
  gi_loopg [3] n (fun g s3 wr => ∃ (j : Nat) (pre : List (Bk l)), j ≤ n ∧ g = n - j ∧ s3 = .int .i64 ((n : Int) - 1 - j) ∧ Hid (bk pre = l.reverse.take j ∧ pre.length = j) ∧ J pre wr ∧ Hid (BSees B v l wr))
  case atStart => exact ⟨0, [], by omega, by omega, by simp, Lib.hid ⟨rfl, rfl⟩, h0, HSS⟩
  case round =>
    obtain ⟨j, pre, hj, hg, rfl, HI, hJp, HSr⟩ := hrel
    have e0 := HSr.out.box.cell
    rw [HV.out.2] at e0
    by_cases hlt : j < n
    · obtain ⟨k, hk⟩ : ∃ k, n - 1 - j = k := ⟨_, rfl⟩
      have hki : (n : Int) - 1 - j = (k : Int) := by omega
      rw [hki]
      have hkn : k < n := by omega
      obtain ⟨q, hq⟩ : ∃ q, l[k]? = some q := ⟨_, List.getElem?_eq_getElem (by rw [HV.out.1]; exact hkn)⟩
      have hrow := HSr.out.row
      rw [HV.out.2] at hrow
      obtain ⟨gv, ov, cv', hve, -⟩ := hrow.shape (by rw [HV.out.1]; omega)
      simp only [Value.slice.injEq] at hve
      obtain ⟨rfl, -, rfl⟩ := hve
      obtain ⟨d0, d1, d2⟩ := wrow_three hrow hq
      obtain ⟨⟨p1, c1, hvd⟩, p2, c2, hvh⟩ := HSH.out q (List.mem_of_getElem? hq)
      obtain ⟨y, hy⟩ : ∃ y : Bk l, y.1 = (k, q) := ⟨⟨(k, q), hq⟩, rfl⟩
      have HI2 := Lib.hid (show bk (pre ++ [y]) = l.reverse.take (j + 1) ∧ (pre ++ [y]).length = j + 1 by
        refine ⟨?_, by rw [List.length_append, HI.out.2]; rfl⟩
        rw [rev_take (q := q) (by rw [HV.out.1, hk]; exact hq) (by rw [HV.out.1]; exact hlt), ← HI.out.1]
        simp [bk, hy])
      obtain ⟨fn, tmps, assign, body, hyy, hR⟩ := HY.out pre y wr hJp (by rw [HI.out.2, HV.out.1]; exact hlt)
      unfold Bk.enc QM.agg at hyy
      rw [hy] at hyy
      dsimp only at hyy
      rw [hvd, hvh] at hyy
      rw [hvd] at d1
      rw [hvh] at d2
      have hkI : (k : Int) < n := by omega
      have hnn : (n : Int) ≤ 1000000000 := by omega
      have HK := Lib.hid hki
      clear hrow hq hy hvd hvh hJp hki hk
      gi_wp2
      refine hR.mono ?_
      rintro e W3 (⟨rfl, hJ3, hk3⟩ | ⟨rfl, hJx3⟩)
      · have s3 := Lib.hid (hk3 HSr.out)
        clear hk3
        gi_wp2
        gi_roundg (n - (j + 1))
        case measure => omega
        case rel => exact ⟨j + 1, _, by omega, rfl, by rw [show (n : Int) - 1 - ((j + 1 : Nat) : Int) = (k : Int) - 1 by have := HK.out; omega], HI2, hJ3, s3⟩
      · gi_wp2
        refine bodyPost_ret (results_none rfl _ _ _) rfl ?_
        exact ⟨⟨_, rfl⟩, .inr ⟨_, by rw [HI2.out.1]; exact List.take_prefix _ _, hJx3⟩⟩
    · obtain rfl : j = n := by omega
      have hneg : (j : Int) - 1 - j = -1 := by omega
      rw [hneg]
      gi_wp2
      go_end0
      refine ⟨⟨_, rfl⟩, .inl ⟨pre, ?_, hJp⟩⟩
      rw [HI.out.1, List.take_of_length_le (by rw [List.length_reverse, HV.out.1]; omega)]
end Go.Proofs.Ytcbphfpfdfgehaa
