/-
  What the iterator of a table tells, round by round: the values and entries of all places that are taken, by rising places. No conditions but that the table is one that calls can make, and that the loop's body keeps what lay before.
-/
import Derived.RangeFuncNested
import Derived.RangeFuncBox
import Derived.RangeFuncLeaves
import Derived.Shelf.Abstract
import Derived.WalkKit
import Derived.OwnWalkIn
import Derived.TacticsInMore
import Derived.LoopNIn
import Derived.LoopIn
import Derived.Maps.AppendAt
import Derived.Sort.QuietIn
import Derived.Test.YtacdhlhkpdlekaaHClose
namespace Go.Proofs.Ytacdhlhkpdlekaa
open Go.RowKit Go.Shelf

attribute [local go_sem] Oper.semAt_some

def isTaken (p : Pl) : Bool := p.value != 0
def takenL (l : List Pl) : List Pl := l.filter isTaken
theorem taken_yes (l : List Pl) (k : Nat) (p : Pl) (h : l[k]? = some p) (ht : p.value ≠ 0) : takenL (l.take (k + 1)) = takenL (l.take k) ++ [p] := by
  unfold takenL
  rw [List.take_add_one, h, List.filter_append]
  simp [isTaken, ht]
theorem taken_no (l : List Pl) (k : Nat) (p : Pl) (h : l[k]? = some p) (ht : p.value = 0) : takenL (l.take (k + 1)) = takenL (l.take k) := by
  unfold takenL
  rw [List.take_add_one, h, List.filter_append]
  simp [isTaken, ht]
theorem taken_len (l : List Pl) (k : Nat) : (takenL (l.take k)).length ≤ k := by
  refine Nat.le_trans (List.length_filter_le _ _) ?_
  rw [List.length_take]; omega
theorem taken_pad (cap : Nat) (ps : List Pl) : takenL (padL cap ps) = takenL ps := by
  unfold takenL padL
  rw [List.filter_append]
  have : (List.replicate (cap - ps.length) Pl.none).filter isTaken = [] := by
    rw [List.filter_eq_nil_iff]
    intro p hp
    rw [List.mem_replicate] at hp
    rw [hp.2]
    simp [isTaken, Pl.none]
  rw [this, List.append_nil]

theorem TMem.below {w w' : World} {a n₀ cap : Nat} {vs vf : Value} {ps : List Pl} {fr : List Nat} (h : TMem w a vs vf cap ps fr) (hb : Below n₀ w w') (hlt : ∀ k, Foot a vs vf k → k < n₀) : TMem w' a vs vf cap ps fr :=
  h.kept (F := fun k => n₀ ≤ k) ⟨hb.os, hb.tape, hb.output, hb.size, fun k _ hn => hb.block k (by omega)⟩ (fun k hk hn => by have := hlt k hk; omega)

/-- What a round keeps: what lay before, and the box of the iterator. -/
def KpBox (n₀ Ba : Nat) (W W' : World) : Prop := Below n₀ W W' ∧ W'.cell? ⟨Ba, 0, none⟩ = W.cell? ⟨Ba, 0, none⟩
theorem KpBox.refl (n₀ Ba : Nat) (W : World) : KpBox n₀ Ba W W := ⟨Below.refl _ _, rfl⟩
theorem KpBox.trans {n₀ Ba : Nat} {A B C : World} (h : KpBox n₀ Ba A B) (k : KpBox n₀ Ba B C) : KpBox n₀ Ba A C := ⟨h.1.trans k.1, k.2.trans h.2⟩
theorem KpBox.alloc {n₀ Ba : Nat} {W : World} (o : Obj) (hn : n₀ ≤ W.heap.size) (hB : Ba < W.heap.size) : KpBox n₀ Ba W (W.alloc o) :=
  ⟨(Below.refl n₀ W).alloc hn _, World.cell?_of_block (Below.heap_alloc _ _ _ hB)⟩
theorem KpBox.put {n₀ Ba : Nat} {w : World} (hn : n₀ ≤ w.heap.size) (hBa : Ba < w.heap.size) (W : World) (l : Nat) (o o' : Obj) (hl : w.heap.size ≤ l) (h : W.heap[l]? = some o) (_ : o.isCells = false) (_ : o.isWalk = false) : KpBox n₀ Ba W (W.putObj l o') := by
  have h1 := grownBy_putObj' W l o'
  have h2 := (Array.getElem?_eq_some_iff.1 h).1
  refine ⟨(Below.refl n₀ W).grown h1 (by omega) (fun k e => by cases e; omega), ?_⟩
  exact World.cell?_of_block (h1.block Ba (by omega) (fun e => by cases e; omega))

set_option maxHeartbeats 1000000 in
theorem all_in (F : Fence) (n : Nat) (hf : F.fn 40) (hro : F.round = none) (a : Nat) (w : World) :
    CallsIn F n Try.prog 40 #[.pointer (some ⟨a, 0, none⟩)] w fun e w' => e = .returned (.func (.func 51) #[] #[.pointer (some ⟨w.heap.size, 0, none⟩)]) ∧ w' = w.alloc (.cells #[.pointer (some ⟨a, 0, none⟩)] 23) := by
  refine callsIn_of_wp Try.func40 rfl hf ?_ hro
  simp only [Try.ntmps40, List.size_toArray, List.length_cons, List.length_nil, Nat.reduceAdd, Nat.reduceSub, Array.replicate_succ, Array.replicate_zero, List.push_toArray, List.append_toArray, List.nil_append, List.cons_append]
  gi_wp2
  go_ret
  exact ⟨rfl, rfl⟩

set_option maxHeartbeats 1000000 in
theorem count_in (F : Fence) (n : Nat) (hf : F.fn 17) (hro : F.round = none) (w : World) (a cap : Nat) (vs vf : Value) (ps : List Pl) (fr : List Nat) (hA : TMem w a vs vf cap ps fr) (hl : ps.length ≤ 65536) (hfr : fr.length ≤ ps.length) :
    CallsIn F n Try.prog 17 #[.pointer (some ⟨a, 0, none⟩)] w fun e w' => e = .returned (.int .i64 (ps.length - fr.length : Nat)) ∧ ∃ m, w' = w.drewN m := by
  obtain ⟨p, cp, rfl⟩ := own_slice hA.places
  obtain ⟨q, cq, rfl⟩ := own_slice hA.freed
  have c1 := hA.c1
  have c2 := hA.c2
  generalize ps.length = x at *
  generalize fr.length = y at *
  have e : ((x - y : Nat) : Int) = (x : Int) - y := by omega
  rw [e]
  clear hA e
  cases F
  simp only at hro
  subst hro
  refine callsIn_of_wp Try.func17 rfl hf ?_ rfl
  simp only [Try.ntmps17, List.size_toArray, List.length_cons, List.length_nil, Nat.reduceAdd, Nat.reduceSub, Array.replicate_succ, Array.replicate_zero, List.push_toArray, List.append_toArray, List.nil_append, List.cons_append]
  gi_wp2_with fail
  gi_quiet (fail)
  gi_wp2
  go_ret
  exact ⟨rfl, _, rfl⟩

set_option maxRecDepth 100000 in
set_option maxHeartbeats 2000000 in
theorem all1_in (F : Fence) (n : Nat) (hf : F.fn 51) (hro : F.round = none) (hn : 2 ≤ n) (l Ba n₀ a cap : Nat) (vs vf : Value) (ps : List Pl) (fr : List Nat) (hl : ps.length ≤ 65536) (hlt : ∀ k, Foot a vs vf k → k < n₀) (J Jx : List Pl → World → Prop)
    (hY : ∀ pre x W, J pre W → pre.length < ps.length → YieldAt F (n - 1) Try.prog l #[.int .i64 x.value, x.e.agg] W fun e W' =>
      (e = .returned (.bool true) ∧ J (pre ++ [x]) W' ∧ KpBox n₀ Ba W W') ∨ (e = .returned (.bool false) ∧ Jx (pre ++ [x]) W'))
    (W : World) (hJ : AbidesFrom W.heap.size J) (hn₀ : n₀ ≤ W.heap.size) (hBa : Ba < W.heap.size) (hB : W.cell? ⟨Ba, 0, none⟩ = some (.pointer (some ⟨a, 0, none⟩))) (hA : TMem W a vs vf cap ps fr) (h0 : J [] W) :
    CallsIn F n Try.prog 51 #[.func (.yield l) #[] #[], .pointer (some ⟨Ba, 0, none⟩)] W fun e W' => (∃ v, e = .returned v) ∧
      ((∃ ys, ys = takenL ps ∧ J ys W') ∨ (∃ pre, (∃ k, k ≤ ps.length ∧ pre = takenL (ps.take k)) ∧ Jx pre W')) := by
  obtain ⟨p, c, hvs⟩ := own_slice hA.places
  have c1 := hA.c1
  have H1 : Hid (vs = .slice p ps.length c) := hvs
  rw [hvs] at c1
  obtain ⟨ns, hns⟩ : ∃ ns, ps.length = ns := ⟨_, rfl⟩
  have H2 : Hid (ps.length = ns) := hns
  rw [hns] at c1 hY hl ⊢
  have HA : Hid (TMem W a vs vf cap ps fr) := hA
  have HL : Hid (∀ k, Foot a vs vf k → k < n₀) := hlt
  have HJ : Hid (AbidesFrom W.heap.size J) := hJ
  have hY' : Hid (∀ pre x W, J pre W → pre.length < ns → YieldAt F (n - 1) Try.prog l #[.int .i64 x.value, x.e.agg] W fun e W' =>
      (e = .returned (.bool true) ∧ J (pre ++ [x]) W' ∧ KpBox n₀ Ba W W') ∨ (e = .returned (.bool false) ∧ Jx (pre ++ [x]) W')) := hY
  clear hvs hns hA hlt hY hJ
  refine callsIn_of_wp Try.func51 rfl hf ?_ hro
  simp only [Try.ntmps51, List.size_toArray, List.length_cons, List.length_nil, Nat.reduceAdd, Nat.reduceSub, Array.replicate_succ, Array.replicate_zero, List.push_toArray, List.append_toArray, List.nil_append, List.cons_append]
  gi_wp2
  gi_loopw [10] (fun i wr => ∃ k : Nat, k ≤ ns ∧ i = .int .i64 k ∧ J (takenL (ps.take k)) wr ∧ Hid (KpBox n₀ Ba W wr))
    (fun i _ => ns - (intOf i).toNat)
  case atStart => exact ⟨0, Nat.zero_le _, rfl, h0, KpBox.refl _ _ _⟩
  case round =>
    obtain ⟨k, hk, rfl, hJs, hnx⟩ := hrel
    by_cases hltk : k < ns
    · have hh : TMem wr a vs vf cap ps fr := HA.out.below hnx.out.1 HL.out
      have hB1 : wr.cell? ⟨Ba, 0, none⟩ = some (.pointer (some ⟨a, 0, none⟩)) := hnx.out.2.trans hB
      obtain ⟨x, hx⟩ : ∃ x, ps[k]? = some x := ⟨ps[k]'(by have := H2.out; omega), List.getElem?_eq_getElem (by have := H2.out; omega)⟩
      obtain ⟨g, c', he, f1, f2, f3, f4, f5, f6, f7, f8, f9, f10⟩ := hh.place hx
      have glt := World.block_lt_of_cell? _ _ f6
      have hsz := hnx.out.1.size
      have he1 := H1.out
      rw [he] at he1
      simp only [Value.slice.injEq] at he1
      obtain ⟨rfl, _, rfl⟩ := he1
      have HX : Hid (ps[k]? = some x) := hx
      by_cases ht : x.value = 0
      · rw [ht] at f6
        have HE : Hid (takenL (ps.take (k + 1)) = takenL (ps.take k)) := taken_no ps k x hx ht
        have HJ2 : Hid (∀ o, J (takenL (ps.take k)) (wr.alloc o)) := fun o => HJ.out _ wr _ none hJs (World.grownBy_alloc wr o none) (fun r e => by cases e)
        clear hh hx ht he
        gi_wp2
        refine ⟨fun _ h => (by cases h), ?_⟩
        gi_wp2
        go_roundw
        case rel => exact ⟨k + 1, by omega, by go_num, by rw [HE.out]; exact HJ2.out _, hnx.out.trans (KpBox.alloc _ (by omega) (by omega))⟩
        case measure => simp [intOf]; omega
      · have HE : Hid (takenL (ps.take (k + 1)) = takenL (ps.take k) ++ [x]) := taken_yes ps k x hx ht
        have hkl := taken_len ps k
        have hb : (x.value != 0) = true := by simp [ht]
        obtain ⟨fn, tmps, assign, body, hy, hR⟩ := hY'.out _ x (wr.alloc (.cells #[.int .i64 x.value, .int .i64 x.e.o, .int .i64 x.e.k, .int .i64 x.e.r] 94)) (HJ.out _ wr _ none hJs (World.grownBy_alloc wr _ none) (fun r e => by cases e)) (by omega)
        unfold Ent.agg at hy
        have h1n : 1 ≤ n := by omega
        clear hh hx ht he hkl
        gi_wp2
        refine hR.mono ?_
        rintro e W3 (⟨rfl, hJ3, hk3⟩ | ⟨rfl, hJx3⟩)
        · gi_wp2
          go_roundw
          case rel => exact ⟨k + 1, by omega, by go_num, by rw [HE.out]; exact hJ3, (hnx.out.trans (KpBox.alloc _ (by omega) (by omega))).trans hk3⟩
          case measure => simp [intOf]; omega
        · gi_wp2
          refine bodyPost_ret (results_none rfl _ _ _) rfl ?_
          exact ⟨⟨_, rfl⟩, .inr ⟨_, ⟨k + 1, by omega, HE.out.symm⟩, hJx3⟩⟩
    · obtain rfl : k = ns := by omega
      gi_wp2
      go_end0
      refine ⟨⟨_, rfl⟩, .inl ⟨_, ?_, hJs⟩⟩
      rw [← H2.out, List.take_length]

/-- What 'all' hands back stops as 'SeqStopsK' says. -/
theorem all_stops (F : Fence) (n : Nat) (hf : F.fn 51) (hro : F.round = none) (hn : 2 ≤ n) (Ba n₀ a cap : Nat) (vs vf : Value) (ps : List Pl) (fr : List Nat) (hl : ps.length ≤ 65536) (hlt : ∀ k, Foot a vs vf k → k < n₀) (w : World) (hBa : Ba < w.heap.size) (hn₀ : n₀ ≤ w.heap.size)
    (hc : w.cell? ⟨Ba, 0, none⟩ = some (.pointer (some ⟨a, 0, none⟩))) (hA : TMem w a vs vf cap ps fr) :
    SeqStopsK F n Try.prog 51 #[.pointer (some ⟨Ba, 0, none⟩)] (fun x : Pl => #[Value.int .i64 x.value, x.e.agg]) (KpBox n₀ Ba) (fun ys => ys = takenL ps) (fun pre => ∃ k, k ≤ ps.length ∧ pre = takenL (ps.take k)) ps.length w := fun l J Jx W hW hJ _ hY h0 =>
  all1_in F n hf hro hn l Ba n₀ a cap vs vf ps fr hl hlt J Jx hY W hJ (Nat.le_trans hn₀ hW.size) (Nat.lt_of_lt_of_le hBa hW.size) ((hW.cell (p := ⟨Ba, 0, none⟩) hBa).trans hc) (hA.below (hW.mono hn₀) hlt) h0
end Go.Proofs.Ytacdhlhkpdlekaa
