/-
  What the iterator of an arena (i) tells, round by round: the ids of all values, by rising slots. No conditions but that the arena is one that calls can make, and that the loop's body keeps what lay before.
-/
import Derived.RangeFuncNested
import Derived.RangeFuncBox
import Derived.RangeFuncLeaves
import Derived.Shelf.Abstract
import Derived.WalkKit
import Derived.OwnWalkIn
import Derived.TacticsInMore
import Derived.LoopNIn
import Derived.LoopIn
import Derived.Maps.AppendAt
import Derived.Test.YtfpmbbplgdkogaaCalls1
import Derived.Test.YtfpmbbplgdkogaaIterModel
namespace Go.Proofs.Ytfpmbbplgdkogaa
open Go.RowKit Go.Shelf

attribute [local go_sem] Oper.semAt_some

set_option maxHeartbeats 1000000 in
theorem iid_in (F : Fence) (n : Nat) (hf : F.fn 32) (hro : F.round = none) (w : World) (a k : Nat) (vs vf : Value) (m : Mod) (s : Slot) (h : Holds w 57 61 3 a vs vf m) (hs : m.slots[k]? = some s) (hk : k < 65536) (hg : s.gen ≤ 1073741824) :
    CallsIn F n Try.prog 32 #[.pointer (some ⟨a, 0, none⟩), .int .i64 k] w fun e w' => e = .returned (.int .i64 ((s.gen : Int) * 65536 + k)) ∧ w = w' := by
  have hlt : k < m.slots.length := (List.getElem?_eq_some_iff.1 hs).1
  obtain ⟨g, cap, rfl, hc, hc'⟩ := own_shape h.slots (by omega)
  have c1 := cell_at h.head 1
  have c2 := (h.slots.cellAt (k * 3) (by omega)).trans (cells_at _ _ _ hs).1
  simp at c1
  obtain ⟨n, hn⟩ : ∃ n, m.slots.length = n := ⟨_, rfl⟩
  rw [hn] at c1 hlt hc
  clear h hs hn
  refine callsIn_of_wp Try.func32 rfl hf ?_ hro
  simp only [Try.ntmps32, List.size_toArray, List.length_cons, List.length_nil, Nat.reduceAdd, Nat.reduceSub, Array.replicate_succ, Array.replicate_zero, List.push_toArray, List.append_toArray, List.nil_append, List.cons_append]
  gi_wp2
  go_ret
  exact ⟨rfl, rfl⟩

set_option maxHeartbeats 1000000 in
theorem iall_in (F : Fence) (n : Nat) (hf : F.fn 34) (hro : F.round = none) (a : Nat) (w : World) :
    CallsIn F n Try.prog 34 #[.pointer (some ⟨a, 0, none⟩)] w fun e w' => e = .returned (.func (.func 39) #[] #[.pointer (some ⟨w.heap.size, 0, none⟩)]) ∧ w' = w.alloc (.cells #[.pointer (some ⟨a, 0, none⟩)] 23) := by
  refine callsIn_of_wp Try.func34 rfl hf ?_ hro
  simp only [Try.ntmps34, List.size_toArray, List.length_cons, List.length_nil, Nat.reduceAdd, Nat.reduceSub, Array.replicate_succ, Array.replicate_zero, List.push_toArray, List.append_toArray, List.nil_append, List.cons_append]
  gi_wp2
  go_ret
  exact ⟨rfl, rfl⟩

set_option maxRecDepth 100000 in
set_option maxHeartbeats 2000000 in
theorem iall1_in (F : Fence) (n : Nat) (hf : F.fn 39) (hf2 : F.fn 32) (hro : F.round = none) (hn : 2 ≤ n) (l Ba n₀ a : Nat) (vs vf : Value) (m : Mod) (ok : m.OK) (hlt : ∀ k, Foot a vs vf k → k < n₀) (J Jx : List Int → World → Prop)
    (hY : ∀ pre x W, J pre W → pre.length < m.slots.length → YieldAt F (n - 1) Try.prog l #[.int .i64 x] W fun e W' =>
      (e = .returned (.bool true) ∧ J (pre ++ [x]) W' ∧ KpBox n₀ Ba W W') ∨ (e = .returned (.bool false) ∧ Jx (pre ++ [x]) W'))
    (W : World) (hB : W.cell? ⟨Ba, 0, none⟩ = some (.pointer (some ⟨a, 0, none⟩))) (hA : Holds W 57 61 3 a vs vf m) (h0 : J [] W) :
    CallsIn F n Try.prog 39 #[.func (.yield l) #[] #[], .pointer (some ⟨Ba, 0, none⟩)] W fun e W' => (∃ v, e = .returned v) ∧
      ((∃ ys, ys = m.ids ∧ J ys W') ∨ (∃ pre, (∃ k, k ≤ m.slots.length ∧ pre = idsUpto m.slots k) ∧ Jx pre W')) := by
  obtain ⟨p, cap, hvs⟩ := own_slice hA.slots
  have c1 := cell_at hA.head 1
  simp at c1
  have H1 : Hid (vs = .slice p m.slots.length cap) := hvs
  rw [hvs] at c1
  obtain ⟨ns, hns⟩ : ∃ ns, m.slots.length = ns := ⟨_, rfl⟩
  have H2 : Hid (m.slots.length = ns) := hns
  rw [hns] at c1 hY
  have hns1 : ns ≤ 65536 := by have := ok.len; have := ok.cap; omega
  have HA : Hid (Holds W 57 61 3 a vs vf m) := hA
  have HO : Hid m.OK := ok
  have HL : Hid (∀ k, Foot a vs vf k → k < n₀) := hlt
  have hY' : Hid (∀ pre x W, J pre W → pre.length < ns → YieldAt F (n - 1) Try.prog l #[.int .i64 x] W fun e W' =>
      (e = .returned (.bool true) ∧ J (pre ++ [x]) W' ∧ KpBox n₀ Ba W W') ∨ (e = .returned (.bool false) ∧ Jx (pre ++ [x]) W')) := hY
  rw [hns]
  clear hvs hns hA ok hlt hY
  refine callsIn_of_wp Try.func39 rfl hf ?_ hro
  simp only [Try.ntmps39, List.size_toArray, List.length_cons, List.length_nil, Nat.reduceAdd, Nat.reduceSub, Array.replicate_succ, Array.replicate_zero, List.push_toArray, List.append_toArray, List.nil_append, List.cons_append]
  gi_wp2
  gi_loopw [9] (fun i wr => ∃ k : Nat, k ≤ ns ∧ i = .int .i64 k ∧ J (idsUpto m.slots k) wr ∧ Hid (KpBox n₀ Ba W wr))
    (fun i _ => ns - (intOf i).toNat)
  case atStart => exact ⟨0, Nat.zero_le _, rfl, h0, KpBox.refl _ _ _⟩
  case round =>
    obtain ⟨k, hk, rfl, hJs, hnx⟩ := hrel
    by_cases hltk : k < ns
    · have hh : Holds wr 57 61 3 a vs vf m := HA.out.below hnx.out.1 HL.out
      have hB1 : wr.cell? ⟨Ba, 0, none⟩ = some (.pointer (some ⟨a, 0, none⟩)) := hnx.out.2.trans hB
      obtain ⟨s, hs⟩ : ∃ s, m.slots[k]? = some s := ⟨m.slots[k]'(by have := H2.out; omega), List.getElem?_eq_getElem (by have := H2.out; omega)⟩
      obtain ⟨g, n', c', he, f1, f2, f3, f4, f5, f6, f7, f8, f9, f10, f11, f12, f13⟩ := mid_facts hh hs (by decide)
      have he1 := H1.out
      rw [he, H2.out] at he1
      simp only [Value.slice.injEq] at he1
      obtain ⟨rfl, rfl, rfl⟩ := he1
      cases ht : s.taken with
      | false =>
        rw [ht] at f6
        have e := idsUpto_no m.slots k s hs ht
        have HS : Hid (m.slots[k]? = some s ∧ s.taken = false) := ⟨hs, ht⟩
        have HE : Hid (idsUpto m.slots (k + 1) = idsUpto m.slots k) := e
        clear hh hs ht e he
        gi_wp2
        refine ⟨fun _ h => (by cases h), ?_⟩
        gi_wp2
        go_roundw
        case rel => exact ⟨k + 1, by omega, by go_num, by rw [HE.out]; exact hJs, hnx⟩
        case measure => simp [intOf]; omega
      | true =>
        rw [ht] at f6
        have e := idsUpto_yes m.slots k s hs ht
        have hkl := idsUpto_len m.slots k
        have cid := iid_in F (n - 1) hf2 hro wr a k vs vf m s hh hs (by omega) (HO.out.gen k s hs).1
        obtain ⟨id, hid⟩ : ∃ id, (s.gen : Int) * 65536 + (k : Int) = id := ⟨_, rfl⟩
        rw [hid] at cid e
        obtain ⟨fn, tmps, assign, body, hy, hR⟩ := hY'.out _ id wr hJs (by omega)
        have HE : Hid (idsUpto m.slots (k + 1) = idsUpto m.slots k ++ [id]) := e
        have h1n : 1 ≤ n := by omega
        clear hh hs ht e he hid hkl
        gi_wp2_with (gi_at_call 32; refine cid.mono ?_; rintro e w' ⟨rfl, rfl⟩)
        refine hR.mono ?_
        rintro e W3 (⟨rfl, hJ3, hk3⟩ | ⟨rfl, hJx3⟩)
        · gi_wp2
          go_roundw
          case rel => exact ⟨k + 1, by omega, by go_num, by rw [HE.out]; exact hJ3, hnx.out.trans hk3⟩
          case measure => simp [intOf]; omega
        · gi_wp2
          refine bodyPost_ret (results_none rfl _ _ _) rfl ?_
          exact ⟨⟨_, rfl⟩, .inr ⟨_, ⟨k + 1, by omega, HE.out.symm⟩, hJx3⟩⟩
    · obtain rfl : k = ns := by omega
      gi_wp2
      go_end0
      exact ⟨⟨_, rfl⟩, .inl ⟨_, by unfold Mod.ids; rw [H2.out], hJs⟩⟩

/-- What 'all' hands back stops as 'SeqStopsK' says. -/
theorem iall_stops (F : Fence) (n : Nat) (hf : F.fn 39) (hf2 : F.fn 32) (hro : F.round = none) (hn : 2 ≤ n) (Ba n₀ a : Nat) (vs vf : Value) (m : Mod) (ok : m.OK) (hlt : ∀ k, Foot a vs vf k → k < n₀) (w : World) (hBa : Ba < w.heap.size) (hn₀ : n₀ ≤ w.heap.size)
    (hc : w.cell? ⟨Ba, 0, none⟩ = some (.pointer (some ⟨a, 0, none⟩))) (hA : Holds w 57 61 3 a vs vf m) :
    SeqStopsK F n Try.prog 39 #[.pointer (some ⟨Ba, 0, none⟩)] (fun x : Int => #[Value.int .i64 x]) (KpBox n₀ Ba) (fun ys => ys = m.ids) (fun pre => ∃ k, k ≤ m.slots.length ∧ pre = idsUpto m.slots k) m.slots.length w := fun l J Jx W hW _ _ hY h0 =>
  iall1_in F n hf hf2 hro hn l Ba n₀ a vs vf m ok hlt J Jx hY W ((hW.cell (p := ⟨Ba, 0, none⟩) hBa).trans hc) (hA.below (hW.mono hn₀) hlt) h0

end Go.Proofs.Ytfpmbbplgdkogaa
