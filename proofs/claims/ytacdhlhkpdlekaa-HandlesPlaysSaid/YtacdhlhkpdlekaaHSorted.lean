/-
  What the library's Sorted tells of a slice of numbers: they, in rising order, in a slice of its own. Conditions: the slice lies in memory.
-/
import Derived.Test.YtacdhlhkpdlekaaHVI
import Derived.Test.YtacdhlhkpdlekaaHSortLay
import Derived.Lib.SlKeysI
namespace Go.Proofs.Ytacdhlhkpdlekaa
open Go.RowKit Go.Maps Go.Sort Go.Shelf Go.Proofs

attribute [local go_sem] Oper.semAt_some

set_option maxRecDepth 100000 in
set_option maxHeartbeats 2000000 in
theorem sorted_any (w : World) (Ba : Nat) (p : Option Addr) (len cap : Nat) (zs : List Int) (hlen : len ≤ 65536) (hBa : Ba < w.heap.size)
    (hc : w.cell? ⟨Ba, 0, none⟩ = some (.slice p len cap)) (hA : NumsIn w.heap.size w p len zs) :
    Calls Try.prog 54 #[.func (.func 61) #[] #[.pointer (some ⟨Ba, 0, none⟩)]] w fun e W' => ∃ v, e = .returned v ∧ W'.ownsRow w.heap.size 3 1 v zs.length (intsOf (zs.mergeSort fun x y => decide (x ≤ y))) ∧ Below w.heap.size w W' := by
  refine (callsIn_wide (n := 7)).1 ?_
  have hz : zs.length ≤ 65536 := by have := hA.1; omega
  have c := collect_in Fence.wide 6 trivial trivial trivial rfl (by omega) w Ba p len cap zs hlen hBa hc hA
  have hf59 : Fence.wide.fn 59 := trivial
  have hf60 : Fence.wide.fn 60 := trivial
  clear hc hA
  refine callsIn_of_wp Try.func54 rfl trivial ?_ rfl
  simp only [Try.ntmps54, List.size_toArray, List.length_cons, List.length_nil, Nat.reduceAdd, Nat.reduceSub, Array.replicate_succ, Array.replicate_zero, List.push_toArray, List.append_toArray, List.nil_append, List.cons_append]
  gi_wp2_with (gi_at_call 59; refine c.mono ?_; rintro e W ⟨v, rfl, hrow, hb⟩)
  rcases hrow.2 with ⟨rfl, h0⟩ | ⟨gb, cap', cur, rfl, hbase, hgb, r1, r2, r3, r4⟩
  · have hss : zs = [] := List.eq_nil_of_length_eq_zero h0
    subst hss
    gi_wp2_with (gi_at_call 60; refine (sort_nil _ none 0 W).mono ?_; rintro e w' ⟨rfl, rfl⟩)
    go_ret
    exact ⟨.slice none 0 0, rfl, by simpa [intsOf] using hrow, hb⟩
  · have hH : Holds encZ W gb 0 zs.toArray := holds_of_block_i hgb (by simpa [intsOf] using r4)
    have hgl : gb < W.heap.size := (Array.getElem?_eq_some_iff.1 hgb).1
    have cS := sort_some 6 gb 0 cap' zs W hH hgl (by omega)
    gi_wp2_with (gi_at_call 60; refine cS.mono ?_; rintro e w' ⟨rfl, nn, os, rfl⟩)
    go_ret
    exact ⟨_, rfl, ownsRow_sorted_i (ss := zs) (ts := zs.mergeSort fun x y => decide (x ≤ y)) (List.length_mergeSort _) hbase hgb r1 r2 r3, hb.grown (grownBy_sorted_i _) hb.size (fun j hj => by cases hj; exact hbase)⟩
end Go.Proofs.Ytacdhlhkpdlekaa
