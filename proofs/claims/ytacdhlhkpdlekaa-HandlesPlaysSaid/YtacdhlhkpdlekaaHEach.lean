/-
  What hasEach and Take of a table tell. No conditions but that the table is one that calls can make, and that the numbers are numbers of 64 bits that lie apart from it.
-/
import Derived.Test.YtacdhlhkpdlekaaHMany2
import Derived.Test.YtacdhlhkpdlekaaHSorted
import Derived.Deep.LoopGhost
namespace Go.Proofs.Ytacdhlhkpdlekaa
open Go.ChangeShapes Go.WideShapes Go.ChangeAt Go.RowKit

def eachB (L : List Pl) (zs : List Int) : Bool := decide ((∀ z ∈ zs, findL L z ≠ none) ∧ zs.Nodup)
def sortZ (zs : List Int) : List Int := zs.mergeSort fun x y => decide (x ≤ y)
theorem sortZ_perm (zs : List Int) : (sortZ zs).Perm zs := List.mergeSort_perm _ _
theorem sortZ_pair (zs : List Int) : (sortZ zs).Pairwise (fun x y => x ≤ y) := by
  have h := List.pairwise_mergeSort (le := fun (x y : Int) => decide (x ≤ y)) (fun a b c h1 h2 => by simp at *; omega) (fun a b => by simp; omega) zs
  exact h.imp (fun h => by simpa using h)
theorem each_true {L : List Pl} {zs : List Int} (h : ∀ j, j < (sortZ zs).length → findL L ((sortZ zs).getD j 0) ≠ none ∧ (0 < j → (sortZ zs).getD j 0 ≠ (sortZ zs).getD (j - 1) 0)) : eachB L zs = true := by
  unfold eachB
  rw [decide_eq_true_iff]
  have hg : ∀ j (hj : j < (sortZ zs).length), (sortZ zs).getD j 0 = (sortZ zs)[j] := fun j hj => by simp [List.getD, hj]
  constructor
  · intro z hz
    obtain ⟨j, hj⟩ := List.getElem?_of_mem ((sortZ_perm zs).mem_iff.2 hz)
    obtain ⟨hj1, hj2⟩ := List.getElem?_eq_some_iff.1 hj
    have := (h j hj1).1
    rw [hg j hj1, hj2] at this
    exact this
  · rw [← (sortZ_perm zs).nodup_iff, List.nodup_iff_pairwise_ne, List.pairwise_iff_getElem]
    intro i j hi hj hij e
    have h1 := (h j hj).2 (by omega)
    rw [hg j hj, hg (j - 1) (by omega)] at h1
    have hp := List.pairwise_iff_getElem.1 (sortZ_pair zs)
    have h3 := hp (j - 1) j (by omega) hj (by omega)
    rcases Nat.lt_or_ge i (j - 1) with h4 | h4
    · have h5 := hp i (j - 1) hi (by omega) h4
      omega
    · have h6 : i = j - 1 := by omega
      subst h6
      exact h1 e.symm
theorem each_false {L : List Pl} {zs : List Int} {k : Nat} (hk : k < (sortZ zs).length) (h : findL L ((sortZ zs).getD k 0) = none ∨ (0 < k ∧ (sortZ zs).getD k 0 = (sortZ zs).getD (k - 1) 0)) : eachB L zs = false := by
  unfold eachB
  rw [decide_eq_false_iff_not]
  rintro ⟨h1, h2⟩
  have hg : ∀ j (hj : j < (sortZ zs).length), (sortZ zs).getD j 0 = (sortZ zs)[j] := fun j hj => by simp [List.getD, hj]
  rcases h with h | ⟨h0, h⟩
  · rw [hg k hk] at h
    exact h1 _ ((sortZ_perm zs).mem_iff.1 (List.getElem_mem hk)) h
  · rw [← (sortZ_perm zs).nodup_iff, List.nodup_iff_pairwise_ne, List.pairwise_iff_getElem] at h2
    rw [hg k hk, hg (k - 1) (by omega)] at h
    exact h2 (k - 1) k (by omega) hk (by omega) h.symm

theorem find_any {w : World} {a : Nat} {F : Nat → Prop} {L : List Pl} (h : TableAt w a F L) (v : Int) (hv : fit v) :
    Calls Try.prog 42 #[.pointer (some ⟨a, 0, none⟩), .int .i64 v] w fun e w' => e = .returned (.int .i64 (findI L v)) ∧ w = w' := by
  obtain ⟨vs, vf, cap, ps, fr, hM, ok, rfl, rfl⟩ := h
  have := find_mem hM (by have := ok.len; have := ok.top; omega) v hv
  unfold findI at *
  rw [findL_pad]
  exact this
theorem findI_cases (L : List Pl) (v : Int) : (findL L v = none ∧ findI L v = -1) ∨ (findL L v ≠ none ∧ ∃ k : Nat, findI L v = k) := by
  unfold findI
  cases findL L v with
  | none => exact .inl ⟨rfl, rfl⟩
  | some k => exact .inr ⟨by simp, k, rfl⟩

set_option maxRecDepth 20000 in
set_option maxHeartbeats 4000000 in
theorem each_any {w : World} {a : Nat} {F : Nat → Prop} {L : List Pl} (h : TableAt w a F L) (p : Option Addr) (len cap : Nat) (zs : List Int) (hl : len ≤ 65536) (hz : NumsBy F w p len zs) :
    Calls Try.prog 44 #[.pointer (some ⟨a, 0, none⟩), .slice p len cap] w fun e w' => e = .returned (.bool (eachB L zs)) ∧ Turn NoBlock w w' := by
  have HT := Lib.hid h
  have hfit := hz.2.1
  have c1 : Calls Try.prog 55 #[.slice p len cap] w _ := (callsIn_wide (n := 6)).1 (svalues_in Fence.wide 6 trivial rfl p len cap w)
  have hN : NumsIn (w.alloc (.cells #[.slice p len cap] 27)).heap.size (w.alloc (.cells #[.slice p len cap] 27)) p len zs := by
    refine ⟨hz.1, fun h0 => ?_⟩
    obtain ⟨b, off, h1, _, h3⟩ := hz.2.2 h0
    have hb := World.block_lt_of_cell? w _ (h3 0 h0)
    simp only at hb
    refine ⟨b, off, h1, by simp; omega, fun j hj => ?_⟩
    rw [← h3 j hj]
    exact World.cell?_of_block (Below.heap_alloc _ _ _ hb)
  have c2 := sorted_any (w.alloc (.cells #[.slice p len cap] 27)) w.heap.size p len cap zs hl (by simp) (by simp) hN
  have hzl := hz.1
  have hsl : (sortZ zs).length = len := by rw [(sortZ_perm zs).length_eq]; exact hzl
  have HSF := Lib.hid (fun j (hj : j < len) => hfit ((sortZ zs).getD j 0) ((sortZ_perm zs).mem_iff.1 (by simp only [List.getD, List.getElem?_eq_getElem (show j < (sortZ zs).length by omega), Option.getD_some]; exact List.getElem_mem _)))
  have HE1 := Lib.hid (@each_true L zs)
  have HE2 := Lib.hid (fun k => @each_false L zs k)
  have hs : (zs.mergeSort fun x y => decide (x ≤ y)) = sortZ zs := rfl
  rw [hs, hzl] at c2
  generalize sortZ zs = ss at *
  clear h hz hN hfit hs hzl
  go_enter Try.func44, Try.ntmps44
  go_wp2_with (first
    | (go_at_call 55; (with_reducible refine c1.mono ?_); rintro e w1 ⟨rfl, rfl⟩)
    | (go_at_call 54; (with_reducible refine c2.mono ?_); rintro e w2 ⟨v, rfl, O2, B2⟩; have o2 := own_base O2; obtain ⟨pv, cv, rfl⟩ := own_slice o2; have T2 := Lib.hid (((Turn.refl NoBlock w).alloc (.cells #[.slice p len cap] 27)).trans (turn_of_below B2) (fun _ h => .inl h)); have O3 := Lib.hid o2; clear O2 B2 o2))
  clear c1 c2
  go_loopg [13] len (fun g s wr => ∃ k : Nat, g = len - k ∧ k ≤ len ∧ s = .int .i64 k ∧ wr = w2 ∧ Hid (∀ j, j < k → findL L (ss.getD j 0) ≠ none ∧ (0 < j → ss.getD j 0 ≠ ss.getD (j - 1) 0)))
  case atStart => exact ⟨0, by omega, by omega, rfl, rfl, fun j hj => by omega⟩
  case round =>
    obtain ⟨k, hg, hk, rfl, rfl, HK⟩ := hrel
    by_cases hlt : k < len
    · obtain ⟨g, c', he, h1, h2⟩ := own_shape O3.out (by omega)
      simp only [Value.slice.injEq] at he
      obtain ⟨rfl, -, rfl⟩ := he
      have hcell : ∀ j, j < len → wr.cell? ⟨g, j, none⟩ = some (.int .i64 (ss.getD j 0)) := fun j hj => by
        rw [O3.out.cellAt j (by omega)]
        simp [intsOf, List.getD, show j < ss.length by omega]
      have ck := hcell k hlt
      have cF := find_any (HT.out.past T2.out) (ss.getD k 0) (HSF.out k hlt)
      have hks : k < ss.length := by omega
      rcases findI_cases L (ss.getD k 0) with ⟨hf, hi⟩ | ⟨hf, q, hi⟩
      · rw [hi] at cF
        have HB := Lib.hid (HE2.out k hks (.inl hf))
        generalize ss.getD k 0 = x at *
        clear hcell hf hks hi
        go_wp2_with (go_at_call 42; (with_reducible refine cF.mono ?_); rintro e w3 ⟨rfl, rfl⟩)
        go_ret
        rw [HB.out]
        exact ⟨rfl, T2.out⟩
      · rw [hi] at cF
        by_cases h0 : k = 0
        · subst h0
          have HB : Hid (∀ j, j < 0 + 1 → findL L (ss.getD j 0) ≠ none ∧ (0 < j → ss.getD j 0 ≠ ss.getD (j - 1) 0)) := fun j hj => by
            obtain rfl : j = 0 := by omega
            exact ⟨hf, fun h => by omega⟩
          generalize ss.getD 0 0 = x at *
          clear hcell hf hks hi
          go_wp2_with (go_at_call 42; (with_reducible refine cF.mono ?_); rintro e w3 ⟨rfl, rfl⟩)
          go_roundg (len - (0 + 1))
          case measure => omega
          case rel => exact ⟨0 + 1, rfl, by omega, by go_num, rfl, HB⟩
        · have cp := hcell (k - 1) (by omega)
          have ek : (k : Int) - 1 = ((k - 1 : Nat) : Int) := by omega
          by_cases heq : ss.getD k 0 = ss.getD (k - 1) 0
          · have HB := Lib.hid (HE2.out k hks (.inr ⟨by omega, heq⟩))
            rw [← heq] at cp
            generalize ss.getD k 0 = x at *
            clear hcell hf hks hi heq
            go_wp2_with (go_at_call 42; (with_reducible refine cF.mono ?_); rintro e w3 ⟨rfl, rfl⟩)
            go_ret
            rw [HB.out]
            exact ⟨rfl, T2.out⟩
          · have HB : Hid (∀ j, j < k + 1 → findL L (ss.getD j 0) ≠ none ∧ (0 < j → ss.getD j 0 ≠ ss.getD (j - 1) 0)) := fun j hj => by
              by_cases hjk : j = k
              · subst hjk; exact ⟨hf, fun _ => heq⟩
              · exact HK.out j (by omega)
            have hb : (ss.getD k 0 == ss.getD (k - 1) 0) = false := by simpa using heq
            generalize ss.getD k 0 = x at *
            generalize ss.getD (k - 1) 0 = y at *
            clear hcell hf hks hi heq
            go_wp2_with (go_at_call 42; (with_reducible refine cF.mono ?_); rintro e w3 ⟨rfl, rfl⟩)
            go_roundg (len - (k + 1))
            case measure => omega
            case rel => exact ⟨k + 1, rfl, by omega, by go_num, rfl, HB⟩
    · obtain rfl : k = len := by omega
      have HB := Lib.hid (HE1.out (by rw [hsl]; exact HK.out))
      go_wp2
      go_ret
      rw [HB.out]
      exact ⟨rfl, T2.out⟩

/-- Take: the entries, the status, the places. -/
theorem takeAll_any {w : World} {a : Nat} {F : Nat → Prop} {L : List Pl} (h : TableAt w a F L) (p : Option Addr) (len cap : Nat) (zs : List Int) (hl : len ≤ 65536) (hz : NumsBy F w p len zs) :
    Calls Try.prog 27 #[.pointer (some ⟨a, 0, none⟩), .slice p len cap] w fun e w' =>
      if eachB L zs = true then ∃ v, e = .returned (.tuple #[v, .int .i64 (manyS L zs 0)]) ∧ ∃ w1 F', Turn NoBlock w w1 ∧ MInv w1 w' a F F' (manyL L zs) v (manyE L zs)
      else e = .returned (.tuple #[.slice none 0 0, .int .i64 (-11)]) ∧ Turn NoBlock w w' := by
  have c1 := each_any h p len cap zs hl hz
  by_cases hB : eachB L zs = true
  · simp only [if_pos hB]
    rw [hB] at c1
    have HM := Lib.hid (fun w1 (t : Turn NoBlock w w1) => many_any (h.past t) p len cap zs hl (by
      refine ⟨hz.1, hz.2.1, fun h0 => ?_⟩
      obtain ⟨b, off, h1, h2, h3⟩ := hz.2.2 h0
      exact ⟨b, off, h1, h2, fun j hj => t.cell (h3 j hj) (fun h => h)⟩))
    clear h hz hB
    go_enter Try.func27, Try.ntmps27
    go_wp2_with (first
      | (go_at_call 44; (with_reducible refine c1.mono ?_); rintro e w1 ⟨rfl, t1⟩; have T1 := Lib.hid t1; clear t1)
      | (go_at_call 28; (with_reducible refine (HM.out _ T1.out).mono ?_); rintro e w2 ⟨v, rfl, F', h2⟩; have K2 := Lib.hid h2; clear h2))
    go_ret2
    exact ⟨v, rfl, w1, F', T1.out, K2.out⟩
  · simp only [if_neg hB]
    have hB' : eachB L zs = false := by simpa using hB
    rw [hB'] at c1
    clear h hz hB hB'
    go_enter Try.func27, Try.ntmps27
    go_wp2_with (go_at_call 44; (with_reducible refine c1.mono ?_); rintro e w1 ⟨rfl, t1⟩; have T1 := Lib.hid t1; clear t1)
    go_ret2
    exact ⟨rfl, T1.out⟩
end Go.Proofs.Ytacdhlhkpdlekaa
