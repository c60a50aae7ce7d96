/-
  What slices.IndexFunc and ContainsFunc tell of a row of items: the place of the first that the function is true of; -1, if there is none. The function is any that reads alone.
-/
import Derived.Test.YtabakjimlndhcaaBStand
import Derived.Sort.LoopGhostIn
import Derived.OwnWalk
import Derived.Shelf.Abstract
namespace Go.Proofs.Ytabakjimlndhcaa
open Go.ChangeShapes Go.WideShapes Go.ChangeAt Go.RowKit

/-- P is false of the first k, and true of what stands at k, if anything does. -/
structure FirstAt {A : Type} (P : A → Bool) (ws : List A) (k : Nat) : Prop where
  le : k ≤ ws.length
  no : ∀ j t, j < k → ws[j]? = some t → P t = false
  yes : ∀ t, ws[k]? = some t → P t = true
theorem first_ex {A : Type} (P : A → Bool) (ws : List A) : FirstAt P ws (ws.findIdx P) := by
  refine ⟨List.findIdx_le_length, fun j t hj ht => ?_, fun t ht => ?_⟩
  · have hlt := (List.getElem?_eq_some_iff.1 ht)
    have := List.not_of_lt_findIdx hj
    rw [← hlt.2]
    simpa using this
  · obtain ⟨hlt, h⟩ := List.getElem?_eq_some_iff.1 ht
    have := List.findIdx_getElem (w := hlt)
    rw [← h]
    exact this
def hitAt (k n : Nat) : Int := if k < n then (k : Int) else -1

set_option maxRecDepth 20000 in
set_option maxHeartbeats 1000000 in
theorem index_i (w : World) (v : Value) (ws : List It) (N : Nat) (caps : Array Value) (P : It → Bool) (k : Nat) (hr : IRow v ws w) (hE : ∀ a W, Sem.run Try.prog (callFunc N a) W = .ok (.enter N a) W)
    (hP : ∀ W t, t ∈ ws → Turn NoBlock w W → Calls Try.prog N (#[t.agg] ++ caps) W fun e w' => e = .returned (.bool (P t)) ∧ Turn NoBlock W w')
    (hk : FirstAt P ws k) (hn : ws.length ≤ 1000000000) :
    Calls Try.prog 92 #[v, .func (.func N) #[] caps] w fun e w' => e = .returned (.int .i64 (hitAt k ws.length)) ∧ Turn NoBlock w w' := by
  obtain ⟨p, c, rfl⟩ := WRow.sl hr
  have HR := Lib.hid hr
  have HP := Lib.hid hP
  have HK := Lib.hid hk
  have hkl := hk.le
  obtain ⟨n, hne⟩ : ∃ n, ws.length = n := ⟨_, rfl⟩
  have HN := Lib.hid hne
  rw [hne] at hkl hn ⊢
  clear hr hP hk hne
  go_enter Try.func92, Try.ntmps92
  go_wp2
  go_loopg [5, 8] n (fun g s5 s8 wr => ∃ j : Nat, j ≤ k ∧ g = n - j ∧ s8 = .int .i64 (j : Int) ∧ Hid (Turn NoBlock w wr))
  case atStart => exact ⟨0, by omega, by omega, rfl, Lib.hid (Turn.refl _ _)⟩
  case round =>
    obtain ⟨j, hj, hg, rfl, HT⟩ := hrel
    by_cases hlt : j < n
    · obtain ⟨t, ht⟩ : ∃ t, ws[j]? = some t := ⟨_, List.getElem?_eq_getElem (by rw [HN.out]; exact hlt)⟩
      have hrow := HR.out.past HT.out
      obtain ⟨g', o', c', he, -⟩ := WRow.shape hrow (by rw [HN.out]; omega)
      simp only [Value.slice.injEq] at he
      obtain ⟨rfl, -, rfl⟩ := he
      obtain ⟨d0, d1⟩ := hrow.two ht
      have cC := HP.out wr t (List.mem_of_getElem? ht) HT.out
      unfold It.agg at cC
      have hjn : (j : Int) < n := by omega
      by_cases hjk : j < k
      · have hP : P t = false := HK.out.no j t hjk ht
        rw [hP] at cC
        clear hrow hP ht
        go_wp2_with ((with_reducible refine cC.mono ?_); rintro e w2 ⟨rfl, t2⟩; have T2 := Lib.hid t2; clear t2)
        go_roundg (n - (j + 1))
        case measure => omega
        case rel => exact ⟨j + 1, by omega, by omega, by go_num, Lib.hid (TT HT.out T2.out)⟩
      · obtain rfl : j = k := by omega
        have hP : P t = true := HK.out.yes t ht
        rw [hP] at cC
        clear hrow hP ht
        go_wp2_with ((with_reducible refine cC.mono ?_); rintro e w2 ⟨rfl, t2⟩; have T2 := Lib.hid t2; clear t2)
        go_ret
        exact ⟨ret_int (by unfold hitAt; rw [if_pos hlt]), TT HT.out T2.out⟩
    · obtain rfl : j = n := by omega
      go_wp2
      go_ret
      exact ⟨ret_int (by unfold hitAt; rw [if_neg (by omega)]), HT.out⟩
theorem contains_i (w : World) (v : Value) (ws : List It) (N : Nat) (caps : Array Value) (P : It → Bool) (hr : IRow v ws w) (hE : ∀ a W, Sem.run Try.prog (callFunc N a) W = .ok (.enter N a) W)
    (hP : ∀ W t, t ∈ ws → Turn NoBlock w W → Calls Try.prog N (#[t.agg] ++ caps) W fun e w' => e = .returned (.bool (P t)) ∧ Turn NoBlock W w') (hn : ws.length ≤ 1000000000) :
    Calls Try.prog 80 #[v, .func (.func N) #[] caps] w fun e w' => e = .returned (.bool (ws.any P)) ∧ Turn NoBlock w w' := by
  have hk := first_ex P ws
  have C := Lib.hid (index_i w v ws N caps P _ hr hE hP hk hn)
  have hb : (decide ((0 : Int) ≤ hitAt (ws.findIdx P) ws.length)) = ws.any P := by
    rw [Bool.eq_iff_iff, decide_eq_true_eq, List.any_eq_true]
    unfold hitAt
    constructor
    · intro h
      by_cases h1 : ws.findIdx P < ws.length
      · exact ⟨ws[ws.findIdx P], List.getElem_mem h1, hk.yes _ (List.getElem?_eq_getElem h1)⟩
      · rw [if_neg h1] at h; omega
    · rintro ⟨x, hx, hpx⟩
      rw [if_pos (List.findIdx_lt_length_of_exists ⟨x, hx, hpx⟩)]
      omega
  generalize hitAt (ws.findIdx P) ws.length = z at C hb
  obtain ⟨p, c, rfl⟩ := WRow.sl hr
  have HB := Lib.hid hb
  clear hr hP hk hb
  go_enter Try.func80, Try.ntmps80
  go_wp2_with (go_at_call 92; (with_reducible refine C.out.mono ?_); rintro e w2 ⟨rfl, t2⟩; have T2 := Lib.hid t2; clear t2)
  go_ret
  exact ⟨ret_bool HB.out, T2.out⟩
theorem clos_wrong (t : It) (W : World) : Calls Try.prog 79 (#[t.agg] ++ #[]) W fun e w' => e = .returned (.bool (decide (t.o < 1))) ∧ Turn NoBlock W w' := by
  unfold It.agg
  go_enter Try.func79, Try.ntmps79
  go_wp2
  go_ret
  exact ⟨rfl, (Turn.refl _ W).alloc _⟩
theorem wrow_empty2 (w : World) : WRow (w.alloc (.cells #[] 40)) 40 2 (.slice (some ⟨w.heap.size, 0, none⟩) 0 0) 0 [] :=
  ⟨rfl, .inr ⟨_, 0, 0, rfl, Nat.le_refl _, by unfold maxLen; omega, ⟨_, heap_alloc_new w _⟩, (fun j hj => by omega), fun j hj => by omega⟩⟩
theorem eq_none (n c : Nat) (w : World) : Sem.run Try.prog (binOp BinOp.eql 33 (.slice none n c) (.slice none 0 0)) w = .ok (.bool true) w := by kernel_rfl
theorem eq_some (a : Addr) (n c : Nat) (w : World) : Sem.run Try.prog (binOp BinOp.eql 33 (.slice (some a) n c) (.slice none 0 0)) w = .ok (.bool false) w := by kernel_rfl
set_option maxRecDepth 20000 in
theorem clone_any {w : World} {v : Value} {H : List It} (h : IRow v H w) (hl : H.length ≤ 65536) :
    Calls Try.prog 52 #[v] w fun x w' => ∃ v', x = .returned v' ∧ IRow v' H w' ∧ Turn NoBlock w w' ∧ ∀ k, Blk v' k → w.heap.size ≤ k := by
  obtain ⟨i5, hi5, hz5, hs5, hb5⟩ := info_parts infoIt
  obtain ⟨p, c, rfl⟩ := h.sl
  obtain ⟨n, hn⟩ : ∃ n, H.length = n := ⟨_, rfl⟩
  cases p with
  | none =>
    have h0 : H.length = 0 := by
      rcases Nat.eq_zero_or_pos H.length with h0 | h0
      · exact h0
      · obtain ⟨g, o, cap, he, -⟩ := WRow.shape h h0
        cases he
    obtain rfl : H = [] := List.eq_nil_of_length_eq_zero h0
    have HH := Lib.hid h
    clear h h0 hn
    have q := eq_none 0 c w
    go_enter Try.func52, Try.ntmps52
    go_wp2
    go_ret
    exact ⟨_, rfl, wrow_nil _ _ _, Turn.refl _ _, fun k hk => (blk_nil k hk).elim⟩
  | some a =>
    have HS := Lib.hid (WRow.src (h.past ((Turn.refl NoBlock w).alloc (.cells #[] 40))) 33 itemsT (itcells_one H))
    have HR := Lib.hid (wrow_empty2 w)
    have HF := Lib.hid (And.intro (show 0 + H.length ≤ maxLen by unfold maxLen; omega) (show (0 + H.length) * 16 ≤ 140737488355328 by omega))
    rw [hn] at HS HF ⊢
    have q := eq_some a n c w
    clear h
    go_enter Try.func52, Try.ntmps52
    go_wp2_with (at_builtin; refine wpList_append_w rfl (.tmp 5) (.tmp 6) 33 33 rfl HR.out i5 _ 16 itemsT hi5 hz5 hs5 hb5 rfl rfl rfl HS.out HF.out.1 HF.out.2 ?_; intro v7 W7 r7 t7 k7; have R7 := Lib.hid (And.intro r7 (And.intro t7 k7)); clear r7 t7 k7)
    go_ret
    refine ⟨v7, rfl, ?_, ?_, fun k hk => ?_⟩
    · have := R7.out.1
      rw [Nat.zero_add, List.nil_append] at this
      unfold IRow
      rw [hn]
      exact this
    · exact ((Turn.refl NoBlock w).alloc _).trans R7.out.2.1 (fun k hk => .inr (by
        have : k = w.heap.size := by simpa [Blk, Value.ownBlock, eq_comm] using hk
        omega))
    · rcases R7.out.2.2 k hk with h1 | h1
      · have : k = w.heap.size := by simpa [Blk, Value.ownBlock, eq_comm] using h1
        omega
      · rw [h1.1, World.size_alloc]; omega
/-- Whether a thread may wait for these. -/
def posB (its : List It) : Bool := decide (1 ≤ its.length ∧ its.length ≤ 8 ∧ ∀ i ∈ its, 1 ≤ i.o)
set_option maxRecDepth 20000 in
set_option maxHeartbeats 1000000 in
theorem possible_any {w : World} {v : Value} {its : List It} (h : IRow v its w) (hn : its.length ≤ 1000000000) : Calls Try.prog 51 #[v] w fun e w' => e = .returned (.bool (posB its)) ∧ Turn NoBlock w w' := by
  have hE : ∀ a W, Sem.run Try.prog (callFunc 79 a) W = .ok (.enter 79 a) W := enters_of Try.func79 (by kernel_rfl) rfl
  have C := Lib.hid (contains_i w v its 79 #[] (fun t => decide (t.o < 1)) h hE (fun W t _ _ => clos_wrong t W) hn)
  have hall : its.any (fun t => decide (t.o < 1)) = false ↔ ∀ i ∈ its, 1 ≤ i.o := by
    rw [List.any_eq_false]
    constructor
    · intro h i hi; have := h i hi; simp at this; omega
    · intro h i hi; have := h i hi; simp; omega
  obtain ⟨p, c, rfl⟩ := WRow.sl h
  obtain ⟨n, hne⟩ : ∃ n, its.length = n := ⟨_, rfl⟩
  obtain ⟨bb, hbb⟩ : ∃ bb, its.any (fun t => decide (t.o < 1)) = bb := ⟨_, rfl⟩
  rw [hbb] at C hall
  rw [hne] at C hn ⊢
  unfold posB
  rw [hne]
  by_cases h1 : (1 : Int) ≤ (n : Int)
  · by_cases h2 : (n : Int) ≤ 8
    · have e : decide (1 ≤ n ∧ n ≤ 8 ∧ ∀ i ∈ its, 1 ≤ i.o) = !bb := by
        cases bb
        · have := hall.1 rfl
          rw [decide_eq_true ⟨by omega, by omega, this⟩]; rfl
        · rw [decide_eq_false (fun hh => by have := hall.2 hh.2.2; cases this)]; rfl
      rw [e]
      clear h hbb hall e hne
      go_enter Try.func51, Try.ntmps51
      go_wp2_with (go_at_call 80; (with_reducible refine C.out.mono ?_); rintro e w2 ⟨rfl, t2⟩; have T2 := Lib.hid t2; clear t2)
      go_ret
      exact ⟨rfl, T2.out⟩
    · rw [decide_eq_false (fun hh => by omega)]
      clear h hbb hall hne C
      go_enter Try.func51, Try.ntmps51
      go_wp2
      go_ret
      exact ⟨rfl, Turn.refl _ _⟩
  · rw [decide_eq_false (fun hh => by omega)]
    clear h hbb hall hne C
    go_enter Try.func51, Try.ntmps51
    go_wp2
    go_ret
    exact ⟨rfl, Turn.refl _ _⟩
end Go.Proofs.Ytabakjimlndhcaa
