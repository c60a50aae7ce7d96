/-
  'awake' answers true; the law's items in the program's form. Conditions: the items can be read.
-/
import Derived.Test.YtabakjimlndhcaaBSt
namespace Go.Proofs.Ytabakjimlndhcaa
open Go.ChangeShapes Go.WideShapes Go.ChangeAt Go.RowKit Go.Shelf

theorem fit_small (x : Int) (h : -1000000 ≤ x ∧ x ≤ 1000000) : fit x := by unfold fit; omega
/-- A row laid down at once. -/
theorem irow_new (w : World) (its : List It) (cs : Array Value) (hcs : cs.toList = itcells its) (hl : its.length ≤ 1000000) : IRow (.slice (some ⟨w.heap.size, 0, none⟩) its.length its.length) its (w.alloc (.cells cs 40)) := by
  have hsz : cs.size = its.length * 2 := by rw [← Array.length_toList, hcs, itcells_len]
  refine ⟨by rw [itcells_len], .inr ⟨w.heap.size, 0, its.length, rfl, Nat.le_refl _, by unfold maxLen; omega, ⟨cs, heap_alloc_new w _⟩, fun j hj => ?_, fun j hj => ?_⟩⟩
  · rw [Nat.zero_add, World.cell?_alloc_new, ← hcs, Array.getElem?_toList]
  · rw [Nat.zero_add, World.cell?_alloc_new, Array.getElem?_eq_getElem (by omega)]
    rfl
theorem blk_new {g n c k : Nat} (h : Blk (.slice (some ⟨g, 0, none⟩) n c) k) : k = g := by simpa [Blk, Value.ownBlock, eq_comm] using h
theorem aw1 {w0 w : World} {c : Nat} (h : WSt w0 w c 4 [] NoBlock) : Calls Try.prog 14 #[.pointer (some ⟨c, 0, none⟩), .int .i64 3, .int .i64 10, .slice (some ⟨w.heap.size, 0, none⟩) 2 2] (w.alloc (.cells #[.int .i64 5, .int .i64 1, .int .i64 6, .int .i64 2] 40)) fun x w' => x = .returned (.int .i64 0) ∧ WSt w0 w' c 4 [⟨3, 10, [⟨5, 1⟩, ⟨6, 2⟩]⟩] NoBlock :=
  ((h.past ((Turn.refl NoBlock w).alloc _)).block 3 10 _ [⟨5, 1⟩, ⟨6, 2⟩] (irow_new w [⟨5, 1⟩, ⟨6, 2⟩] _ rfl (by decide)) (by decide) (fit_small _ (by omega)) (fit_small _ (by omega)) (fun i hi => by
    simp only [List.mem_cons, List.not_mem_nil, or_false] at hi
    rcases hi with rfl | rfl <;> exact ⟨fit_small _ (by decide), fit_small _ (by decide)⟩)).mono (fun x w' hh => by
    have e : blkS 4 [] 3 [⟨5, 1⟩, ⟨6, 2⟩] = 0 := by decide
    rw [e] at hh
    unfold blkL at hh
    rw [e] at hh
    exact ⟨hh.1, hh.2.1⟩)
theorem aw2 {w0 w : World} {c : Nat} (h : WSt w0 w c 4 [⟨3, 10, [⟨5, 1⟩, ⟨6, 2⟩]⟩] NoBlock) : Calls Try.prog 17 #[.pointer (some ⟨c, 0, none⟩), .int .i64 6, .int .i64 2] w fun x w' => ∃ v, x = .returned v ∧ KRow v [⟨3, 1, 0, 2⟩] w' ∧ WSt w0 w' c 4 [] NoBlock := by
  have e1 : ([⟨3, 10, [⟨5, 1⟩, ⟨6, 2⟩]⟩] : List Wt).filterMap (wkA (fun m => meetB m 2) 6 0 2) = [⟨3, 1, 0, 2⟩] := by decide
  have e2 : ([⟨3, 10, [⟨5, 1⟩, ⟨6, 2⟩]⟩] : List Wt).filter (keepA (fun m => meetB m 2) 6) = [] := by decide
  refine (h.tell 6 2 (fit_small _ (by omega))).mono (fun x w' hh => ?_)
  rw [e1, e2] at hh
  obtain ⟨v, h1, h2, h3, -⟩ := hh
  exact ⟨v, h1, h2, h3⟩
set_option maxRecDepth 20000 in
set_option maxHeartbeats 1000000 in
theorem awake16 (w : World) : Calls Try.prog 12 #[] w fun e w' => e = .returned (.bool true) ∧ Turn NoBlock w w' := by
  have c1 := Lib.hid (wst_new 4 w (by omega) (by omega))
  go_enter Try.func12, Try.ntmps12
  go_wp2_with (first
    | (go_at_call 11; (with_reducible refine c1.out.mono ?_); rintro x w1 ⟨c, rfl, k1, -⟩; have K1 := Lib.hid k1; clear k1)
    | (go_at_call 14; (with_reducible refine (aw1 K1.out).mono ?_); rintro x w2 ⟨rfl, k2⟩; have K2 := Lib.hid k2; clear k2)
    | (go_at_call 17; (with_reducible refine (aw2 K2.out).mono ?_); rintro x w3 ⟨v, rfl, r3, k3⟩; have K3 := Lib.hid k3; obtain ⟨g, o, cap, rfl, -⟩ := WRow.shape r3 (by decide); obtain ⟨q0, q1, q2, q3⟩ := r3.four (j := 0) rfl; simp only [Nat.zero_mul, Nat.add_zero] at q0 q1 q2 q3; clear r3 k3)
    | (go_at_call 27; (with_reducible refine (K3.out.count).mono ?_); rintro x w5 ⟨rfl, rfl⟩))
  go_ret
  exact ⟨rfl, K3.out.turn⟩
/-- Items that came in. -/
def RdIt (W : World) (v : Value) (its : List It) : Prop := Rz W 2 v its.length (itcells its) ∧ ∀ i ∈ its, fit i.o ∧ fit i.m
theorem RdIt.past {W W' : World} {v : Value} {its : List It} (h : RdIt W v its) (t : Turn NoBlock W W') : RdIt W' v its := ⟨h.1.past t, h.2⟩
theorem RdIt.two {W : World} {v : Value} {its : List It} (h : RdIt W v its) {j : Nat} {i : It} (hi : its[j]? = some i) : ∃ g o c, v = .slice (some ⟨g, o, none⟩) its.length c ∧ W.cell? ⟨g, o + j * 2, none⟩ = some (.int .i64 i.o) ∧ W.cell? ⟨g, o + j * 2 + 1, none⟩ = some (.int .i64 i.m) := by
  have hlt := (List.getElem?_eq_some_iff.1 hi).1
  obtain ⟨p, c, hv, h0, hc⟩ := (h.1.rd (by omega)).form
  cases p with
  | none => have := h0 rfl; omega
  | some a =>
    obtain ⟨g, o, rfl, hj⟩ := hc a rfl
    have ha := fun k hk => fl_at It.cells 2 (fun _ => rfl) its j i hi k hk
    refine ⟨g, o, c, hv, ?_, ?_⟩
    · rw [hj (j * 2) (by omega)]; exact ha 0 (by omega)
    · rw [Nat.add_assoc, hj (j * 2 + 1) (by omega)]; exact ha 1 (by omega)
set_option maxRecDepth 20000 in
set_option maxHeartbeats 1000000 in
theorem items_of {w : World} {v : Value} {its : List It} (h : RdIt w v its) (hl : its.length ≤ 1000) : Calls Try.prog 13 #[v] w fun e w' => ∃ u, e = .returned u ∧ IRow u its w' ∧ Turn NoBlock w w' ∧ ∀ k, Blk u k → w.heap.size ≤ k := by
  obtain ⟨p, c, hv⟩ := h.1.sl
  obtain ⟨n, hn⟩ : ∃ n, its.length = n := ⟨_, rfl⟩
  have HR := Lib.hid h
  have HN := Lib.hid hn
  rw [hn] at hv hl
  subst hv
  obtain ⟨iI, hiI, hzI, hsI, hbI⟩ := info_parts infoIt
  have F := Lib.hid (And.intro hiI (And.intro hzI (And.intro hsI hbI)))
  clear h hn hiI hzI hsI hbI
  go_enter Try.func13, Try.ntmps13
  go_wp2
  go_loopg [3, 5, 8] n (fun z s3 s5 s8 wr => ∃ j : Nat, j ≤ n ∧ z = n - j ∧ s8 = .int .i64 (j : Int) ∧ Hid (IRow s3 (its.take j) wr ∧ Turn NoBlock w wr ∧ ∀ k, Blk s3 k → w.heap.size ≤ k))
  case atStart => exact ⟨0, by omega, by omega, rfl, Lib.hid ⟨wrow_nil _ _ _, Turn.refl _ _, fun k hk => (blk_nil k hk).elim⟩⟩
  case round =>
    obtain ⟨j, hj, hz, rfl, HI⟩ := hrel
    by_cases hlt : j < n
    · have hjn : (j : Int) < (n : Int) := by omega
      obtain ⟨i, hi⟩ : ∃ i, its[j]? = some i := ⟨_, List.getElem?_eq_getElem (by rw [HN.out]; exact hlt)⟩
      obtain ⟨g, o, c', he, d0, d1⟩ := (HR.out.past HI.out.2.1).two hi
      simp only [Value.slice.injEq] at he
      obtain ⟨rfl, -, rfl⟩ := he
      have hrow := HI.out.1
      obtain ⟨q, cc, hsl⟩ := WRow.sl hrow
      have hlj : (its.take j).length = j := by rw [List.length_take, HN.out]; omega
      unfold IRow at hrow
      rw [hlj] at hrow hsl
      subst hsl
      obtain ⟨WA, hWA⟩ : ∃ W, wr.alloc (.cells #[.int .i64 i.o, .int .i64 i.m] 100) = W := ⟨_, rfl⟩
      have tA : Turn NoBlock wr WA := by rw [← hWA]; exact (Turn.refl _ wr).alloc _
      have hsz : WA.heap.size = wr.heap.size + 1 := by rw [← hWA]; simp
      obtain ⟨WB, hWB⟩ : ∃ W, WA.alloc (.cells #[.int .i64 i.o, .int .i64 i.m] 40) = W := ⟨_, rfl⟩
      have tB : Turn NoBlock wr WB := by rw [← hWB]; exact tA.alloc _
      have hrd : Rd WB 2 (.slice (some ⟨WA.heap.size, 0, none⟩) 1 1) 1 (itcells [i]) := by rw [← hWB]; exact rd_new WA 40 2 #[.int .i64 i.o, .int .i64 i.m] rfl
      obtain ⟨v', W9, hap, w9, t9, k9⟩ := WRow.append (hrow.past tB) 33 33 iI _ 16 itemsT F.out.1 F.out.2.1 F.out.2.2.1 F.out.2.2.2 rfl (hrd.src 33 40 itemsT (itcells_one _)) (by unfold maxLen; omega) (by omega)
      obtain ⟨p', cap', rfl⟩ := w9.sl
      have hblk := HI.out.2.2
      have H9 := Lib.hid (show IRow (.slice p' (j + 1) cap') (its.take (j + 1)) W9 ∧ Turn NoBlock w W9 ∧ ∀ k, Blk (.slice p' (j + 1) cap') k → w.heap.size ≤ k from by
        refine ⟨?_, (TT HI.out.2.1 tB).trans t9 (fun k hk => .inr (hblk k hk)), fun k hk => ?_⟩
        · have e : its.take (j + 1) = its.take j ++ [i] := by rw [List.take_add_one, hi]; rfl
          unfold IRow itcells
          rw [e, List.length_append, fl_app, hlj]
          exact w9
        · rcases k9 k hk with h4 | h4
          · exact hblk k h4
          · have := tB.size; have := HI.out.2.1.size; omega)
      rw [hsz] at hap
      rw [← hWB, ← hWA] at hap
      clear hrow hi hlj tA tB hrd w9 t9 k9 hblk hsz hWA hWB
      go_wp2_with (at_builtin; refine Lib.wpList_append_run _ rfl (.tmp 12) (.tmp 18) 33 33 rfl _ _ rfl rfl _ _ (hap _) ?_)
      go_roundg (n - (j + 1))
      case measure => omega
      case rel => exact ⟨j + 1, by omega, by omega, by go_num, H9⟩
    · obtain rfl : j = n := by omega
      go_wp2
      go_ret
      have := HI.out
      rw [List.take_of_length_le (by rw [HN.out]; exact Nat.le_refl _)] at this
      exact ⟨_, rfl, this⟩
end Go.Proofs.Ytabakjimlndhcaa
