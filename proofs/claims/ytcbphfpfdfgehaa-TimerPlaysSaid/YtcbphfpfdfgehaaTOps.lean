/-
  The calls of timers in a law's state: New, Set, Cancel, Now, Count, Deadline, Next. No conditions but that the numbers are of 64 bits.
-/
import Derived.Test.YtcbphfpfdfgehaaTSt
namespace Go.Proofs.Ytcbphfpfdfgehaa
open Go.ChangeShapes Go.WideShapes Go.ChangeAt Go.RowKit

theorem new_no (most : Int) (w : World) (h : most < 0 ∨ 65536 < most) : Calls Try.prog 21 #[.int .i64 most] w fun x w' => x = .returned (.pointer none) ∧ w = w' := by
  rcases h with h | h
  · go_enter Try.func21, Try.ntmps21
    go_wp2
    go_ret
    exact ⟨rfl, rfl⟩
  · have h0 : ¬ most < 0 := by omega
    go_enter Try.func21, Try.ntmps21
    go_wp2
    go_ret
    exact ⟨rfl, rfl⟩
theorem new_yes (most : Int) (w : World) (h0 : 0 ≤ most) (h1 : most ≤ 65536) : Calls Try.prog 21 #[.int .i64 most] w fun x w' => ∃ c, x = .returned (.pointer (some ⟨c, 0, none⟩)) ∧ TSt w w' c most 0 [] NoBlock ∧ w.heap.size ≤ c ∧ c < w'.heap.size := by
  have n0 : ¬ most < 0 := by omega
  have n1 : ¬ 65536 < most := by omega
  have m0 := PMap.past (IMap.made (R := plainElem Try.prog 3) w) ((Turn.refl NoBlock (w.alloc (.map #[] 0))).alloc (.cells #[.int .i64 most, .int .i64 0, .slice none 0 0, .map (some w.heap.size)] 116)) (fun h => h)
  have b0 := heap_alloc_new (w.alloc (.map #[] 0)) (.cells #[.int .i64 most, .int .i64 0, .slice none 0 0, .map (some w.heap.size)] 116)
  have HM := Lib.hid m0
  have HB := Lib.hid b0
  clear m0 b0
  have hmm := @run_makeMap Try.prog
  go_enter Try.func21, Try.ntmps21
  go_wp2
  go_ret
  have hs : (w.alloc (.map #[] 0)).heap.size = w.heap.size + 1 := World.size_alloc _ _
  have hb := HB.out
  rw [hs] at hb
  refine ⟨w.heap.size + 1, rfl, ⟨⟨.slice none 0 0, w.heap.size, [], fun _ => none, ⟨cell_at hb 0, cell_at hb 1, cell_at hb 2, cell_at hb 3, ⟨_, hb⟩, wrow_nil _ _ _, HM.out, posOK_nil, (fun e he => by cases he), by simp⟩, fun c h0 hc => by simp at hc, List.Perm.refl _, fun k hk => ?_, fun k hk => hk.elim⟩, Right.nil, ⟨by simpa using h0, h1⟩, ⟨by omega, by omega⟩, ((Turn.refl _ w).alloc _).alloc _⟩, by omega, lt_of_block hb⟩
  rcases hk with h | h | h
  · omega
  · omega
  · exact (blk_nil k h).elim
section
variable {w0 w : World} {c : Nat} {most now : Int} {L : List En} {X : Nat → Prop}
theorem TSt.now' (h : TSt w0 w c most now L X) : Calls Try.prog 35 #[.pointer (some ⟨c, 0, none⟩)] w fun x w' => x = .returned (.int .i64 now) ∧ w = w' := by
  obtain ⟨v, b, H, P, h1, -⟩ := h.ex
  have c1 := h1.c1
  clear h h1
  go_enter Try.func35, Try.ntmps35
  go_wp2
  go_ret
  exact ⟨rfl, rfl⟩
theorem TSt.count (h : TSt w0 w c most now L X) : Calls Try.prog 34 #[.pointer (some ⟨c, 0, none⟩)] w fun x w' => x = .returned (.int .i64 (L.length : Int)) ∧ w = w' := by
  obtain ⟨v, b, H, P, h1, h2, h3, -⟩ := h.ex
  have c2 := h1.c2
  obtain ⟨p, cap, hv⟩ := h1.row.sl
  subst hv
  rw [h3.length_eq] at c2
  have hl := h1.len
  rw [h3.length_eq] at hl
  generalize L.length = n at *
  clear h h1 h2 h3
  go_enter Try.func34, Try.ntmps34
  go_wp2
  go_ret
  exact ⟨rfl, rfl⟩
theorem TSt.deadline (h : TSt w0 w c most now L X) (k : Int) (hk : fit k) : Calls Try.prog 31 #[.pointer (some ⟨c, 0, none⟩), .int .i64 k] w fun x w' => x = .returned (.tuple #[.int .i64 (dlK L k), .bool (hasK L k)]) ∧ w = w' := by
  obtain ⟨v, b, H, P, h1, h2, h3, -⟩ := h.ex
  have c2 := h1.c2
  have c3 := h1.c3
  have hlook := h1.map.look k hk
  cases hh : hasK L k with
  | false =>
    rw [find_none h3 h1.pos hh] at hlook
    rw [dlK_no hh]
    simp only [Option.getD_none, Option.isSome_none] at hlook
    clear h h1 h2 h3 hh hk
    go_enter Try.func31, Try.ntmps31
    go_wp2
    go_ret2
    exact ⟨rfl, rfl⟩
  | true =>
    obtain ⟨i, hi, hil, hik⟩ := find_some h3 h1.pos hh
    rw [hi] at hlook
    simp only [Option.getD_some, Option.isSome_some] at hlook
    have hd := dlK_of h.right.keys (h3.mem_iff.1 (eAt_mem hil))
    rw [hik] at hd
    rw [hd]
    obtain ⟨g, o, cap, rfl, -⟩ := WRow.shape h1.row (by omega)
    have q := (h1.row.two hil).2
    have hin : (i : Int) < (H.length : Int) := by omega
    have hl := h1.len
    generalize H.length = n at *
    generalize (eAt H i).d = d at *
    clear h h1 h2 h3 hh hi hik hd
    go_enter Try.func31, Try.ntmps31
    go_wp2
    go_ret2
    exact ⟨rfl, rfl⟩
/-- The first deadline. -/
def fstK (L : List En) : Int := (L.head?.map En.k).getD 0
def fstD (L : List En) : Int := (L.head?.map En.d).getD 0
theorem TSt.next (h : TSt w0 w c most now L X) : Calls Try.prog 32 #[.pointer (some ⟨c, 0, none⟩)] w fun x w' => x = .returned (.tuple #[.int .i64 (fstK L), .int .i64 (fstD L), .bool (!L.isEmpty)]) ∧ Turn NoBlock w w' := by
  obtain ⟨v, b, H, P, h1, h2, h3, -⟩ := h.ex
  have c2 := h1.c2
  cases L with
  | nil =>
    obtain ⟨p, cap, hv⟩ := h1.row.sl
    rw [h3.length_eq] at hv
    subst hv
    clear h h1 h2 h3
    simp only [List.length_nil] at c2
    unfold fstK fstD
    simp only [List.head?_nil, Option.map_none, Option.getD_none, List.isEmpty_nil, Bool.not_true]
    go_enter Try.func32, Try.ntmps32
    go_wp2
    refine bodyPost_ret (v := .tuple #[.int .i64 0, .int .i64 0, .bool false]) (by first | exact results_ttt rfl _ _ _ | (simp [results, Try.results32, go_sem])) rfl ⟨rfl, Turn.refl _ _⟩
  | cons a r =>
    have hl : H.length = r.length + 1 := by rw [h3.length_eq]; rfl
    have ha := heap_head h3 h.right h2 rfl
    obtain ⟨g, o, cap, rfl, -⟩ := WRow.shape h1.row (by omega)
    obtain ⟨q0, q1⟩ := h1.row.two (j := 0) (by omega)
    rw [ha] at q0 q1
    simp only [Nat.zero_mul, Nat.add_zero] at q0 q1
    have hn : (0 : Int) < (H.length : Int) := by omega
    have hn2 : 0 < H.length := by omega
    have hll := h1.len
    unfold fstK fstD
    simp only [List.head?_cons, Option.map_some, Option.getD_some, List.isEmpty_cons, Bool.not_false]
    generalize H.length = n at *
    obtain ⟨k, d⟩ := a
    simp only at q0 q1 ⊢
    clear h h1 h2 h3 hl ha
    go_enter Try.func32, Try.ntmps32
    go_wp2
    go_region
    go_wp2
    refine bodyPost_ret (v := .tuple #[.int .i64 k, .int .i64 d, .bool true]) (by first | exact results_ttt rfl _ _ _ | (simp [results, Try.results32, go_sem])) rfl ⟨rfl, ?_⟩
    exact ((Turn.refl _ w).alloc _).drew
end
end Go.Proofs.Ytcbphfpfdfgehaa
