/-
  What Put answers to a piece that it refuses.
-/
import Derived.Test.YtdddmjdlikjedaaGPut
namespace Go.Proofs.Ytdddmjdlikjedaa
open Go.ChangeShapes Go.WideShapes Go.ChangeAt Go.RowKit Go.Shelf

theorem pno_run {W : World} {D : Nat} {n : Int} (h : W.cell? ⟨D, 0, none⟩ = some (.int .i64 n)) (tmps : Array Value) (h4 : tmps.getD 4 undef = .pointer (some ⟨D, 0, none⟩)) :
    (results Try.f32 tmps).run Try.prog W = .ok (.int .i64 n) W := by
  rw [results_c rfl, h4]
  go_simp

theorem pno_end (w : World) (p : Pc) (z : Int) (tmps : Array Value) (h4 : tmps.getD 4 undef = .pointer (some ⟨w.heap.size + 1, 0, none⟩)) :
    bodyPostM Fence.wide 3 Try.prog Try.f32 (fun e W' => e = .returned (.int .i64 z) ∧ Turn NoBlock w W') Exit.ret { tmps := tmps, defers := [] } ((w.alloc (.cells #[.int .i64 p.at', .int .i64 p.len, .int .i64 p.vmo, .int .i64 p.from', .int .i64 p.prot] 61)).alloc (.cells #[.int .i64 z] 28)) := by
  have hb := Boxed.new (w.alloc (.cells #[.int .i64 p.at', .int .i64 p.len, .int .i64 p.vmo, .int .i64 p.from', .int .i64 p.prot] 61)) 28 (.int .i64 z)
  rw [World.size_alloc] at hb
  exact ⟨_, pno_run hb.cell _ h4, rfl, ((Turn.refl _ _).alloc _).alloc _⟩

set_option maxRecDepth 20000 in
theorem put_no (p : Pc) (a : Nat) (w : World) (hno : ¬ isPut p) :
    Calls Try.prog 32 #[.pointer (some ⟨a, 0, none⟩), p.agg] w fun e W' => e = .returned (.int .i64 (-10)) ∧ Turn NoBlock w W' := by
  have cG := grid_any p.at' p.len
  have cM := mul_any p.from'
  have cP := prot_any p.prot
  unfold Pc.agg
  by_cases q1 : isGrid p.at' p.len
  · rw [show decide (isGrid p.at' p.len) = true from decide_eq_true q1] at cG
    by_cases q2 : isMul p.from'
    · rw [show decide (isMul p.from') = true from decide_eq_true q2] at cM
      by_cases q3 : p.from' ≤ 4294967296
      · have q4 : ¬ isProt p.prot := fun q4 => hno ⟨q1, q2, q3, q4⟩
        rw [show decide (isProt p.prot) = false from decide_eq_false q4] at cP
        clear q1 q2 q4 hno
        refine (callsIn_wide (n := 3)).1 ?_
        refine callsIn_of_wp_marks Try.func32 rfl trivial ?_ rfl
        simp only [Try.ntmps32, List.size_toArray, List.length_cons, List.length_nil, Nat.reduceAdd, Nat.reduceSub, Array.replicate_succ, Array.replicate_zero, List.push_toArray, List.append_toArray, List.nil_append, List.cons_append]
        gi_wp2_with (first
          | (refine ⟨trivial, ?_⟩; gi_at_call 67; refine (callsIn_wide.2 (cG _)).mono ?_; rintro e w1 ⟨rfl, rfl⟩)
          | (refine ⟨trivial, ?_⟩; gi_at_call 66; refine (callsIn_wide.2 (cM _)).mono ?_; rintro e w1 ⟨rfl, rfl⟩)
          | (refine ⟨trivial, ?_⟩; gi_at_call 68; refine (callsIn_wide.2 (cP _)).mono ?_; rintro e w1 ⟨rfl, rfl⟩))
        exact pno_end w p _ _ rfl
      · clear q1 q2 hno
        refine (callsIn_wide (n := 3)).1 ?_
        refine callsIn_of_wp_marks Try.func32 rfl trivial ?_ rfl
        simp only [Try.ntmps32, List.size_toArray, List.length_cons, List.length_nil, Nat.reduceAdd, Nat.reduceSub, Array.replicate_succ, Array.replicate_zero, List.push_toArray, List.append_toArray, List.nil_append, List.cons_append]
        gi_wp2_with (first
          | (refine ⟨trivial, ?_⟩; gi_at_call 67; refine (callsIn_wide.2 (cG _)).mono ?_; rintro e w1 ⟨rfl, rfl⟩)
          | (refine ⟨trivial, ?_⟩; gi_at_call 66; refine (callsIn_wide.2 (cM _)).mono ?_; rintro e w1 ⟨rfl, rfl⟩)
          | (refine ⟨trivial, ?_⟩; gi_at_call 68; refine (callsIn_wide.2 (cP _)).mono ?_; rintro e w1 ⟨rfl, rfl⟩))
        repeat (refine ⟨trivial, ?_⟩; gi_wp2)
        exact pno_end w p _ _ rfl
    · rw [show decide (isMul p.from') = false from decide_eq_false q2] at cM
      clear q1 q2 hno
      refine (callsIn_wide (n := 3)).1 ?_
      refine callsIn_of_wp_marks Try.func32 rfl trivial ?_ rfl
      simp only [Try.ntmps32, List.size_toArray, List.length_cons, List.length_nil, Nat.reduceAdd, Nat.reduceSub, Array.replicate_succ, Array.replicate_zero, List.push_toArray, List.append_toArray, List.nil_append, List.cons_append]
      gi_wp2_with (first
        | (refine ⟨trivial, ?_⟩; gi_at_call 67; refine (callsIn_wide.2 (cG _)).mono ?_; rintro e w1 ⟨rfl, rfl⟩)
        | (refine ⟨trivial, ?_⟩; gi_at_call 66; refine (callsIn_wide.2 (cM _)).mono ?_; rintro e w1 ⟨rfl, rfl⟩)
        | (refine ⟨trivial, ?_⟩; gi_at_call 68; refine (callsIn_wide.2 (cP _)).mono ?_; rintro e w1 ⟨rfl, rfl⟩))
      repeat (refine ⟨trivial, ?_⟩; gi_wp2)
      exact pno_end w p _ _ rfl
  · rw [show decide (isGrid p.at' p.len) = false from decide_eq_false q1] at cG
    clear q1 hno
    refine (callsIn_wide (n := 3)).1 ?_
    refine callsIn_of_wp_marks Try.func32 rfl trivial ?_ rfl
    simp only [Try.ntmps32, List.size_toArray, List.length_cons, List.length_nil, Nat.reduceAdd, Nat.reduceSub, Array.replicate_succ, Array.replicate_zero, List.push_toArray, List.append_toArray, List.nil_append, List.cons_append]
    gi_wp2_with (first
      | (refine ⟨trivial, ?_⟩; gi_at_call 67; refine (callsIn_wide.2 (cG _)).mono ?_; rintro e w1 ⟨rfl, rfl⟩)
      | (refine ⟨trivial, ?_⟩; gi_at_call 66; refine (callsIn_wide.2 (cM _)).mono ?_; rintro e w1 ⟨rfl, rfl⟩)
      | (refine ⟨trivial, ?_⟩; gi_at_call 68; refine (callsIn_wide.2 (cP _)).mono ?_; rintro e w1 ⟨rfl, rfl⟩))
    repeat (refine ⟨trivial, ?_⟩; gi_wp2)
    exact pno_end w p _ _ rfl

set_option maxRecDepth 20000 in
theorem put_far {w : World} {a : Nat} {size most : Int} {v : Value} {l : List Pc} (h : GMem w a size most v l) (ok : GOK size l) (p : Pc) (hp : isPut p) (hf : fit p.at' ∧ fit p.len) (hin : ¬ p.fin ≤ size) :
    Calls Try.prog 32 #[.pointer (some ⟨a, 0, none⟩), p.agg] w fun e W' => e = .returned (.int .i64 (-14)) ∧ Turn NoBlock w W' := by
  have htop := ok.top
  have cG := grid_any p.at' p.len
  rw [show decide (isGrid p.at' p.len) = true from decide_eq_true hp.1] at cG
  have cM := mul_any p.from'
  rw [show decide (isMul p.from') = true from decide_eq_true hp.2.1] at cM
  have cP := prot_any p.prot
  rw [show decide (isProt p.prot) = true from decide_eq_true hp.2.2.2] at cP
  have cW := fun W => gwithin_no p.at' p.len size W (by unfold Pc.fin at hin; omega) hf.1 hf.2 (by unfold fit; omega)
  have hfr := hp.2.2.1
  have hal : a < w.heap.size := lt_of_block h.head
  have hc : ∀ W', Turn NoBlock w W' → W'.cell? ⟨a, 0, none⟩ = some (.int .i64 size) := fun W' t => (h.past t).c0
  clear h ok hp hf
  unfold Pc.agg
  refine (callsIn_wide (n := 3)).1 ?_
  refine callsIn_of_wp_marks Try.func32 rfl trivial ?_ rfl
  simp only [Try.ntmps32, List.size_toArray, List.length_cons, List.length_nil, Nat.reduceAdd, Nat.reduceSub, Array.replicate_succ, Array.replicate_zero, List.push_toArray, List.append_toArray, List.nil_append, List.cons_append]
  gi_wp2_with (first
    | (refine ⟨trivial, ?_⟩; gi_at_call 67; refine (callsIn_wide.2 (cG _)).mono ?_; rintro e w1 ⟨rfl, rfl⟩)
    | (refine ⟨trivial, ?_⟩; gi_at_call 66; refine (callsIn_wide.2 (cM _)).mono ?_; rintro e w1 ⟨rfl, rfl⟩)
    | (refine ⟨trivial, ?_⟩; gi_at_call 68; refine (callsIn_wide.2 (cP _)).mono ?_; rintro e w1 ⟨rfl, rfl⟩))
  refine wpIn_wide.2 ?_
  obtain ⟨W4, hW4⟩ : ∃ W4, W4 = (w.alloc (.cells #[.int .i64 p.at', .int .i64 p.len, .int .i64 p.vmo, .int .i64 p.from', .int .i64 p.prot] 61)).alloc (.cells #[.int .i64 0] 28) := ⟨_, rfl⟩
  rw [← hW4]
  have hP4 : W4.heap[w.heap.size]? = some (.cells #[.int .i64 p.at', .int .i64 p.len, .int .i64 p.vmo, .int .i64 p.from', .int .i64 p.prot] 61 (0, 0)) := by
    rw [hW4]
    exact (Below.heap_alloc _ _ _ (by simp)).trans (heap_alloc_new w _)
  have hb4 := Boxed.new (w.alloc (.cells #[.int .i64 p.at', .int .i64 p.len, .int .i64 p.vmo, .int .i64 p.from', .int .i64 p.prot] 61)) 28 (.int .i64 0)
  rw [World.size_alloc, ← hW4] at hb4
  have hT4 : Turn NoBlock w W4 := by rw [hW4]; exact ((Turn.refl _ w).alloc _).alloc _
  have y0 := hc W4 hT4
  have x0 := cell_at hP4 0
  have x1 := cell_at hP4 1
  have x2 := cell_at hP4 2
  have x3 := cell_at hP4 3
  have x4 := cell_at hP4 4
  simp at x0 x1 x2 x3 x4
  have z0 := hb4.cell
  have z1 := hb4.frozen
  have HT := Lib.hid (And.intro hT4 hb4)
  clear hW4 hP4 hT4 hb4 hc
  go_quiet (first | (go_at_call 52; with_reducible exact gquiet (cW _)))
  gi_wp2
  have hb5 : Boxed (W4.drewN nq) (w.heap.size + 1) 28 (.int .i64 0) := HT.out.2
  exact ⟨_, pno_run (hb5.set (.int .i64 (-14))).cell _ rfl, rfl, (HT.out.1.drewN nq).setCell (p := ⟨w.heap.size + 1, 0, none⟩) (.inr (Nat.le_succ _)) _⟩
end Go.Proofs.Ytdddmjdlikjedaa
