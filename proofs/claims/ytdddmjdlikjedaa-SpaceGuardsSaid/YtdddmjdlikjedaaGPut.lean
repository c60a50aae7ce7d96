/-
  What Put answers. No conditions but that the pieces rise and lie in the region, and that arguments are numbers of 64 bits.
-/
import Derived.Test.YtdddmjdlikjedaaGFind
namespace Go.Proofs.Ytdddmjdlikjedaa
open Go.ChangeShapes Go.WideShapes Go.ChangeAt Go.RowKit Go.Shelf

attribute [local go_sem] Oper.semAt_some

theorem gquiet {P : Program} {f : FuncId} {args : Array Value} {w : World} {n : Nat} {v : Value}
    (h : Calls P f args (w.drewN n) fun e w' => e = .returned v ∧ w.drewN n = w') : Calls P f args (w.drewN n) fun e w'' => e = .returned v ∧ ∃ m, w'' = w.drewN m :=
  h.mono fun _ _ ⟨he, hm⟩ => ⟨he, n, hm.symm⟩

theorem pres_run {W : World} {D : Nat} {n : Int} (h : Boxed W D 28 (.int .i64 n)) (tmps : Array Value) (h4 : tmps.getD 4 undef = .pointer (some ⟨D, 0, none⟩)) :
    (results Try.f32 tmps).run Try.prog W = .ok (.int .i64 n) W := by
  have s0 := h.cell
  rw [results_c rfl, h4]
  go_simp
/-- A row of one piece that is new. -/
theorem prow_one (w : World) (p : Pc) : PRow (.slice (some ⟨w.heap.size, 0, none⟩) 1 1) [p] (w.alloc (.cells #[.int .i64 p.at', .int .i64 p.len, .int .i64 p.vmo, .int .i64 p.from', .int .i64 p.prot] 61)) := by
  have h := full_new w p.cells [] 1 #[.int .i64 p.at', .int .i64 p.len, .int .i64 p.vmo, .int .i64 p.from', .int .i64 p.prot] (by simp [Pc.cells]) rfl (by decide)
  exact h.prow rfl (Nat.le_refl _) (by simp [pcs, Pc.cells])
theorem own_boxed (D : Nat) (t : TypeId) (u : Value) {β : Type} (B : Nat) : OwnFrom B (fun (_ : β) W => Boxed W D t u) := ownFrom_cells _ _ _ _

/-- What Put asks of a piece. -/
def isPut (p : Pc) : Prop := isGrid p.at' p.len ∧ isMul p.from' ∧ p.from' ≤ 4294967296 ∧ isProt p.prot
/-- What Put leaves. -/
structure PutIs (w w' : World) (a : Nat) (size most : Int) (v : Value) (l' : List Pc) : Prop where
  ok : ∃ v', GMem w' a size most v' l' ∧ ∀ j, GFoot a v' j → GFoot a v j ∨ w.heap.size ≤ j
  turn : Turn (GFoot a v) w w'

/-- What replace gives Put. -/
def PutR (W0 W' : World) (a : Nat) (size most : Int) (v : Value) (l l' : List Pc) (z : Int) : Prop :=
  (most < (l.length + 1 : Nat) ∧ z = -4 ∧ Turn NoBlock W0 W') ∨ ((l.length + 1 : Nat) ≤ most ∧ z = 0 ∧ ∃ v', GMem W' a size most v' l' ∧ (∀ j, GFoot a v' j → GFoot a v j ∨ W0.heap.size ≤ j) ∧ Turn (fun j => GFoot a v j ∨ W0.heap.size = j + 1) W0 W')

set_option maxRecDepth 100000 in
set_option maxHeartbeats 4000000 in
theorem put_in (m : Nat) (hm : 5 ≤ m) {w : World} {a : Nat} {size most : Int} {v : Value} {l : List Pc} (h : GMem w a size most v l) (ok : GOK size l) (hll : l.length ≤ 65536) (p : Pc) (hp : isPut p) (hin : p.fin ≤ size) (k b : Nat) (hs : SegIs l p.at' p.len k b) (hmost : 0 ≤ most ∧ most ≤ 65536) :
    CallsIn Fence.wide m Try.prog 32 #[.pointer (some ⟨a, 0, none⟩), p.agg] w fun e W' =>
      (k < b ∧ e = .returned (.int .i64 (-26)) ∧ Turn NoBlock w W') ∨ (b = k ∧ ((most < (l.length + 1 : Nat) ∧ e = .returned (.int .i64 (-4)) ∧ Turn NoBlock w W') ∨ ((l.length + 1 : Nat) ≤ most ∧ e = .returned (.int .i64 0) ∧ PutIs w W' a size most v (l.take k ++ [p] ++ l.drop k)))) := by
  have h1 : 1 ≤ m := by omega
  obtain ⟨C, hC⟩ : ∃ C, w.heap.size = C := ⟨_, rfl⟩
  have htop := ok.top
  have cG := grid_any p.at' p.len
  rw [show decide (isGrid p.at' p.len) = true from decide_eq_true hp.1] at cG
  have cM := mul_any p.from'
  rw [show decide (isMul p.from') = true from decide_eq_true hp.2.1] at cM
  have cP := prot_any p.prot
  rw [show decide (isProt p.prot) = true from decide_eq_true hp.2.2.2] at cP
  have hpos : 0 ≤ p.at' ∧ 0 < p.len := by have := hp.1; unfold isGrid isMul at this; omega
  have cW := fun W => gwithin_yes p.at' p.len size W ⟨by omega, by omega, hin⟩ (by omega)
  have hfr := hp.2.2.1
  obtain ⟨W4, hW4⟩ : ∃ W4, W4 = (w.alloc (.cells #[.int .i64 p.at', .int .i64 p.len, .int .i64 p.vmo, .int .i64 p.from', .int .i64 p.prot] 61)).alloc (.cells #[.int .i64 0] 28) := ⟨_, rfl⟩
  have hT4 : Turn NoBlock w W4 := by rw [hW4]; exact ((Turn.refl _ w).alloc _).alloc _
  have hz4 : W4.heap.size = C + 2 := by rw [hW4, ← hC]; simp
  have hP4 : W4.heap[C]? = some (.cells #[.int .i64 p.at', .int .i64 p.len, .int .i64 p.vmo, .int .i64 p.from', .int .i64 p.prot] 61 (0, 0)) := by
    rw [hW4, ← hC]
    exact (Below.heap_alloc _ _ _ (by simp)).trans (heap_alloc_new w _)
  have hr4 : W4.heap[C + 1]? = some (.cells #[.int .i64 0] 28 (0, 0)) := by
    rw [hW4, ← hC]
    have := heap_alloc_new (w.alloc (.cells #[.int .i64 p.at', .int .i64 p.len, .int .i64 p.vmo, .int .i64 p.from', .int .i64 p.prot] 61)) (.cells #[.int .i64 0] 28)
    rwa [World.size_alloc] at this
  have hM4 := h.past hT4
  have HG := Lib.hid (And.intro h (And.intro ok (And.intro hs (And.intro hp hT4))))
  clear h ok hs hp
  refine callsIn_of_wp_marks Try.func32 rfl trivial ?_ rfl
  simp only [Try.ntmps32, List.size_toArray, List.length_cons, List.length_nil, Nat.reduceAdd, Nat.reduceSub, Array.replicate_succ, Array.replicate_zero, List.push_toArray, List.append_toArray, List.nil_append, List.cons_append]
  unfold Pc.agg
  gi_wp2_with (first
    | (refine ⟨trivial, ?_⟩; gi_at_call 67; refine (callsIn_wide.2 (cG _)).mono ?_; rintro e w1 ⟨rfl, rfl⟩)
    | (refine ⟨trivial, ?_⟩; gi_at_call 66; refine (callsIn_wide.2 (cM _)).mono ?_; rintro e w1 ⟨rfl, rfl⟩)
    | (refine ⟨trivial, ?_⟩; gi_at_call 68; refine (callsIn_wide.2 (cP _)).mono ?_; rintro e w1 ⟨rfl, rfl⟩))
  rw [← hW4]
  try simp only [hC]
  refine wpIn_wide.2 ?_
  have x0 := cell_at hP4 0
  have x1 := cell_at hP4 1
  have x2 := cell_at hP4 2
  have x3 := cell_at hP4 3
  have x4 := cell_at hP4 4
  simp at x0 x1 x2 x3 x4
  have y0 := hM4.c0
  clear hW4
  go_quiet (first | (go_at_call 52; with_reducible exact gquiet (cW _)))
  gi_wp2_with (first
    | (refine ⟨trivial, ?_⟩; gi_at_call 69; refine (over_in Fence.wide (m - 1) trivial rfl a _ _ _).mono ?_; rintro e w' ⟨rfl, rfl⟩))
  have tq : Turn NoBlock W4 (W4.drewN nq) := (Turn.refl _ _).drewN nq
  have hO := osees_new (x := p.at') (n := p.len) (hM4.past tq)
  have hzq : (W4.drewN nq).heap.size = C + 2 := hz4
  rw [hzq] at hO
  try simp only [hzq]
  have hft : ∀ j, GFoot a v j → j < C := fun j hj => by rw [← hC]; exact HG.out.1.lt hj
  have fa : fit p.at' := by unfold fit Pc.fin at *; omega
  have fl : fit p.len := by unfold fit Pc.fin at *; omega
  have hst := over_stops HG.out.2.1 hll fa fl HG.out.2.2.1 (m - 1) (by omega) (C + 2) (C + 2 + 1) (C + 2 + 2) _ hO
  obtain ⟨W5, hW5⟩ : ∃ W5, W5 = (((W4.drewN nq).alloc (.cells #[.pointer (some ⟨a, 0, none⟩)] 57)).alloc (.cells #[.int .i64 p.at'] 3)).alloc (.cells #[.int .i64 p.len] 3) := ⟨_, rfl⟩
  rw [← hW5] at hst hO ⊢
  have hz5 : W5.heap.size = C + 5 := by rw [hW5]; simp [hz4]
  have hT5 : Turn NoBlock W4 W5 := by rw [hW5]; exact (((tq).alloc _).alloc _).alloc _
  have hP5 := hT5.heap hP4 (fun h => h)
  have hr5 : Boxed W5 (C + 1) 28 (.int .i64 0) := hT5.heap hr4 (fun h => h)
  have hBel : Below C w W5 := by rw [← hC]; exact (HG.out.2.2.2.2.trans hT5 (fun _ h => .inl h)).below (fun _ h => h.elim) (Nat.le_refl _)
  clear hW5 x0 x1 x2 x3 x4 y0 hM4 hP4 hr4 hT4 hT5 tq
  refine wpIn_rangeFunc_ownG (F := Fence.wide) rfl h1 (gf := 90) (lb := #[.pointer (some ⟨C + 2, 0, none⟩), .pointer (some ⟨C + 2 + 1, 0, none⟩), .pointer (some ⟨C + 2 + 2, 0, none⟩)]) rfl trivial (enters_of Try.func90 (by kernel_rfl) rfl)
    hst (fun h k => KpO.trans h k) (KpO.put (by omega) (by omega) (by omega) (fun j hj => by have := hft j hj; omega)) (Below.refl _ _) (fun _ => rfl)
    (fun pre W => pre = [] ∧ OSees (C + 2) (C + 2 + 1) (C + 2 + 2) a size most v l p.at' p.len W ∧ W.heap[C]? = some (.cells #[.int .i64 p.at', .int .i64 p.len, .int .i64 p.vmo, .int .i64 p.from', .int .i64 p.prot] 61 (0, 0)) ∧ Boxed W (C + 1) 28 (.int .i64 0) ∧ Below C w W)
    (fun c _ W => (c = .ret ∧ k < b) ∧ Boxed W (C + 1) 28 (.int .i64 (-26)) ∧ Below C w W)
    (OwnFrom.and (ownFrom_const _ _) (OwnFrom.and (ownFrom_of osees_own osees_cells _) (OwnFrom.and (ownFrom_cells _ _ _ _) (OwnFrom.and (own_boxed _ _ _ _) (ownFrom_below (by omega) (by omega))))))
    (fun c => OwnFrom.and (ownFrom_const _ _) (OwnFrom.and (own_boxed _ _ _ _) (ownFrom_below (by omega) (by omega))))
    ⟨rfl, hO, hP5, hr5, hBel⟩
    (fun y => { tmps := #[.pointer (some ⟨a, 0, none⟩), .agg #[.int .i64 p.at', .int .i64 p.len, .int .i64 p.vmo, .int .i64 p.from', .int .i64 p.prot], undef, .pointer (some ⟨C, 0, none⟩), .pointer (some ⟨C + 1, 0, none⟩), .pointer (some ⟨C, 0, none⟩), .int .i64 p.at', .pointer (some ⟨C, 1, none⟩), .int .i64 p.len, .bool true, .bool false, .bool false, .pointer (some ⟨C, 3, none⟩), .int .i64 p.from', .bool true, .bool false, .bool false, .bool false, .pointer (some ⟨C, 3, none⟩), .int .i64 p.from', .bool (decide (4294967296 < p.from')), .bool (decide (4294967296 < p.from')), .bool (decide (4294967296 < p.from')), .pointer (some ⟨C, 4, none⟩), .int .i64 p.prot, .bool true, .bool false, .bool (decide (4294967296 < p.from')), .pointer (some ⟨C, 0, none⟩), .int .i64 p.at', .pointer (some ⟨C, 1, none⟩), .int .i64 p.len, .pointer (some ⟨a, 0, none⟩), .pointer (some ⟨a, 0, none⟩), .pointer (some ⟨a, 0, none⟩), .int .i64 size, .bool true, .bool false, .pointer (some ⟨a, 0, none⟩), .pointer (some ⟨C, 0, none⟩), .int .i64 p.at', .pointer (some ⟨C, 1, none⟩), .int .i64 p.len, .func (.func 90) #[] #[.pointer (some ⟨C + 2, 0, none⟩), .pointer (some ⟨C + 2 + 1, 0, none⟩), .pointer (some ⟨C + 2 + 2, 0, none⟩)], .int .i64 ((y.1.1 : Nat) : Int), y.1.2.agg, undef, undef, undef, undef, undef, undef, undef, undef], defers := [] })
    ?assign ?body ?done ?stop
  case assign =>
    intro i y W K hK
    unfold Sg.enc
    gi_wp2
    exact hK
  case body =>
    rintro i pre y W ⟨rfl, hS, hPx, hbx, hBl⟩ hlt
    have e1 := hbx.cell
    have e2 := hbx.frozen
    have hya := y.2.1
    have hyb := y.2.2.1
    gi_wp2
    have tS : Turn (fun j => j = C + 1) W (W.setCell ⟨C + 1, 0, none⟩ (.int .i64 (-26))) := (Turn.refl (fun j => j = C + 1) W).setCell (p := ⟨C + 1, 0, none⟩) (.inl rfl) _
    refine ⟨⟨tS.size, fun j o hj ho hn => tS.heap ho (by omega)⟩, ⟨rfl, by omega⟩, hbx.set _, ?_⟩
    exact ⟨tS.os.trans hBl.os, tS.tape.trans hBl.tape, tS.output.trans hBl.output, Nat.le_trans hBl.size tS.size, fun j hj => (tS.block j (by have := hBl.size; omega) (by omega)).trans (hBl.block j hj)⟩
  case stop =>
    rintro D c pre W hD _ ⟨⟨rfl, hkb⟩, hbx, hBl⟩ hK
    gi_wp2
    refine ⟨by simp, .inl ⟨_, _, rfl, run_takeDeferred hK, ?_⟩⟩
    have tp := turn_putObj W D (.deferred none)
    have hb7 : Boxed (W.putObj D (.deferred none)) (C + 1) 28 (.int .i64 (-26)) := tp.heap hbx (by omega)
    refine ⟨_, pres_run hb7 _ rfl, .inl ⟨hkb, rfl, ?_⟩⟩
    exact (turn_of_below (by rw [hC]; exact hBl)).trans tp (fun j hj => .inr (by subst hj; omega))
  case done =>
    rintro D ys W hD hI ⟨rfl, hS, hPx, hbx, hBl⟩ hK
    have hlo := HG.out.2.2.1.lo
    have hbk : b = k := by have h2 := hI.1; simp at h2; omega
    subst hbk
    have x0 := cell_at hPx 0
    have x1 := cell_at hPx 1
    have x2 := cell_at hPx 2
    have x3 := cell_at hPx 3
    have x4 := cell_at hPx 4
    simp at x0 x1 x2 x3 x4
    have hg := hS.mem
    have hWs := hS.b2.lt
    have hDW := lt_of_block hK
    have t6 : Turn NoBlock W (W.alloc (.cells #[.int .i64 p.at', .int .i64 p.len, .int .i64 p.vmo, .int .i64 p.from', .int .i64 p.prot] 61)) := (Turn.refl _ _).alloc _
    have r6 := prow_one W p
    have hDC : D ≠ C + 1 := by omega
    have cR := (replace_in (m - 1) (by omega) (hg.past t6) HG.out.2.1 hll p.at' p.len fa fl b b HG.out.2.2.1 r6 (by simp) (fun j hj hv => by
      have := hft j hj
      simp [Blk, Value.ownBlock] at hv
      omega) hmost).mono (R' := fun e w' => ∃ z : Int, e = .returned (.int .i64 z) ∧ Boxed w' (C + 1) 28 (.int .i64 0) ∧ w'.heap[D]? = some (.deferred (some [])) ∧ PutR (W.alloc (.cells #[.int .i64 p.at', .int .i64 p.len, .int .i64 p.vmo, .int .i64 p.from', .int .i64 p.prot] 61)) w' a size most v l (l.take b ++ [p] ++ l.drop b) z) (by
      have hbv : ∀ j, Blk (.slice (some ⟨W.heap.size, 0, none⟩) 1 1) j → j = W.heap.size := fun j hj => by simp [Blk, Value.ownBlock] at hj; exact hj.symm
      rintro e w' (⟨g1, rfl, g2⟩ | ⟨g1, rfl, g2⟩)
      · refine ⟨-4, rfl, g2.heap (t6.heap hbx (fun h => h)) (fun h => h), g2.heap (t6.heap hK (fun h => h)) (fun h => h), .inl ⟨by simpa using g1, rfl, g2⟩⟩
      · obtain ⟨⟨v', bl', q1, q2, q3, q4⟩, q5⟩ := g2
        have hnf : ∀ j, j < W.heap.size → C ≤ j → ¬ (GFoot a v j ∨ Blk (.slice (some ⟨W.heap.size, 0, none⟩) 1 1) j) := fun j hj hc hf => by
          rcases hf with hf | hf
          · have := hft j hf; omega
          · have := hbv j hf; omega
        obtain rfl : bl' = [p] := List.perm_singleton.1 q1
        refine ⟨0, rfl, q5.heap (t6.heap hbx (fun h => h)) (hnf _ (by omega) (by omega)), q5.heap (t6.heap hK (fun h => h)) (hnf _ hDW (by omega)), .inr ⟨by simpa using g1, rfl, v', q3, q4, q5.mono (fun j hj => .inl (hj.imp id (fun h => by rw [hbv j h]; simp)))⟩⟩)
    have hfl := lt_of_block hPx
    gi_wp2_with (refine ⟨trivial, ?_⟩; gi_at_call 70; refine cR.mono ?_; rintro e w' ⟨z, rfl, b7, k7, hz⟩; have u1 := b7.cell; have u2 := b7.frozen; have u3 := b7.lt; have HZ := Lib.hid (And.intro b7 (And.intro k7 hz)); clear b7 k7 hz)
    obtain ⟨b7, k7, hz⟩ := HZ.out
    obtain ⟨W8, hW8⟩ : ∃ W8, W8 = w'.setCell ⟨C + 1, 0, none⟩ (.int .i64 z) := ⟨_, rfl⟩
    have t8 : Turn (fun j => j = C + 1) w' W8 := by rw [hW8]; exact (Turn.refl (fun j => j = C + 1) w').setCell (p := ⟨C + 1, 0, none⟩) (.inl rfl) _
    have b8 : Boxed W8 (C + 1) 28 (.int .i64 z) := by rw [hW8]; exact b7.set _
    have k8 := t8.heap k7 hDC
    rw [← hW8]
    clear hW8
    refine ⟨by simp, .inl ⟨_, _, rfl, run_takeDeferred k8, ?_⟩⟩
    have tp := turn_putObj W8 D (.deferred none)
    refine ⟨_, pres_run (tp.heap b8 (by omega)) _ rfl, ?_⟩
    have tw : Turn NoBlock w (W.alloc (.cells #[.int .i64 p.at', .int .i64 p.len, .int .i64 p.vmo, .int .i64 p.from', .int .i64 p.prot] 61)) := (turn_of_below (by rw [hC]; exact hBl)).trans t6 (fun j h => .inl h)
    rcases hz with ⟨g1, rfl, g2⟩ | ⟨g1, rfl, v', g2, g3, g4⟩
    · exact .inl ⟨by simpa using g1, rfl, ((tw.trans g2 (fun j h => .inl h)).trans t8 (fun j hj => .inr (by subst hj; omega))).trans tp (fun j hj => .inr (by subst hj; omega))⟩
    · refine .inr ⟨by simpa using g1, rfl, ⟨v', ?_, ?_⟩, ?_⟩
      · have hf : ∀ j, GFoot a v' j → ¬ j = C + 1 ∧ ¬ j = D := fun j hj => by
          rcases g3 j hj with h | h
          · have := hft j h; omega
          · simp at h; omega
        have := (g2.kept t8 (fun j hj => (hf j hj).1)).kept tp (fun j hj => (hf j hj).2)
        simpa using this
      · intro j hj
        rcases g3 j hj with h | h
        · exact .inl h
        · simp at h
          exact .inr (by have := hBl.size; omega)
      · have q1 : Turn (GFoot a v) w w' := (tw.mono (fun _ h => h.elim)).trans g4 (fun j hj => by
          rcases hj with h | h
          · exact .inl h
          · simp at h
            exact .inr (by have := hBl.size; omega))
        exact (q1.trans t8 (fun j hj => .inr (by subst hj; omega))).trans tp (fun j hj => .inr (by subst hj; omega))
end Go.Proofs.Ytdddmjdlikjedaa
