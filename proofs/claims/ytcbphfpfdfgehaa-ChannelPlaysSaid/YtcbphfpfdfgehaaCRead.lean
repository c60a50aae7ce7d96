/-
  What Read answers where the end is open, and what it leaves. No conditions but that the channel is one that calls can make.
-/
import Derived.Test.YtcbphfpfdfgehaaCHandles
namespace Go.Proofs.Ytcbphfpfdfgehaa
open Go.RowKit Go.Shelf

attribute [local go_sem] Oper.semAt_some

theorem drop_any {w : World} {c o : Nat} {s : Sd} {v : SV} (h : SAt w c o s v) {x : QM} {rest : List QM} (hq : s.q = x :: rest) (h1 : s.an.length ≤ 1000000000) (h2 : s.ot.length ≤ 1000000000) :
    Calls Try.prog 67 #[.pointer (some ⟨c, o, none⟩)] w fun e w' => (∃ u, e = .returned u) ∧ Dropped w w' c o s v x rest := by
  by_cases h0 : s.an = []
  · have hq2 : s.ot = x :: rest := by unfold Sd.q at hq; rw [h0] at hq; exact hq
    exact drop_ot h h0 hq2 h2
  · obtain ⟨pre, y, hy⟩ : ∃ pre y, s.an = pre ++ [y] := ⟨s.an.dropLast, s.an.getLast h0, (List.dropLast_concat_getLast h0).symm⟩
    unfold Sd.q at hq
    rw [hy] at hq
    simp at hq
    obtain ⟨rfl, hr⟩ := hq
    rw [← hr]
    exact drop_an h hy h1

/-- The variables of Read. -/
structure RB (X : World) (E : Nat) (b h : Int) (c pl : Nat) : Prop where
  b0 : X.heap[E]? = some (.cells #[.int .i64 b] 3 (0, 0))
  b1 : X.heap[E + 1]? = some (.cells #[.int .i64 h] 3 (0, 0))
  b2 : X.heap[E + 2]? = some (.cells #[.int .i64 0, .slice none 0 0, .slice none 0 0] 49 (0, 0))
  b3 : X.heap[E + 3]? = some (.cells #[.int .i64 0] 62 (0, 0))
  b4 : X.heap[E + 4]? = some (.cells #[.pointer (some ⟨c, pl, none⟩)] 111 (0, 0))
theorem RB.kept {X Y : World} {E : Nat} {b h : Int} {c pl : Nat} {F : Nat → Prop} (r : RB X E b h c pl) (t : Turn F X Y) (hF : ∀ k, E ≤ k → k < E + 5 → ¬ F k) : RB Y E b h c pl :=
  ⟨t.heap r.b0 (hF _ (by omega) (by omega)), t.heap r.b1 (hF _ (by omega) (by omega)), t.heap r.b2 (hF _ (by omega) (by omega)), t.heap r.b3 (hF _ (by omega) (by omega)), t.heap r.b4 (hF _ (by omega) (by omega))⟩

/-- What Read has told in its two variables. -/
structure RTold (X : World) (E : Nat) (q : QM) (st : Int) : Prop where
  m : X.heap[E + 2]? = some (.cells #[.int .i64 q.m.tx, q.vd, q.vh] 49 (0, 0))
  s : X.heap[E + 3]? = some (.cells #[.int .i64 st] 62 (0, 0))

def Big (q : Msg) (b h : Int) : Prop := b < q.d.length ∨ h < q.h.length
/-- What Read comes to. -/
def RPost (w : World) (c pl : Nat) (s : Sd) (v : SV) (peer : Bool) (b h : Int) (e : Ending) (w' : World) : Prop :=
  (∃ q rest, s.q = q :: rest ∧ ((Big q.m b h ∧ ∃ r : QM, r.m = q.m.blank ∧ e = .returned (.tuple #[r.agg, .int .i64 (-15)]) ∧ r.Ok w' ∧ (∀ k, r.F k → w.heap.size ≤ k) ∧ Turn NoBlock w w') ∨
    (¬ Big q.m b h ∧ e = .returned (.tuple #[q.agg, .int .i64 0]) ∧ Dropped w w' c pl s v q rest))) ∨
  (s.q = [] ∧ e = .returned (.tuple #[.agg #[.int .i64 0, .slice none 0 0, .slice none 0 0], .int .i64 (if peer then -22 else -24)]) ∧ Turn NoBlock w w')
theorem rb_new (w : World) (b h : Int) (c pl : Nat) : ∃ W, (((((w.alloc (.cells #[.int .i64 b] 3)).alloc (.cells #[.int .i64 h] 3)).alloc (.cells #[.int .i64 0, .slice none 0 0, .slice none 0 0] 49)).alloc (.cells #[.int .i64 0] 62)).alloc (.cells #[.pointer (some ⟨c, pl, none⟩)] 111)).alloc (.cells #[.pointer (some ⟨c, pl, none⟩)] 111) = W ∧
    RB W w.heap.size b h c pl ∧ Boxed W (w.heap.size + 5) 111 (.pointer (some ⟨c, pl, none⟩)) ∧ W.heap.size = w.heap.size + 6 ∧ Turn NoBlock w W := by
  obtain ⟨W1, h1⟩ : ∃ W1, w.alloc (.cells #[.int .i64 b] 3) = W1 := ⟨_, rfl⟩
  obtain ⟨W2, h2⟩ : ∃ W2, W1.alloc (.cells #[.int .i64 h] 3) = W2 := ⟨_, rfl⟩
  obtain ⟨W3, h3⟩ : ∃ W3, W2.alloc (.cells #[.int .i64 0, .slice none 0 0, .slice none 0 0] 49) = W3 := ⟨_, rfl⟩
  obtain ⟨W4, h4⟩ : ∃ W4, W3.alloc (.cells #[.int .i64 0] 62) = W4 := ⟨_, rfl⟩
  obtain ⟨W5, h5⟩ : ∃ W5, W4.alloc (.cells #[.pointer (some ⟨c, pl, none⟩)] 111) = W5 := ⟨_, rfl⟩
  obtain ⟨W6, h6⟩ : ∃ W6, W5.alloc (.cells #[.pointer (some ⟨c, pl, none⟩)] 111) = W6 := ⟨_, rfl⟩
  have s1 : W1.heap.size = w.heap.size + 1 := by rw [← h1]; simp
  have s2 : W2.heap.size = w.heap.size + 2 := by rw [← h2]; simp [s1]
  have s3 : W3.heap.size = w.heap.size + 3 := by rw [← h3]; simp [s2]
  have s4 : W4.heap.size = w.heap.size + 4 := by rw [← h4]; simp [s3]
  have s5 : W5.heap.size = w.heap.size + 5 := by rw [← h5]; simp [s4]
  have s6 : W6.heap.size = w.heap.size + 6 := by rw [← h6]; simp [s5]
  have t1 : Turn NoBlock w W1 := by rw [← h1]; exact (Turn.refl _ _).alloc _
  have t2 : Turn NoBlock W1 W2 := by rw [← h2]; exact (Turn.refl _ _).alloc _
  have t3 : Turn NoBlock W2 W3 := by rw [← h3]; exact (Turn.refl _ _).alloc _
  have t4 : Turn NoBlock W3 W4 := by rw [← h4]; exact (Turn.refl _ _).alloc _
  have t5 : Turn NoBlock W4 W5 := by rw [← h5]; exact (Turn.refl _ _).alloc _
  have t6 : Turn NoBlock W5 W6 := by rw [← h6]; exact (Turn.refl _ _).alloc _
  have n1 := heap_alloc_new w (.cells #[.int .i64 b] 3)
  have n2 := heap_alloc_new W1 (.cells #[.int .i64 h] 3)
  have n3 := heap_alloc_new W2 (.cells #[.int .i64 0, .slice none 0 0, .slice none 0 0] 49)
  have n4 := heap_alloc_new W3 (.cells #[.int .i64 0] 62)
  have n5 := heap_alloc_new W4 (.cells #[.pointer (some ⟨c, pl, none⟩)] 111)
  have n6 := heap_alloc_new W5 (.cells #[.pointer (some ⟨c, pl, none⟩)] 111)
  rw [h1] at n1
  rw [h2, s1] at n2
  rw [h3, s2] at n3
  rw [h4, s3] at n4
  rw [h5, s4] at n5
  rw [h6, s5] at n6
  have k : ∀ {X Y : World} {i : Nat} {o : Obj}, Turn NoBlock X Y → X.heap[i]? = some o → Y.heap[i]? = some o := fun t h => t.heap h (fun h => h)
  rw [h1, h2, h3, h4, h5, h6]
  exact ⟨W6, rfl, ⟨k t6 (k t5 (k t4 (k t3 (k t2 n1)))), k t6 (k t5 (k t4 (k t3 n2))), k t6 (k t5 (k t4 n3)), k t6 (k t5 n4), k t6 n5⟩, n6, s6, TT (TT (TT (TT (TT t1 t2) t3) t4) t5) t6⟩
/-- What one round comes to. -/
def ROut (w X : World) (E c pl : Nat) (s : Sd) (v : SV) (b h : Int) (q : QM) : Prop :=
  (Big q.m b h ∧ ∃ r : QM, r.m = q.m.blank ∧ r.Ok X ∧ (∀ k, r.F k → E ≤ k) ∧ RTold X E r (-15) ∧ Turn NoBlock w X) ∨
  (¬ Big q.m b h ∧ RTold X E q 0 ∧ ∃ x rest, s.q = x :: rest ∧ Dropped w X c pl s v x rest)
theorem RTold.nocell {X Y : World} {E : Nat} {q : QM} {st : Int} {row : Option Nat} (h : RTold X E q st) (hg : X.grownBy Y row) (hr : ∀ r, row = some r → ∃ o : Obj, X.heap[r]? = some o ∧ o.isCells = false) : RTold Y E q st := ⟨heap_nocell h.m hg hr, heap_nocell h.s hg hr⟩
theorem QM.Ok.nocell {X Y : World} {q : QM} {row : Option Nat} (h : q.Ok X) (hg : X.grownBy Y row) (hr : ∀ r, row = some r → ∃ o : Obj, X.heap[r]? = some o ∧ o.isCells = false) : q.Ok Y := ⟨WRow.nocell h.d hg hr, WRow.nocell h.h hg hr, h.fits⟩
/-- What is behind a change of an end. -/
theorem SStep.past {w X Y : World} {c o : Nat} {s s' : Sd} {v v' : SV} {F : Nat → Prop} (h : SStep w X c o s v s' v') (t : Turn F X Y) (hF : ∀ k, k = c ∨ SFt s' v' k → ¬ F k) (hw : ∀ k, F k → w.heap.size ≤ k) : SStep w Y c o s v s' v' :=
  ⟨h.turn.trans t (fun k hk => .inr (hw k hk)), fun j hj => (World.cell?_of_block (a := ⟨c, j, none⟩) (t.block c h.at'.typ.lt (hF c (.inl rfl)))).trans (h.cells j hj), h.at'.kept t hF, h.ba, h.bo, h.bw, h.qs⟩
theorem SStep.after {w X Y : World} {c o : Nat} {s s' : Sd} {v v' : SV} (t : Turn NoBlock w X) (hc : c < w.heap.size) (h : SStep X Y c o s v s' v') : SStep w Y c o s v s' v' :=
  ⟨(TU t).trans h.turn (fun _ hk => .inl hk), fun j hj => (h.cells j hj).trans (World.cell?_of_block (a := ⟨c, j, none⟩) (t.block c hc (fun h => h))), h.at', fun k hk => (h.ba k hk).imp id (fun h1 => Nat.le_trans t.size h1), fun k hk => (h.bo k hk).imp id (fun h1 => Nat.le_trans t.size h1), fun i hi => (h.bw i hi).imp id (fun h1 => Nat.le_trans t.size h1), fun q hq => (h.qs q hq).imp id (fun h1 i hi => Nat.le_trans t.size (h1 i hi))⟩

theorem told_new {Y : World} {E : Nat} {tx st d0 : Int} {vd vh a1 a2 a3 : Value} (h2 : Y.heap[E + 2]? = some (.cells #[a1, a2, a3] 49 (0, 0))) (h3 : Y.heap[E + 3]? = some (.cells #[.int .i64 d0] 62 (0, 0))) :
    ((((((Y.setCell ⟨E + 2, 0, none⟩ (.int .i64 tx)).setCell ⟨E + 2, 1, none⟩ vd).setCell ⟨E + 2, 2, none⟩ vh).setCell ⟨E + 3, 0, none⟩ (.int .i64 st)).heap[E + 2]? = some (.cells #[.int .i64 tx, vd, vh] 49 (0, 0))) ∧
    (((((Y.setCell ⟨E + 2, 0, none⟩ (.int .i64 tx)).setCell ⟨E + 2, 1, none⟩ vd).setCell ⟨E + 2, 2, none⟩ vh).setCell ⟨E + 3, 0, none⟩ (.int .i64 st)).heap[E + 3]? = some (.cells #[.int .i64 st] 62 (0, 0)))) ∧
    Turn (fun k => k = E + 2 ∨ k = E + 3) Y ((((Y.setCell ⟨E + 2, 0, none⟩ (.int .i64 tx)).setCell ⟨E + 2, 1, none⟩ vd).setCell ⟨E + 2, 2, none⟩ vh).setCell ⟨E + 3, 0, none⟩ (.int .i64 st)) := by
  refine ⟨⟨?_, ?_⟩, ?_⟩
  · have q1 := set_at h2 0 (.int .i64 tx)
    have q2 := set_at q1 1 vd
    have q3 := set_at q2 2 vh
    have q4 := set_past q3 (p := ⟨E + 3, 0, none⟩) (show E + 2 ≠ E + 3 by omega) (.int .i64 st)
    simpa using q4
  · have q1 := set_past h3 (p := ⟨E + 2, 0, none⟩) (show E + 3 ≠ E + 2 by omega) (.int .i64 tx)
    have q2 := set_past q1 (p := ⟨E + 2, 1, none⟩) (show E + 3 ≠ E + 2 by omega) vd
    have q3 := set_past q2 (p := ⟨E + 2, 2, none⟩) (show E + 3 ≠ E + 2 by omega) vh
    have q4 := set_at q3 0 (.int .i64 st)
    simpa using q4
  · exact ((((Turn.refl (fun k => k = E + 2 ∨ k = E + 3) Y).setCell (p := ⟨E + 2, 0, none⟩) (.inl (.inl rfl)) _).setCell (p := ⟨E + 2, 1, none⟩) (.inl (.inl rfl)) _).setCell (p := ⟨E + 2, 2, none⟩) (.inl (.inl rfl)) _).setCell (p := ⟨E + 3, 0, none⟩) (.inl (.inr rfl)) _

theorem SAt.nocells {X : World} {c o : Nat} {s : Sd} {v : SV} (h : SAt X c o s v) {D : Nat} {ob : Obj} (hD : X.heap[D]? = some ob) (hi : ob.isCells = false) : ∀ k, k = c ∨ SFt s v k → k ≠ D := fun k hk e => by
  subst e
  rcases hk with rfl | (hk | hk | hk) | ⟨q', hq', hk | hk⟩
  · obtain ⟨cur, hc⟩ := h.typ; rw [hc] at hD; cases hD; cases hi
  · obtain ⟨cur, hc⟩ := h.rowA.typed hk; rw [hc] at hD; cases hD; cases hi
  · obtain ⟨cur, hc⟩ := h.rowO.typed hk; rw [hc] at hD; cases hD; cases hi
  · obtain ⟨cur, hc⟩ := h.rowW.typed hk; rw [hc] at hD; cases hD; cases hi
  · obtain ⟨cur, hc⟩ := (h.ok q' hq').d.typed hk; rw [hc] at hD; cases hD; cases hi
  · obtain ⟨cur, hc⟩ := (h.ok q' hq').h.typed hk; rw [hc] at hD; cases hD; cases hi
theorem results_cc {fn : Func} {p u : Tmp} {ty tz : TypeId} (h : fn.results = #[.cell p ty, .cell u tz]) (tmps : Array Value) (P : Program) (w : World) :
    (results fn tmps).run P w = ((asAddr (tmps.getD p undef)).run P w).andThen fun a w₁ => ((loadVar ty a).run P w₁).andThen fun v w₂ => ((asAddr (tmps.getD u undef)).run P w₂).andThen fun b w₃ => ((loadVar tz b).run P w₃).andThen fun v' w₄ => .ok (.tuple #[v, v']) w₄ := by
  simp only [results, h]
  simp [Sem.run_bind, Result.andThen]
theorem told_ret {X : World} {E : Nat} {x y z : Value} {st : Int} {tmps : Array Value} (h2 : X.heap[E + 2]? = some (.cells #[x, y, z] 49 (0, 0))) (h3 : X.heap[E + 3]? = some (.cells #[.int .i64 st] 62 (0, 0)))
    (h8 : tmps.getD 8 undef = .pointer (some ⟨E + 2, 0, none⟩)) (h9 : tmps.getD 9 undef = .pointer (some ⟨E + 3, 0, none⟩)) : (results Try.f37 tmps).run Try.prog X = .ok (.tuple #[.agg #[x, y, z], .int .i64 st]) X := by
  obtain ⟨x0, x1, x2⟩ := box3 h2
  have y0 : X.cell? ⟨E + 3, 0, none⟩ = some (.int .i64 st) := by rw [cell_at h3]; rfl
  rw [results_cc rfl, h8, h9]
  clear h2 h3 h8 h9
  go_simp

set_option maxRecDepth 100000 in
set_option maxHeartbeats 4000000 in
theorem read_core0a {w : World} {c depth N : Nat} {S : Nat → Sd} {V : Nat → SV} (hC : CMem w c depth N S V) (hN : N ≤ 1000000) (b h : Int) (h0 : 0 ≤ b) (hbh : b ≤ h) (ho : (S 0).op = true) :
    Calls Try.prog 37 #[.pointer (some ⟨c, 0, none⟩), .int .i64 0, .int .i64 b, .int .i64 h] w (RPost w c 1 (S 0) (V 0) (S 1).op b h) := by
  have HC := Lib.hid (fun W (t : Turn NoBlock w W) => hC.past t)
  have HO := Lib.hid ho
  have HN := Lib.hid hN
  clear hC ho hN
  refine (callsIn_wide (n := 6)).1 ?_
  refine callsIn_of_wp_marks (F := Fence.wide) Try.func37 rfl trivial ?_ rfl
  simp only [Try.ntmps37, List.size_toArray, List.length_cons, List.length_nil, Nat.reduceAdd, Nat.reduceSub, Array.replicate_succ, Array.replicate_zero, List.push_toArray, List.append_toArray, List.nil_append, List.cons_append]
  gi_wp2_with (first
    | (refine ⟨trivial, ?_⟩; gi_at_call 48; refine (callsIn_wide.2 (right_yes (e := 0) (HC.out _ (((((Turn.refl NoBlock w).alloc _).alloc _).alloc _).alloc _)) (by omega) HO.out)).mono ?_; rintro e w' ⟨rfl, rfl⟩)
    | (refine ⟨trivial, ?_⟩; gi_at_call 49; refine (callsIn_wide.2 (queue_any _ _)).mono ?_; rintro e w' ⟨rfl, rfl⟩))
  obtain ⟨E, hE⟩ : ∃ E, w.heap.size = E := ⟨_, rfl⟩
  obtain ⟨W0, hW0, hrb, hbx, hsz, hT⟩ := rb_new w b h c 1
  simp only [hE, Nat.add_assoc, Nat.reduceAdd]
  rw [hW0]
  rw [hE] at hrb hbx hsz
  have hCW := HC.out W0 hT
  have hS0 : SAt W0 c 1 (S 0) (V 0) := hCW.s 0 (by omega)
  have hQ0 : QSees (E + 5) c 1 (S 0) (V 0) W0 := ⟨hbx, hS0⟩
  have hln := hCW.len 0 (by omega)
  have hlim : (S 0).an.length ≤ 1000000000 ∧ (S 0).ot.length ≤ 1000000000 := by have := HN.out; omega
  have HLM := Lib.hid hlim
  clear hW0 hln hlim
  refine range2 (gf := 72) (lb := #[.pointer (some ⟨E + 5, 0, none⟩)]) rfl (enters_of Try.func72 (by kernel_rfl) rfl)
    (queue_gives (E + 5) c 1 (S 0) (V 0) HLM.out.1 HLM.out.2) (fun _ => rfl)
    (fun pre X => pre = [] ∧ QSees (E + 5) c 1 (S 0) (V 0) X ∧ Turn NoBlock w X ∧ RB X E b h c 1)
    (fun cc pre X => cc = .ret ∧ ∃ q, pre = [q] ∧ ROut w X E c 1 (S 0) (V 0) b h q) ?hI ?hIx (fun _ _ h => h.2.1) ⟨rfl, hQ0, hT, hrb⟩
    (fun x a' X => ∃ Bx, E + 6 ≤ Bx ∧ X.heap[Bx]? = some (.cells #[.int .i64 x.m.tx, x.vd, x.vh] 49 (0, 0)) ∧ a' = { tmps := #[.pointer (some ⟨c, 0, none⟩), .int .i64 0, .int .i64 b, .int .i64 h, undef, undef, .pointer (some ⟨E, 0, none⟩), .pointer (some ⟨E + 1, 0, none⟩), .pointer (some ⟨E + 2, 0, none⟩), .pointer (some ⟨E + 3, 0, none⟩), .int .i64 0, .pointer (some ⟨E + 4, 0, none⟩), .pointer (some ⟨Bx, 0, none⟩), .pointer (some ⟨c, 0, none⟩), .int .i64 0, .int .i64 0, .int .i64 0, .bool false, undef, undef, .int .i64 b, .int .i64 h, .int .i64 b, .bool (decide (b < 0)), undef, .pointer (some ⟨c, 0, none⟩), .int .i64 0, .pointer (some ⟨c, 0, none⟩), .pointer (some ⟨c, 1, none⟩), .pointer (some ⟨c, 1, none⟩), .pointer (some ⟨c, 1, none⟩), .func (.func 72) #[] #[.pointer (some ⟨E + 5, 0, none⟩)], x.agg, undef, undef, undef, undef, undef, undef, undef, undef, undef, undef, undef, undef, undef, undef, undef, undef, undef, undef, undef, undef, undef, undef, undef, undef, undef, undef, undef, undef], defers := [] } ∧ Shown x) ?hAx ?assign ?body ?done ?stop
  case hI =>
    rintro pre X Y row ⟨rfl, hq, ht, hr0⟩ hg hr
    exact ⟨rfl, hq.grown hQ0 hg (fun r e => (hr r e).1), ht.grown hg (fun r e => .inr (by have := (hr r e).1; omega)), hr0.kept (turn_of_grown hg) (fun k h1 h2 e => by have := (hr k e).1; omega)⟩
  case hIx =>
    rintro cc pre X Y row ⟨rfl, q, rfl, ho⟩ hg hr
    refine ⟨rfl, q, rfl, ?_⟩
    rcases ho with ⟨hbig, r, h1, h2, h3, h4, h5⟩ | ⟨hbig, h4, x, rest, h5, ⟨s', v', h6, h7⟩⟩
    · exact .inl ⟨hbig, r, h1, h2.nocell hg (fun r e => (hr r e).2), h3, h4.nocell hg (fun r e => (hr r e).2), h5.grown hg (fun r e => .inr (by have := (hr r e).1; omega))⟩
    · refine .inr ⟨hbig, h4.nocell hg (fun r e => (hr r e).2), x, rest, h5, ⟨s', v', h6.past (turn_of_grown hg) (fun k hk e => ?_) (fun k e => by have := (hr k e).1; omega), h7⟩⟩
      obtain ⟨o, ho, hi⟩ := (hr k e).2
      have hlt := h6.at'
      rcases hk with rfl | (hk | hk | hk) | ⟨q', hq', hk | hk⟩
      · obtain ⟨cur, hc⟩ := hlt.typ; rw [hc] at ho; cases ho; cases hi
      · obtain ⟨cur, hc⟩ := hlt.rowA.typed hk; rw [hc] at ho; cases ho; cases hi
      · obtain ⟨cur, hc⟩ := hlt.rowO.typed hk; rw [hc] at ho; cases ho; cases hi
      · obtain ⟨cur, hc⟩ := hlt.rowW.typed hk; rw [hc] at ho; cases ho; cases hi
      · obtain ⟨cur, hc⟩ := (hlt.ok q' hq').d.typed hk; rw [hc] at ho; cases ho; cases hi
      · obtain ⟨cur, hc⟩ := (hlt.ok q' hq').h.typed hk; rw [hc] at ho; cases ho; cases hi
  case hAx =>
    rintro x a' - X Y row ⟨Bx, hlt, hb, rfl, hsh⟩ hg hr
    exact ⟨Bx, hlt, heap_nocell hb hg (fun r e => (hr r e).2), rfl, hsh⟩
  case assign =>
    rintro l pre q X K ⟨rfl, hq, ht, hr0⟩ ⟨hmem, hlen⟩ hX hK
    obtain ⟨⟨p1, c1, hvd⟩, p2, c2, hvh⟩ := (hq.at'.ok q hmem).shown
    have HK := Lib.hid hK
    have HI := Lib.hid (And.intro hq (And.intro ht hr0))
    have HD := Lib.hid (And.intro hvd (And.intro hvh (And.intro hX hsz)))
    unfold QM.agg
    rw [hvd, hvh]
    clear hq ht hr0 hmem hlen hX hK hvd hvh hE hQ0 hS0 hT hrb hbx hsz hCW
    gi_wp2
    have ta : Turn NoBlock X (X.alloc (.cells #[.int .i64 q.m.tx, .slice p1 q.m.d.length c1, .slice p2 q.m.h.length c2] 49)) := (Turn.refl _ X).alloc _
    refine HK.out _ _ (KeepsAll.of_turn ta (fun _ h => h.elim)) ⟨by first | rfl | trivial, HI.out.1.kept ta (fun _ _ h => h), TT HI.out.2.1 ta, HI.out.2.2.kept ta (fun _ _ _ h => h)⟩ ⟨X.heap.size, ?_, ?_, ?_, ⟨p1, c1, HD.out.1⟩, p2, c2, HD.out.2.1⟩
    · have := HD.out.2.2; omega
    · rw [heap_alloc_new, HD.out.1, HD.out.2.1]
    · unfold QM.agg; rw [HD.out.1, HD.out.2.1]
  case body =>
    rintro l pre q a' X hX ⟨rfl, hq, ht, hr0⟩ ⟨Bx, hBx, hbx2, rfl, hsh⟩ ⟨hmem, -⟩
    obtain ⟨⟨p1, c1, hvd⟩, p2, c2, hvh⟩ := hsh
    have hok := hq.at'.ok q hmem
    have hfit := hok.fits
    obtain ⟨x, rest, hxr⟩ : ∃ x rest, (S 0).q = x :: rest := by
      cases h9 : (S 0).q with
      | nil =>
        have : q ∈ (S 0).q := by unfold Sd.q; simp; exact hmem
        rw [h9] at this
        simp at this
      | cons x rest => exact ⟨x, rest, rfl⟩
    have hltE : ∀ k, k = c ∨ SFt (S 0) (V 0) k → k < E := fun k hk => by rw [← hE]; exact ((HC.out w (Turn.refl _ _)).s 0 (by omega)).lt hk
    have e0 : X.cell? ⟨E, 0, none⟩ = some (.int .i64 b) := by rw [cell_at hr0.b0]; rfl
    have e1 : X.cell? ⟨E + 1, 0, none⟩ = some (.int .i64 h) := by rw [cell_at hr0.b1]; rfl
    have e4 : X.cell? ⟨E + 4, 0, none⟩ = some (.pointer (some ⟨c, 1, none⟩)) := by rw [cell_at hr0.b4]; rfl
    unfold QM.agg
    rw [hvd, hvh] at hbx2 ⊢
    obtain ⟨x0, x1, x2⟩ := box3 hbx2
    have HM := Lib.hid hmem
    have HQ := Lib.hid hq
    have HT := Lib.hid ht
    have HR := Lib.hid hr0
    have HXR := Lib.hid hxr
    have HLE := Lib.hid hltE
    have HE := Lib.hid (And.intro hE (And.intro hsz (And.intro hX hBx)))
    have HV := Lib.hid (And.intro hvd hvh)
    have HBX := Lib.hid hbx2
    have HF := Lib.hid hfit
    have hdl : (q.m.d.length : Int) ≤ 4096 := by have := hfit.1; omega
    have hhl : (q.m.h.length : Int) ≤ 64 := by have := hfit.2; omega
    clear hmem hq ht hr0 hxr hltE hE hsz hX hvd hvh hbx2 hfit hok hQ0 hS0 hT hrb hbx hCW hBx
    by_cases hbig : b < (q.m.d.length : Int) ∨ h < (q.m.h.length : Int)
    · have HBIG := Lib.hid hbig
      have hcase : b < (q.m.d.length : Int) ∨ (¬ b < (q.m.d.length : Int) ∧ h < (q.m.h.length : Int)) := by omega
      clear hbig
      rcases hcase with h8 | ⟨h8, h9⟩
      all_goals
        gi_wp2_with (refine ⟨trivial, rfl, ?_⟩; gi_at_call 66; refine (CallsIn.inRound l (callsIn_wide.2 (blank_any X q.m _ _ ⟨p1, c1, rfl⟩ ⟨p2, c2, rfl⟩ HF.out))).mono ?_; rintro e Y ⟨⟨rm, rvd, rvh⟩, hrm, rfl, hro, hrf, t2⟩; obtain ⟨p3, c3, h10⟩ := hro.d.sl; obtain ⟨p4, c4, h11⟩ := hro.h.sl; dsimp only at h10 h11 hrm; subst h10 h11; unfold QM.agg; have g2 := t2.heap HR.out.b2 (fun h => h); have g3 := t2.heap HR.out.b3 (fun h => h); obtain ⟨y0, y1, y2⟩ := box3 g2; have y3 : Y.cell? ⟨E + 3, 0, none⟩ = some (.int .i64 0) := (by rw [cell_at g3]; rfl); have z0 := free_at g2 0; have z1 := free_at g2 1; have z2 := free_at g2 2; have z3 := free_at g3 0; have G := Lib.hid (And.intro g2 (And.intro g3 (And.intro hrm (And.intro hro (And.intro hrf t2))))); clear g2 g3 hrm hro hrf t2)
        have q1 := told_new (tx := rm.tx) (st := -15) (vd := .slice p3 rm.d.length c3) (vh := .slice p4 rm.h.length c4) G.out.1 G.out.2.1
        have hEE := HE.out
        have hYs := G.out.2.2.2.2.2.size
        refine ⟨KeepsAll.trans (KeepsAll.of_turn G.out.2.2.2.2.2 (fun _ h => h.elim)) (KeepsAll.of_turn q1.2 (fun k hk => .inl (by omega))), rfl, q, rfl, .inl ⟨HBIG.out, ⟨rm, .slice p3 rm.d.length c3, .slice p4 rm.h.length c4⟩, G.out.2.2.1, ?_, fun k hk => ?_, ⟨q1.1.1, q1.1.2⟩, (TT HT.out G.out.2.2.2.2.2).trans q1.2 (fun k hk => .inr (by omega))⟩⟩
        · refine G.out.2.2.2.1.kept q1.2 (fun k hk hh => ?_)
          have := G.out.2.2.2.2.1 k hk
          omega
        · have := G.out.2.2.2.2.1 k hk
          omega
    · have HBIG := Lib.hid hbig
      have h8 : ¬ b < (q.m.d.length : Int) := by omega
      have h9 : ¬ h < (q.m.h.length : Int) := by omega
      clear hbig
      gi_wp2_with (refine ⟨trivial, rfl, ?_⟩; gi_at_call 67; refine (CallsIn.inRound l (callsIn_wide.2 (drop_any HQ.out.at' HXR.out HLM.out.1 HLM.out.2))).mono ?_; rintro e Y ⟨⟨u, rfl⟩, ⟨s', v', hst, hre⟩⟩; have t2 := hst.turn; have hn : ∀ k, E ≤ k → ¬ (k = c ∨ (V 0).F k) := (fun k hk hh => by have := HLE.out k (hh.imp id (fun h => .inl h)); omega); have g2 := t2.heap HR.out.b2 (hn _ (by omega)); have g3 := t2.heap HR.out.b3 (hn _ (by omega)); have gx := t2.heap HBX.out (hn _ (by have := HE.out; omega)); obtain ⟨w0, w1, w2⟩ := box3 gx; obtain ⟨y0, y1, y2⟩ := box3 g2; have y3 : Y.cell? ⟨E + 3, 0, none⟩ = some (.int .i64 0) := (by rw [cell_at g3]; rfl); have z0 := free_at g2 0; have z1 := free_at g2 1; have z2 := free_at g2 2; have z3 := free_at g3 0; have G := Lib.hid (And.intro g2 (And.intro g3 (And.intro hst hre))); clear g2 g3 gx hst hre t2 hn)
      have q1 := told_new (tx := q.m.tx) (st := 0) (vd := .slice p1 q.m.d.length c1) (vh := .slice p2 q.m.h.length c2) G.out.1 G.out.2.1
      have hEE := HE.out
      have hYs := G.out.2.2.1.turn.size
      refine ⟨KeepsAll.trans (KeepsAll.of_turn G.out.2.2.1.turn (fun k hk => .inl (by have := HLE.out k (hk.imp id (fun h => .inl h)); omega))) (KeepsAll.of_turn q1.2 (fun k hk => .inl (by omega))), rfl, q, rfl, .inr ⟨HBIG.out, ⟨?_, q1.1.2⟩, x, rest, HXR.out, ⟨s', v', ?_, G.out.2.2.2⟩⟩⟩
      · rw [HV.out.1, HV.out.2]; exact q1.1.1
      · refine (SStep.after HT.out (by have := HLE.out c (.inl rfl); omega) G.out.2.2.1).past q1.2 (fun k hk hh => ?_) (fun k hk => by omega)
        have hlt : k < E ∨ X.heap.size ≤ k := by
          rcases hk with rfl | (hk | hk | hk) | ⟨q', hq', hk⟩
          · exact .inl (HLE.out _ (.inl rfl))
          · rcases G.out.2.2.1.ba k hk with h | h
            · exact .inl (HLE.out k (.inr (.inl (.inl h))))
            · exact .inr h
          · rcases G.out.2.2.1.bo k hk with h | h
            · exact .inl (HLE.out k (.inr (.inl (.inr (.inl h)))))
            · exact .inr h
          · rcases G.out.2.2.1.bw k hk with h | h
            · exact .inl (HLE.out k (.inr (.inl (.inr (.inr h)))))
            · exact .inr h
          · rcases G.out.2.2.1.qs q' hq' with h | h
            · exact .inl (HLE.out k (.inr (.inr ⟨q', h, hk⟩)))
            · exact .inr (h k hk)
        omega
  case done =>
    rintro D xs X hD hS ⟨rfl, hq, ht, hr0⟩ hK
    have hf := (HC.out X ht).s 1 (by omega)
    have f0 := hf.c0
    have fl := hf.typ.lt
    have HS := Lib.hid hS
    have HK := Lib.hid hK
    have HI := Lib.hid (And.intro hD (And.intro hE (And.intro hsz (And.intro ht hr0))))
    have m2 := box3 hr0.b2
    obtain ⟨m0, m1, m2⟩ := m2
    have m3 : X.cell? ⟨E + 3, 0, none⟩ = some (.int .i64 0) := by rw [cell_at hr0.b3]; rfl
    have z0 := free_at hr0.b2 0
    have z1 := free_at hr0.b2 1
    have z2 := free_at hr0.b2 2
    have z3 := free_at hr0.b3 0
    have co : ∀ w, Calls Try.prog 52 #[.int .i64 0] w fun x w' => x = .returned (.int .i64 1) ∧ w = w' := fun w => other_any 0 (by omega) w
    simp only [plc, Nat.reduceMul, Nat.reduceAdd] at f0
    clear hS hK hf hD ht hr0 hq hQ0 hS0 hT hrb hbx hsz hCW hE
    cases hop : (S 1).op
    · skip
      rw [hop] at f0
      gi_wp2
      refine wpIn_wide.2 ?_
      go_region_held3 (fun w' => w'.cell? ⟨c, 5, none⟩ = some (.bool (S 1).op)) (first | exact f0 | (rw [hop]; exact f0)) (first | (go_at_call 52; (with_reducible refine (co _).mono ?_); rintro e w2 ⟨rfl, rfl⟩))
      gi_wp2
      have hEE := HI.out
      have q1 := told_new (tx := 0) (st := (-24)) (vd := .slice none 0 0) (vh := .slice none 0 0) HI.out.2.2.2.2.b2 HI.out.2.2.2.2.b3
      have hKD := q1.2.heap HK.out (by omega)
      have tp := turn_putObj (((((X.setCell ⟨E + 2, 0, none⟩ (.int .i64 0)).setCell ⟨E + 2, 1, none⟩ (.slice none 0 0)).setCell ⟨E + 2, 2, none⟩ (.slice none 0 0)).setCell ⟨E + 3, 0, none⟩ (.int .i64 (-24))).drew) D (.deferred none)
      refine ⟨by simp, .inl ⟨_, _, rfl, run_takeDeferred hKD, ?_⟩⟩
      refine ⟨_, told_ret (E := E) (tp.heap q1.1.1 (by omega)) (tp.heap q1.1.2 (by omega)) rfl rfl, .inr ⟨HS.out.symm, by rw [hop]; rfl, ?_⟩⟩
      exact ((HI.out.2.2.2.1.trans q1.2 (fun k hk => .inr (by omega))).drew).trans tp (fun k hk => .inr (by omega))
    · skip
      rw [hop] at f0
      gi_wp2
      refine wpIn_wide.2 ?_
      go_region_held3 (fun w' => w'.cell? ⟨c, 5, none⟩ = some (.bool (S 1).op)) (first | exact f0 | (rw [hop]; exact f0)) (first | (go_at_call 52; (with_reducible refine (co _).mono ?_); rintro e w2 ⟨rfl, rfl⟩))
      gi_wp2
      have hEE := HI.out
      have q1 := told_new (tx := 0) (st := (-22)) (vd := .slice none 0 0) (vh := .slice none 0 0) HI.out.2.2.2.2.b2 HI.out.2.2.2.2.b3
      have hKD := q1.2.heap HK.out (by omega)
      have tp := turn_putObj (((((X.setCell ⟨E + 2, 0, none⟩ (.int .i64 0)).setCell ⟨E + 2, 1, none⟩ (.slice none 0 0)).setCell ⟨E + 2, 2, none⟩ (.slice none 0 0)).setCell ⟨E + 3, 0, none⟩ (.int .i64 (-22))).drew) D (.deferred none)
      refine ⟨by simp, .inl ⟨_, _, rfl, run_takeDeferred hKD, ?_⟩⟩
      refine ⟨_, told_ret (E := E) (tp.heap q1.1.1 (by omega)) (tp.heap q1.1.2 (by omega)) rfl rfl, .inr ⟨HS.out.symm, by rw [hop]; rfl, ?_⟩⟩
      exact ((HI.out.2.2.2.1.trans q1.2 (fun k hk => .inr (by omega))).drew).trans tp (fun k hk => .inr (by omega))
  case stop =>
    rintro D cc pre X hD hSp ⟨rfl, q, rfl, ho⟩ hK
    have HO := Lib.hid ho
    have HK := Lib.hid hK
    have HI := Lib.hid (And.intro hSp (And.intro hD (And.intro hE hsz)))
    clear hSp hK ho hD hQ0 hS0 hT hrb hbx hsz hCW hE
    gi_wp2
    have hEE := HI.out.2
    obtain ⟨rest, hrest⟩ := HI.out.1
    have tp := turn_putObj X D (.deferred none)
    refine ⟨by simp, .inl ⟨_, _, rfl, run_takeDeferred HK.out, ?_⟩⟩
    rcases HO.out with ⟨hbig, r, h1, h2, h3, h4, h5⟩ | ⟨hbig, h4, x, rest', h5, ⟨s', v', h6, h7⟩⟩
    · refine ⟨_, told_ret (E := E) (tp.heap h4.m (by omega)) (tp.heap h4.s (by omega)) rfl rfl, .inl ⟨q, rest, hrest.symm, .inl ⟨hbig, r, h1, rfl, h2.nocell (grownBy_putObj' X D _) (fun r e => by cases e; exact ⟨_, HK.out, rfl⟩), fun k hk => by have := h3 k hk; omega, h5.trans tp (fun k hk => .inr (by omega))⟩⟩⟩
    · have h8 : x = q ∧ rest' = rest := by
        rw [h5] at hrest
        simp at hrest
        exact ⟨hrest.1.symm, hrest.2.symm⟩
      obtain ⟨rfl, rfl⟩ := h8
      refine ⟨_, told_ret (E := E) (tp.heap h4.m (by omega)) (tp.heap h4.s (by omega)) rfl rfl, .inl ⟨x, rest', h5, .inr ⟨hbig, rfl, ⟨s', v', h6.past tp (h6.at'.nocells HK.out rfl) (fun k hk => by omega), h7⟩⟩⟩⟩
set_option maxRecDepth 100000 in
set_option maxHeartbeats 4000000 in
theorem read_core0b {w : World} {c depth N : Nat} {S : Nat → Sd} {V : Nat → SV} (hC : CMem w c depth N S V) (hN : N ≤ 1000000) (b h : Int) (h0 : 0 ≤ h) (hbh : h < b) (ho : (S 0).op = true) :
    Calls Try.prog 37 #[.pointer (some ⟨c, 0, none⟩), .int .i64 0, .int .i64 b, .int .i64 h] w (RPost w c 1 (S 0) (V 0) (S 1).op b h) := by
  have HC := Lib.hid (fun W (t : Turn NoBlock w W) => hC.past t)
  have HO := Lib.hid ho
  have HN := Lib.hid hN
  clear hC ho hN
  refine (callsIn_wide (n := 6)).1 ?_
  refine callsIn_of_wp_marks (F := Fence.wide) Try.func37 rfl trivial ?_ rfl
  simp only [Try.ntmps37, List.size_toArray, List.length_cons, List.length_nil, Nat.reduceAdd, Nat.reduceSub, Array.replicate_succ, Array.replicate_zero, List.push_toArray, List.append_toArray, List.nil_append, List.cons_append]
  gi_wp2_with (first
    | (refine ⟨trivial, ?_⟩; gi_at_call 48; refine (callsIn_wide.2 (right_yes (e := 0) (HC.out _ (((((Turn.refl NoBlock w).alloc _).alloc _).alloc _).alloc _)) (by omega) HO.out)).mono ?_; rintro e w' ⟨rfl, rfl⟩)
    | (refine ⟨trivial, ?_⟩; gi_at_call 49; refine (callsIn_wide.2 (queue_any _ _)).mono ?_; rintro e w' ⟨rfl, rfl⟩))
  obtain ⟨E, hE⟩ : ∃ E, w.heap.size = E := ⟨_, rfl⟩
  obtain ⟨W0, hW0, hrb, hbx, hsz, hT⟩ := rb_new w b h c 1
  simp only [hE, Nat.add_assoc, Nat.reduceAdd]
  rw [hW0]
  rw [hE] at hrb hbx hsz
  have hCW := HC.out W0 hT
  have hS0 : SAt W0 c 1 (S 0) (V 0) := hCW.s 0 (by omega)
  have hQ0 : QSees (E + 5) c 1 (S 0) (V 0) W0 := ⟨hbx, hS0⟩
  have hln := hCW.len 0 (by omega)
  have hlim : (S 0).an.length ≤ 1000000000 ∧ (S 0).ot.length ≤ 1000000000 := by have := HN.out; omega
  have HLM := Lib.hid hlim
  clear hW0 hln hlim
  refine range2 (gf := 72) (lb := #[.pointer (some ⟨E + 5, 0, none⟩)]) rfl (enters_of Try.func72 (by kernel_rfl) rfl)
    (queue_gives (E + 5) c 1 (S 0) (V 0) HLM.out.1 HLM.out.2) (fun _ => rfl)
    (fun pre X => pre = [] ∧ QSees (E + 5) c 1 (S 0) (V 0) X ∧ Turn NoBlock w X ∧ RB X E b h c 1)
    (fun cc pre X => cc = .ret ∧ ∃ q, pre = [q] ∧ ROut w X E c 1 (S 0) (V 0) b h q) ?hI ?hIx (fun _ _ h => h.2.1) ⟨rfl, hQ0, hT, hrb⟩
    (fun x a' X => ∃ Bx, E + 6 ≤ Bx ∧ X.heap[Bx]? = some (.cells #[.int .i64 x.m.tx, x.vd, x.vh] 49 (0, 0)) ∧ a' = { tmps := #[.pointer (some ⟨c, 0, none⟩), .int .i64 0, .int .i64 b, .int .i64 h, undef, undef, .pointer (some ⟨E, 0, none⟩), .pointer (some ⟨E + 1, 0, none⟩), .pointer (some ⟨E + 2, 0, none⟩), .pointer (some ⟨E + 3, 0, none⟩), .int .i64 0, .pointer (some ⟨E + 4, 0, none⟩), .pointer (some ⟨Bx, 0, none⟩), .pointer (some ⟨c, 0, none⟩), .int .i64 0, .int .i64 0, .int .i64 0, .bool false, undef, undef, .int .i64 b, .int .i64 h, .int .i64 h, .bool (decide (h < 0)), undef, .pointer (some ⟨c, 0, none⟩), .int .i64 0, .pointer (some ⟨c, 0, none⟩), .pointer (some ⟨c, 1, none⟩), .pointer (some ⟨c, 1, none⟩), .pointer (some ⟨c, 1, none⟩), .func (.func 72) #[] #[.pointer (some ⟨E + 5, 0, none⟩)], x.agg, undef, undef, undef, undef, undef, undef, undef, undef, undef, undef, undef, undef, undef, undef, undef, undef, undef, undef, undef, undef, undef, undef, undef, undef, undef, undef, undef, undef], defers := [] } ∧ Shown x) ?hAx ?assign ?body ?done ?stop
  case hI =>
    rintro pre X Y row ⟨rfl, hq, ht, hr0⟩ hg hr
    exact ⟨rfl, hq.grown hQ0 hg (fun r e => (hr r e).1), ht.grown hg (fun r e => .inr (by have := (hr r e).1; omega)), hr0.kept (turn_of_grown hg) (fun k h1 h2 e => by have := (hr k e).1; omega)⟩
  case hIx =>
    rintro cc pre X Y row ⟨rfl, q, rfl, ho⟩ hg hr
    refine ⟨rfl, q, rfl, ?_⟩
    rcases ho with ⟨hbig, r, h1, h2, h3, h4, h5⟩ | ⟨hbig, h4, x, rest, h5, ⟨s', v', h6, h7⟩⟩
    · exact .inl ⟨hbig, r, h1, h2.nocell hg (fun r e => (hr r e).2), h3, h4.nocell hg (fun r e => (hr r e).2), h5.grown hg (fun r e => .inr (by have := (hr r e).1; omega))⟩
    · refine .inr ⟨hbig, h4.nocell hg (fun r e => (hr r e).2), x, rest, h5, ⟨s', v', h6.past (turn_of_grown hg) (fun k hk e => ?_) (fun k e => by have := (hr k e).1; omega), h7⟩⟩
      obtain ⟨o, ho, hi⟩ := (hr k e).2
      have hlt := h6.at'
      rcases hk with rfl | (hk | hk | hk) | ⟨q', hq', hk | hk⟩
      · obtain ⟨cur, hc⟩ := hlt.typ; rw [hc] at ho; cases ho; cases hi
      · obtain ⟨cur, hc⟩ := hlt.rowA.typed hk; rw [hc] at ho; cases ho; cases hi
      · obtain ⟨cur, hc⟩ := hlt.rowO.typed hk; rw [hc] at ho; cases ho; cases hi
      · obtain ⟨cur, hc⟩ := hlt.rowW.typed hk; rw [hc] at ho; cases ho; cases hi
      · obtain ⟨cur, hc⟩ := (hlt.ok q' hq').d.typed hk; rw [hc] at ho; cases ho; cases hi
      · obtain ⟨cur, hc⟩ := (hlt.ok q' hq').h.typed hk; rw [hc] at ho; cases ho; cases hi
  case hAx =>
    rintro x a' - X Y row ⟨Bx, hlt, hb, rfl, hsh⟩ hg hr
    exact ⟨Bx, hlt, heap_nocell hb hg (fun r e => (hr r e).2), rfl, hsh⟩
  case assign =>
    rintro l pre q X K ⟨rfl, hq, ht, hr0⟩ ⟨hmem, hlen⟩ hX hK
    obtain ⟨⟨p1, c1, hvd⟩, p2, c2, hvh⟩ := (hq.at'.ok q hmem).shown
    have HK := Lib.hid hK
    have HI := Lib.hid (And.intro hq (And.intro ht hr0))
    have HD := Lib.hid (And.intro hvd (And.intro hvh (And.intro hX hsz)))
    unfold QM.agg
    rw [hvd, hvh]
    clear hq ht hr0 hmem hlen hX hK hvd hvh hE hQ0 hS0 hT hrb hbx hsz hCW
    gi_wp2
    have ta : Turn NoBlock X (X.alloc (.cells #[.int .i64 q.m.tx, .slice p1 q.m.d.length c1, .slice p2 q.m.h.length c2] 49)) := (Turn.refl _ X).alloc _
    refine HK.out _ _ (KeepsAll.of_turn ta (fun _ h => h.elim)) ⟨by first | rfl | trivial, HI.out.1.kept ta (fun _ _ h => h), TT HI.out.2.1 ta, HI.out.2.2.kept ta (fun _ _ _ h => h)⟩ ⟨X.heap.size, ?_, ?_, ?_, ⟨p1, c1, HD.out.1⟩, p2, c2, HD.out.2.1⟩
    · have := HD.out.2.2; omega
    · rw [heap_alloc_new, HD.out.1, HD.out.2.1]
    · unfold QM.agg; rw [HD.out.1, HD.out.2.1]
  case body =>
    rintro l pre q a' X hX ⟨rfl, hq, ht, hr0⟩ ⟨Bx, hBx, hbx2, rfl, hsh⟩ ⟨hmem, -⟩
    obtain ⟨⟨p1, c1, hvd⟩, p2, c2, hvh⟩ := hsh
    have hok := hq.at'.ok q hmem
    have hfit := hok.fits
    obtain ⟨x, rest, hxr⟩ : ∃ x rest, (S 0).q = x :: rest := by
      cases h9 : (S 0).q with
      | nil =>
        have : q ∈ (S 0).q := by unfold Sd.q; simp; exact hmem
        rw [h9] at this
        simp at this
      | cons x rest => exact ⟨x, rest, rfl⟩
    have hltE : ∀ k, k = c ∨ SFt (S 0) (V 0) k → k < E := fun k hk => by rw [← hE]; exact ((HC.out w (Turn.refl _ _)).s 0 (by omega)).lt hk
    have e0 : X.cell? ⟨E, 0, none⟩ = some (.int .i64 b) := by rw [cell_at hr0.b0]; rfl
    have e1 : X.cell? ⟨E + 1, 0, none⟩ = some (.int .i64 h) := by rw [cell_at hr0.b1]; rfl
    have e4 : X.cell? ⟨E + 4, 0, none⟩ = some (.pointer (some ⟨c, 1, none⟩)) := by rw [cell_at hr0.b4]; rfl
    unfold QM.agg
    rw [hvd, hvh] at hbx2 ⊢
    obtain ⟨x0, x1, x2⟩ := box3 hbx2
    have HM := Lib.hid hmem
    have HQ := Lib.hid hq
    have HT := Lib.hid ht
    have HR := Lib.hid hr0
    have HXR := Lib.hid hxr
    have HLE := Lib.hid hltE
    have HE := Lib.hid (And.intro hE (And.intro hsz (And.intro hX hBx)))
    have HV := Lib.hid (And.intro hvd hvh)
    have HBX := Lib.hid hbx2
    have HF := Lib.hid hfit
    have hdl : (q.m.d.length : Int) ≤ 4096 := by have := hfit.1; omega
    have hhl : (q.m.h.length : Int) ≤ 64 := by have := hfit.2; omega
    clear hmem hq ht hr0 hxr hltE hE hsz hX hvd hvh hbx2 hfit hok hQ0 hS0 hT hrb hbx hCW hBx
    by_cases hbig : b < (q.m.d.length : Int) ∨ h < (q.m.h.length : Int)
    · have HBIG := Lib.hid hbig
      have hcase : b < (q.m.d.length : Int) ∨ (¬ b < (q.m.d.length : Int) ∧ h < (q.m.h.length : Int)) := by omega
      clear hbig
      rcases hcase with h8 | ⟨h8, h9⟩
      all_goals
        gi_wp2_with (refine ⟨trivial, rfl, ?_⟩; gi_at_call 66; refine (CallsIn.inRound l (callsIn_wide.2 (blank_any X q.m _ _ ⟨p1, c1, rfl⟩ ⟨p2, c2, rfl⟩ HF.out))).mono ?_; rintro e Y ⟨⟨rm, rvd, rvh⟩, hrm, rfl, hro, hrf, t2⟩; obtain ⟨p3, c3, h10⟩ := hro.d.sl; obtain ⟨p4, c4, h11⟩ := hro.h.sl; dsimp only at h10 h11 hrm; subst h10 h11; unfold QM.agg; have g2 := t2.heap HR.out.b2 (fun h => h); have g3 := t2.heap HR.out.b3 (fun h => h); obtain ⟨y0, y1, y2⟩ := box3 g2; have y3 : Y.cell? ⟨E + 3, 0, none⟩ = some (.int .i64 0) := (by rw [cell_at g3]; rfl); have z0 := free_at g2 0; have z1 := free_at g2 1; have z2 := free_at g2 2; have z3 := free_at g3 0; have G := Lib.hid (And.intro g2 (And.intro g3 (And.intro hrm (And.intro hro (And.intro hrf t2))))); clear g2 g3 hrm hro hrf t2)
        have q1 := told_new (tx := rm.tx) (st := -15) (vd := .slice p3 rm.d.length c3) (vh := .slice p4 rm.h.length c4) G.out.1 G.out.2.1
        have hEE := HE.out
        have hYs := G.out.2.2.2.2.2.size
        refine ⟨KeepsAll.trans (KeepsAll.of_turn G.out.2.2.2.2.2 (fun _ h => h.elim)) (KeepsAll.of_turn q1.2 (fun k hk => .inl (by omega))), rfl, q, rfl, .inl ⟨HBIG.out, ⟨rm, .slice p3 rm.d.length c3, .slice p4 rm.h.length c4⟩, G.out.2.2.1, ?_, fun k hk => ?_, ⟨q1.1.1, q1.1.2⟩, (TT HT.out G.out.2.2.2.2.2).trans q1.2 (fun k hk => .inr (by omega))⟩⟩
        · refine G.out.2.2.2.1.kept q1.2 (fun k hk hh => ?_)
          have := G.out.2.2.2.2.1 k hk
          omega
        · have := G.out.2.2.2.2.1 k hk
          omega
    · have HBIG := Lib.hid hbig
      have h8 : ¬ b < (q.m.d.length : Int) := by omega
      have h9 : ¬ h < (q.m.h.length : Int) := by omega
      clear hbig
      gi_wp2_with (refine ⟨trivial, rfl, ?_⟩; gi_at_call 67; refine (CallsIn.inRound l (callsIn_wide.2 (drop_any HQ.out.at' HXR.out HLM.out.1 HLM.out.2))).mono ?_; rintro e Y ⟨⟨u, rfl⟩, ⟨s', v', hst, hre⟩⟩; have t2 := hst.turn; have hn : ∀ k, E ≤ k → ¬ (k = c ∨ (V 0).F k) := (fun k hk hh => by have := HLE.out k (hh.imp id (fun h => .inl h)); omega); have g2 := t2.heap HR.out.b2 (hn _ (by omega)); have g3 := t2.heap HR.out.b3 (hn _ (by omega)); have gx := t2.heap HBX.out (hn _ (by have := HE.out; omega)); obtain ⟨w0, w1, w2⟩ := box3 gx; obtain ⟨y0, y1, y2⟩ := box3 g2; have y3 : Y.cell? ⟨E + 3, 0, none⟩ = some (.int .i64 0) := (by rw [cell_at g3]; rfl); have z0 := free_at g2 0; have z1 := free_at g2 1; have z2 := free_at g2 2; have z3 := free_at g3 0; have G := Lib.hid (And.intro g2 (And.intro g3 (And.intro hst hre))); clear g2 g3 gx hst hre t2 hn)
      have q1 := told_new (tx := q.m.tx) (st := 0) (vd := .slice p1 q.m.d.length c1) (vh := .slice p2 q.m.h.length c2) G.out.1 G.out.2.1
      have hEE := HE.out
      have hYs := G.out.2.2.1.turn.size
      refine ⟨KeepsAll.trans (KeepsAll.of_turn G.out.2.2.1.turn (fun k hk => .inl (by have := HLE.out k (hk.imp id (fun h => .inl h)); omega))) (KeepsAll.of_turn q1.2 (fun k hk => .inl (by omega))), rfl, q, rfl, .inr ⟨HBIG.out, ⟨?_, q1.1.2⟩, x, rest, HXR.out, ⟨s', v', ?_, G.out.2.2.2⟩⟩⟩
      · rw [HV.out.1, HV.out.2]; exact q1.1.1
      · refine (SStep.after HT.out (by have := HLE.out c (.inl rfl); omega) G.out.2.2.1).past q1.2 (fun k hk hh => ?_) (fun k hk => by omega)
        have hlt : k < E ∨ X.heap.size ≤ k := by
          rcases hk with rfl | (hk | hk | hk) | ⟨q', hq', hk⟩
          · exact .inl (HLE.out _ (.inl rfl))
          · rcases G.out.2.2.1.ba k hk with h | h
            · exact .inl (HLE.out k (.inr (.inl (.inl h))))
            · exact .inr h
          · rcases G.out.2.2.1.bo k hk with h | h
            · exact .inl (HLE.out k (.inr (.inl (.inr (.inl h)))))
            · exact .inr h
          · rcases G.out.2.2.1.bw k hk with h | h
            · exact .inl (HLE.out k (.inr (.inl (.inr (.inr h)))))
            · exact .inr h
          · rcases G.out.2.2.1.qs q' hq' with h | h
            · exact .inl (HLE.out k (.inr (.inr ⟨q', h, hk⟩)))
            · exact .inr (h k hk)
        omega
  case done =>
    rintro D xs X hD hS ⟨rfl, hq, ht, hr0⟩ hK
    have hf := (HC.out X ht).s 1 (by omega)
    have f0 := hf.c0
    have fl := hf.typ.lt
    have HS := Lib.hid hS
    have HK := Lib.hid hK
    have HI := Lib.hid (And.intro hD (And.intro hE (And.intro hsz (And.intro ht hr0))))
    have m2 := box3 hr0.b2
    obtain ⟨m0, m1, m2⟩ := m2
    have m3 : X.cell? ⟨E + 3, 0, none⟩ = some (.int .i64 0) := by rw [cell_at hr0.b3]; rfl
    have z0 := free_at hr0.b2 0
    have z1 := free_at hr0.b2 1
    have z2 := free_at hr0.b2 2
    have z3 := free_at hr0.b3 0
    have co : ∀ w, Calls Try.prog 52 #[.int .i64 0] w fun x w' => x = .returned (.int .i64 1) ∧ w = w' := fun w => other_any 0 (by omega) w
    simp only [plc, Nat.reduceMul, Nat.reduceAdd] at f0
    clear hS hK hf hD ht hr0 hq hQ0 hS0 hT hrb hbx hsz hCW hE
    cases hop : (S 1).op
    · skip
      rw [hop] at f0
      gi_wp2
      refine wpIn_wide.2 ?_
      go_region_held3 (fun w' => w'.cell? ⟨c, 5, none⟩ = some (.bool (S 1).op)) (first | exact f0 | (rw [hop]; exact f0)) (first | (go_at_call 52; (with_reducible refine (co _).mono ?_); rintro e w2 ⟨rfl, rfl⟩))
      gi_wp2
      have hEE := HI.out
      have q1 := told_new (tx := 0) (st := (-24)) (vd := .slice none 0 0) (vh := .slice none 0 0) HI.out.2.2.2.2.b2 HI.out.2.2.2.2.b3
      have hKD := q1.2.heap HK.out (by omega)
      have tp := turn_putObj (((((X.setCell ⟨E + 2, 0, none⟩ (.int .i64 0)).setCell ⟨E + 2, 1, none⟩ (.slice none 0 0)).setCell ⟨E + 2, 2, none⟩ (.slice none 0 0)).setCell ⟨E + 3, 0, none⟩ (.int .i64 (-24))).drew) D (.deferred none)
      refine ⟨by simp, .inl ⟨_, _, rfl, run_takeDeferred hKD, ?_⟩⟩
      refine ⟨_, told_ret (E := E) (tp.heap q1.1.1 (by omega)) (tp.heap q1.1.2 (by omega)) rfl rfl, .inr ⟨HS.out.symm, by rw [hop]; rfl, ?_⟩⟩
      exact ((HI.out.2.2.2.1.trans q1.2 (fun k hk => .inr (by omega))).drew).trans tp (fun k hk => .inr (by omega))
    · skip
      rw [hop] at f0
      gi_wp2
      refine wpIn_wide.2 ?_
      go_region_held3 (fun w' => w'.cell? ⟨c, 5, none⟩ = some (.bool (S 1).op)) (first | exact f0 | (rw [hop]; exact f0)) (first | (go_at_call 52; (with_reducible refine (co _).mono ?_); rintro e w2 ⟨rfl, rfl⟩))
      gi_wp2
      have hEE := HI.out
      have q1 := told_new (tx := 0) (st := (-22)) (vd := .slice none 0 0) (vh := .slice none 0 0) HI.out.2.2.2.2.b2 HI.out.2.2.2.2.b3
      have hKD := q1.2.heap HK.out (by omega)
      have tp := turn_putObj (((((X.setCell ⟨E + 2, 0, none⟩ (.int .i64 0)).setCell ⟨E + 2, 1, none⟩ (.slice none 0 0)).setCell ⟨E + 2, 2, none⟩ (.slice none 0 0)).setCell ⟨E + 3, 0, none⟩ (.int .i64 (-22))).drew) D (.deferred none)
      refine ⟨by simp, .inl ⟨_, _, rfl, run_takeDeferred hKD, ?_⟩⟩
      refine ⟨_, told_ret (E := E) (tp.heap q1.1.1 (by omega)) (tp.heap q1.1.2 (by omega)) rfl rfl, .inr ⟨HS.out.symm, by rw [hop]; rfl, ?_⟩⟩
      exact ((HI.out.2.2.2.1.trans q1.2 (fun k hk => .inr (by omega))).drew).trans tp (fun k hk => .inr (by omega))
  case stop =>
    rintro D cc pre X hD hSp ⟨rfl, q, rfl, ho⟩ hK
    have HO := Lib.hid ho
    have HK := Lib.hid hK
    have HI := Lib.hid (And.intro hSp (And.intro hD (And.intro hE hsz)))
    clear hSp hK ho hD hQ0 hS0 hT hrb hbx hsz hCW hE
    gi_wp2
    have hEE := HI.out.2
    obtain ⟨rest, hrest⟩ := HI.out.1
    have tp := turn_putObj X D (.deferred none)
    refine ⟨by simp, .inl ⟨_, _, rfl, run_takeDeferred HK.out, ?_⟩⟩
    rcases HO.out with ⟨hbig, r, h1, h2, h3, h4, h5⟩ | ⟨hbig, h4, x, rest', h5, ⟨s', v', h6, h7⟩⟩
    · refine ⟨_, told_ret (E := E) (tp.heap h4.m (by omega)) (tp.heap h4.s (by omega)) rfl rfl, .inl ⟨q, rest, hrest.symm, .inl ⟨hbig, r, h1, rfl, h2.nocell (grownBy_putObj' X D _) (fun r e => by cases e; exact ⟨_, HK.out, rfl⟩), fun k hk => by have := h3 k hk; omega, h5.trans tp (fun k hk => .inr (by omega))⟩⟩⟩
    · have h8 : x = q ∧ rest' = rest := by
        rw [h5] at hrest
        simp at hrest
        exact ⟨hrest.1.symm, hrest.2.symm⟩
      obtain ⟨rfl, rfl⟩ := h8
      refine ⟨_, told_ret (E := E) (tp.heap h4.m (by omega)) (tp.heap h4.s (by omega)) rfl rfl, .inl ⟨x, rest', h5, .inr ⟨hbig, rfl, ⟨s', v', h6.past tp (h6.at'.nocells HK.out rfl) (fun k hk => by omega), h7⟩⟩⟩⟩
set_option maxRecDepth 100000 in
set_option maxHeartbeats 4000000 in
theorem read_core1a {w : World} {c depth N : Nat} {S : Nat → Sd} {V : Nat → SV} (hC : CMem w c depth N S V) (hN : N ≤ 1000000) (b h : Int) (h0 : 0 ≤ b) (hbh : b ≤ h) (ho : (S 1).op = true) :
    Calls Try.prog 37 #[.pointer (some ⟨c, 0, none⟩), .int .i64 1, .int .i64 b, .int .i64 h] w (RPost w c 5 (S 1) (V 1) (S 0).op b h) := by
  have HC := Lib.hid (fun W (t : Turn NoBlock w W) => hC.past t)
  have HO := Lib.hid ho
  have HN := Lib.hid hN
  clear hC ho hN
  refine (callsIn_wide (n := 6)).1 ?_
  refine callsIn_of_wp_marks (F := Fence.wide) Try.func37 rfl trivial ?_ rfl
  simp only [Try.ntmps37, List.size_toArray, List.length_cons, List.length_nil, Nat.reduceAdd, Nat.reduceSub, Array.replicate_succ, Array.replicate_zero, List.push_toArray, List.append_toArray, List.nil_append, List.cons_append]
  gi_wp2_with (first
    | (refine ⟨trivial, ?_⟩; gi_at_call 48; refine (callsIn_wide.2 (right_yes (e := 1) (HC.out _ (((((Turn.refl NoBlock w).alloc _).alloc _).alloc _).alloc _)) (by omega) HO.out)).mono ?_; rintro e w' ⟨rfl, rfl⟩)
    | (refine ⟨trivial, ?_⟩; gi_at_call 49; refine (callsIn_wide.2 (queue_any _ _)).mono ?_; rintro e w' ⟨rfl, rfl⟩))
  obtain ⟨E, hE⟩ : ∃ E, w.heap.size = E := ⟨_, rfl⟩
  obtain ⟨W0, hW0, hrb, hbx, hsz, hT⟩ := rb_new w b h c 5
  simp only [hE, Nat.add_assoc, Nat.reduceAdd]
  rw [hW0]
  rw [hE] at hrb hbx hsz
  have hCW := HC.out W0 hT
  have hS0 : SAt W0 c 5 (S 1) (V 1) := hCW.s 1 (by omega)
  have hQ0 : QSees (E + 5) c 5 (S 1) (V 1) W0 := ⟨hbx, hS0⟩
  have hln := hCW.len 1 (by omega)
  have hlim : (S 1).an.length ≤ 1000000000 ∧ (S 1).ot.length ≤ 1000000000 := by have := HN.out; omega
  have HLM := Lib.hid hlim
  clear hW0 hln hlim
  refine range2 (gf := 72) (lb := #[.pointer (some ⟨E + 5, 0, none⟩)]) rfl (enters_of Try.func72 (by kernel_rfl) rfl)
    (queue_gives (E + 5) c 5 (S 1) (V 1) HLM.out.1 HLM.out.2) (fun _ => rfl)
    (fun pre X => pre = [] ∧ QSees (E + 5) c 5 (S 1) (V 1) X ∧ Turn NoBlock w X ∧ RB X E b h c 5)
    (fun cc pre X => cc = .ret ∧ ∃ q, pre = [q] ∧ ROut w X E c 5 (S 1) (V 1) b h q) ?hI ?hIx (fun _ _ h => h.2.1) ⟨rfl, hQ0, hT, hrb⟩
    (fun x a' X => ∃ Bx, E + 6 ≤ Bx ∧ X.heap[Bx]? = some (.cells #[.int .i64 x.m.tx, x.vd, x.vh] 49 (0, 0)) ∧ a' = { tmps := #[.pointer (some ⟨c, 0, none⟩), .int .i64 1, .int .i64 b, .int .i64 h, undef, undef, .pointer (some ⟨E, 0, none⟩), .pointer (some ⟨E + 1, 0, none⟩), .pointer (some ⟨E + 2, 0, none⟩), .pointer (some ⟨E + 3, 0, none⟩), .int .i64 0, .pointer (some ⟨E + 4, 0, none⟩), .pointer (some ⟨Bx, 0, none⟩), .pointer (some ⟨c, 0, none⟩), .int .i64 1, .int .i64 0, .int .i64 0, .bool false, undef, undef, .int .i64 b, .int .i64 h, .int .i64 b, .bool (decide (b < 0)), undef, .pointer (some ⟨c, 0, none⟩), .int .i64 1, .pointer (some ⟨c, 0, none⟩), .pointer (some ⟨c, 1, none⟩), .pointer (some ⟨c, 5, none⟩), .pointer (some ⟨c, 5, none⟩), .func (.func 72) #[] #[.pointer (some ⟨E + 5, 0, none⟩)], x.agg, undef, undef, undef, undef, undef, undef, undef, undef, undef, undef, undef, undef, undef, undef, undef, undef, undef, undef, undef, undef, undef, undef, undef, undef, undef, undef, undef, undef], defers := [] } ∧ Shown x) ?hAx ?assign ?body ?done ?stop
  case hI =>
    rintro pre X Y row ⟨rfl, hq, ht, hr0⟩ hg hr
    exact ⟨rfl, hq.grown hQ0 hg (fun r e => (hr r e).1), ht.grown hg (fun r e => .inr (by have := (hr r e).1; omega)), hr0.kept (turn_of_grown hg) (fun k h1 h2 e => by have := (hr k e).1; omega)⟩
  case hIx =>
    rintro cc pre X Y row ⟨rfl, q, rfl, ho⟩ hg hr
    refine ⟨rfl, q, rfl, ?_⟩
    rcases ho with ⟨hbig, r, h1, h2, h3, h4, h5⟩ | ⟨hbig, h4, x, rest, h5, ⟨s', v', h6, h7⟩⟩
    · exact .inl ⟨hbig, r, h1, h2.nocell hg (fun r e => (hr r e).2), h3, h4.nocell hg (fun r e => (hr r e).2), h5.grown hg (fun r e => .inr (by have := (hr r e).1; omega))⟩
    · refine .inr ⟨hbig, h4.nocell hg (fun r e => (hr r e).2), x, rest, h5, ⟨s', v', h6.past (turn_of_grown hg) (fun k hk e => ?_) (fun k e => by have := (hr k e).1; omega), h7⟩⟩
      obtain ⟨o, ho, hi⟩ := (hr k e).2
      have hlt := h6.at'
      rcases hk with rfl | (hk | hk | hk) | ⟨q', hq', hk | hk⟩
      · obtain ⟨cur, hc⟩ := hlt.typ; rw [hc] at ho; cases ho; cases hi
      · obtain ⟨cur, hc⟩ := hlt.rowA.typed hk; rw [hc] at ho; cases ho; cases hi
      · obtain ⟨cur, hc⟩ := hlt.rowO.typed hk; rw [hc] at ho; cases ho; cases hi
      · obtain ⟨cur, hc⟩ := hlt.rowW.typed hk; rw [hc] at ho; cases ho; cases hi
      · obtain ⟨cur, hc⟩ := (hlt.ok q' hq').d.typed hk; rw [hc] at ho; cases ho; cases hi
      · obtain ⟨cur, hc⟩ := (hlt.ok q' hq').h.typed hk; rw [hc] at ho; cases ho; cases hi
  case hAx =>
    rintro x a' - X Y row ⟨Bx, hlt, hb, rfl, hsh⟩ hg hr
    exact ⟨Bx, hlt, heap_nocell hb hg (fun r e => (hr r e).2), rfl, hsh⟩
  case assign =>
    rintro l pre q X K ⟨rfl, hq, ht, hr0⟩ ⟨hmem, hlen⟩ hX hK
    obtain ⟨⟨p1, c1, hvd⟩, p2, c2, hvh⟩ := (hq.at'.ok q hmem).shown
    have HK := Lib.hid hK
    have HI := Lib.hid (And.intro hq (And.intro ht hr0))
    have HD := Lib.hid (And.intro hvd (And.intro hvh (And.intro hX hsz)))
    unfold QM.agg
    rw [hvd, hvh]
    clear hq ht hr0 hmem hlen hX hK hvd hvh hE hQ0 hS0 hT hrb hbx hsz hCW
    gi_wp2
    have ta : Turn NoBlock X (X.alloc (.cells #[.int .i64 q.m.tx, .slice p1 q.m.d.length c1, .slice p2 q.m.h.length c2] 49)) := (Turn.refl _ X).alloc _
    refine HK.out _ _ (KeepsAll.of_turn ta (fun _ h => h.elim)) ⟨by first | rfl | trivial, HI.out.1.kept ta (fun _ _ h => h), TT HI.out.2.1 ta, HI.out.2.2.kept ta (fun _ _ _ h => h)⟩ ⟨X.heap.size, ?_, ?_, ?_, ⟨p1, c1, HD.out.1⟩, p2, c2, HD.out.2.1⟩
    · have := HD.out.2.2; omega
    · rw [heap_alloc_new, HD.out.1, HD.out.2.1]
    · unfold QM.agg; rw [HD.out.1, HD.out.2.1]
  case body =>
    rintro l pre q a' X hX ⟨rfl, hq, ht, hr0⟩ ⟨Bx, hBx, hbx2, rfl, hsh⟩ ⟨hmem, -⟩
    obtain ⟨⟨p1, c1, hvd⟩, p2, c2, hvh⟩ := hsh
    have hok := hq.at'.ok q hmem
    have hfit := hok.fits
    obtain ⟨x, rest, hxr⟩ : ∃ x rest, (S 1).q = x :: rest := by
      cases h9 : (S 1).q with
      | nil =>
        have : q ∈ (S 1).q := by unfold Sd.q; simp; exact hmem
        rw [h9] at this
        simp at this
      | cons x rest => exact ⟨x, rest, rfl⟩
    have hltE : ∀ k, k = c ∨ SFt (S 1) (V 1) k → k < E := fun k hk => by rw [← hE]; exact ((HC.out w (Turn.refl _ _)).s 1 (by omega)).lt hk
    have e0 : X.cell? ⟨E, 0, none⟩ = some (.int .i64 b) := by rw [cell_at hr0.b0]; rfl
    have e1 : X.cell? ⟨E + 1, 0, none⟩ = some (.int .i64 h) := by rw [cell_at hr0.b1]; rfl
    have e4 : X.cell? ⟨E + 4, 0, none⟩ = some (.pointer (some ⟨c, 5, none⟩)) := by rw [cell_at hr0.b4]; rfl
    unfold QM.agg
    rw [hvd, hvh] at hbx2 ⊢
    obtain ⟨x0, x1, x2⟩ := box3 hbx2
    have HM := Lib.hid hmem
    have HQ := Lib.hid hq
    have HT := Lib.hid ht
    have HR := Lib.hid hr0
    have HXR := Lib.hid hxr
    have HLE := Lib.hid hltE
    have HE := Lib.hid (And.intro hE (And.intro hsz (And.intro hX hBx)))
    have HV := Lib.hid (And.intro hvd hvh)
    have HBX := Lib.hid hbx2
    have HF := Lib.hid hfit
    have hdl : (q.m.d.length : Int) ≤ 4096 := by have := hfit.1; omega
    have hhl : (q.m.h.length : Int) ≤ 64 := by have := hfit.2; omega
    clear hmem hq ht hr0 hxr hltE hE hsz hX hvd hvh hbx2 hfit hok hQ0 hS0 hT hrb hbx hCW hBx
    by_cases hbig : b < (q.m.d.length : Int) ∨ h < (q.m.h.length : Int)
    · have HBIG := Lib.hid hbig
      have hcase : b < (q.m.d.length : Int) ∨ (¬ b < (q.m.d.length : Int) ∧ h < (q.m.h.length : Int)) := by omega
      clear hbig
      rcases hcase with h8 | ⟨h8, h9⟩
      all_goals
        gi_wp2_with (refine ⟨trivial, rfl, ?_⟩; gi_at_call 66; refine (CallsIn.inRound l (callsIn_wide.2 (blank_any X q.m _ _ ⟨p1, c1, rfl⟩ ⟨p2, c2, rfl⟩ HF.out))).mono ?_; rintro e Y ⟨⟨rm, rvd, rvh⟩, hrm, rfl, hro, hrf, t2⟩; obtain ⟨p3, c3, h10⟩ := hro.d.sl; obtain ⟨p4, c4, h11⟩ := hro.h.sl; dsimp only at h10 h11 hrm; subst h10 h11; unfold QM.agg; have g2 := t2.heap HR.out.b2 (fun h => h); have g3 := t2.heap HR.out.b3 (fun h => h); obtain ⟨y0, y1, y2⟩ := box3 g2; have y3 : Y.cell? ⟨E + 3, 0, none⟩ = some (.int .i64 0) := (by rw [cell_at g3]; rfl); have z0 := free_at g2 0; have z1 := free_at g2 1; have z2 := free_at g2 2; have z3 := free_at g3 0; have G := Lib.hid (And.intro g2 (And.intro g3 (And.intro hrm (And.intro hro (And.intro hrf t2))))); clear g2 g3 hrm hro hrf t2)
        have q1 := told_new (tx := rm.tx) (st := -15) (vd := .slice p3 rm.d.length c3) (vh := .slice p4 rm.h.length c4) G.out.1 G.out.2.1
        have hEE := HE.out
        have hYs := G.out.2.2.2.2.2.size
        refine ⟨KeepsAll.trans (KeepsAll.of_turn G.out.2.2.2.2.2 (fun _ h => h.elim)) (KeepsAll.of_turn q1.2 (fun k hk => .inl (by omega))), rfl, q, rfl, .inl ⟨HBIG.out, ⟨rm, .slice p3 rm.d.length c3, .slice p4 rm.h.length c4⟩, G.out.2.2.1, ?_, fun k hk => ?_, ⟨q1.1.1, q1.1.2⟩, (TT HT.out G.out.2.2.2.2.2).trans q1.2 (fun k hk => .inr (by omega))⟩⟩
        · refine G.out.2.2.2.1.kept q1.2 (fun k hk hh => ?_)
          have := G.out.2.2.2.2.1 k hk
          omega
        · have := G.out.2.2.2.2.1 k hk
          omega
    · have HBIG := Lib.hid hbig
      have h8 : ¬ b < (q.m.d.length : Int) := by omega
      have h9 : ¬ h < (q.m.h.length : Int) := by omega
      clear hbig
      gi_wp2_with (refine ⟨trivial, rfl, ?_⟩; gi_at_call 67; refine (CallsIn.inRound l (callsIn_wide.2 (drop_any HQ.out.at' HXR.out HLM.out.1 HLM.out.2))).mono ?_; rintro e Y ⟨⟨u, rfl⟩, ⟨s', v', hst, hre⟩⟩; have t2 := hst.turn; have hn : ∀ k, E ≤ k → ¬ (k = c ∨ (V 1).F k) := (fun k hk hh => by have := HLE.out k (hh.imp id (fun h => .inl h)); omega); have g2 := t2.heap HR.out.b2 (hn _ (by omega)); have g3 := t2.heap HR.out.b3 (hn _ (by omega)); have gx := t2.heap HBX.out (hn _ (by have := HE.out; omega)); obtain ⟨w0, w1, w2⟩ := box3 gx; obtain ⟨y0, y1, y2⟩ := box3 g2; have y3 : Y.cell? ⟨E + 3, 0, none⟩ = some (.int .i64 0) := (by rw [cell_at g3]; rfl); have z0 := free_at g2 0; have z1 := free_at g2 1; have z2 := free_at g2 2; have z3 := free_at g3 0; have G := Lib.hid (And.intro g2 (And.intro g3 (And.intro hst hre))); clear g2 g3 gx hst hre t2 hn)
      have q1 := told_new (tx := q.m.tx) (st := 0) (vd := .slice p1 q.m.d.length c1) (vh := .slice p2 q.m.h.length c2) G.out.1 G.out.2.1
      have hEE := HE.out
      have hYs := G.out.2.2.1.turn.size
      refine ⟨KeepsAll.trans (KeepsAll.of_turn G.out.2.2.1.turn (fun k hk => .inl (by have := HLE.out k (hk.imp id (fun h => .inl h)); omega))) (KeepsAll.of_turn q1.2 (fun k hk => .inl (by omega))), rfl, q, rfl, .inr ⟨HBIG.out, ⟨?_, q1.1.2⟩, x, rest, HXR.out, ⟨s', v', ?_, G.out.2.2.2⟩⟩⟩
      · rw [HV.out.1, HV.out.2]; exact q1.1.1
      · refine (SStep.after HT.out (by have := HLE.out c (.inl rfl); omega) G.out.2.2.1).past q1.2 (fun k hk hh => ?_) (fun k hk => by omega)
        have hlt : k < E ∨ X.heap.size ≤ k := by
          rcases hk with rfl | (hk | hk | hk) | ⟨q', hq', hk⟩
          · exact .inl (HLE.out _ (.inl rfl))
          · rcases G.out.2.2.1.ba k hk with h | h
            · exact .inl (HLE.out k (.inr (.inl (.inl h))))
            · exact .inr h
          · rcases G.out.2.2.1.bo k hk with h | h
            · exact .inl (HLE.out k (.inr (.inl (.inr (.inl h)))))
            · exact .inr h
          · rcases G.out.2.2.1.bw k hk with h | h
            · exact .inl (HLE.out k (.inr (.inl (.inr (.inr h)))))
            · exact .inr h
          · rcases G.out.2.2.1.qs q' hq' with h | h
            · exact .inl (HLE.out k (.inr (.inr ⟨q', h, hk⟩)))
            · exact .inr (h k hk)
        omega
  case done =>
    rintro D xs X hD hS ⟨rfl, hq, ht, hr0⟩ hK
    have hf := (HC.out X ht).s 0 (by omega)
    have f0 := hf.c0
    have fl := hf.typ.lt
    have HS := Lib.hid hS
    have HK := Lib.hid hK
    have HI := Lib.hid (And.intro hD (And.intro hE (And.intro hsz (And.intro ht hr0))))
    have m2 := box3 hr0.b2
    obtain ⟨m0, m1, m2⟩ := m2
    have m3 : X.cell? ⟨E + 3, 0, none⟩ = some (.int .i64 0) := by rw [cell_at hr0.b3]; rfl
    have z0 := free_at hr0.b2 0
    have z1 := free_at hr0.b2 1
    have z2 := free_at hr0.b2 2
    have z3 := free_at hr0.b3 0
    have co : ∀ w, Calls Try.prog 52 #[.int .i64 1] w fun x w' => x = .returned (.int .i64 0) ∧ w = w' := fun w => other_any 1 (by omega) w
    simp only [plc, Nat.reduceMul, Nat.reduceAdd] at f0
    clear hS hK hf hD ht hr0 hq hQ0 hS0 hT hrb hbx hsz hCW hE
    cases hop : (S 0).op
    · skip
      rw [hop] at f0
      gi_wp2
      refine wpIn_wide.2 ?_
      go_region_held3 (fun w' => w'.cell? ⟨c, 1, none⟩ = some (.bool (S 0).op)) (first | exact f0 | (rw [hop]; exact f0)) (first | (go_at_call 52; (with_reducible refine (co _).mono ?_); rintro e w2 ⟨rfl, rfl⟩))
      gi_wp2
      have hEE := HI.out
      have q1 := told_new (tx := 0) (st := (-24)) (vd := .slice none 0 0) (vh := .slice none 0 0) HI.out.2.2.2.2.b2 HI.out.2.2.2.2.b3
      have hKD := q1.2.heap HK.out (by omega)
      have tp := turn_putObj (((((X.setCell ⟨E + 2, 0, none⟩ (.int .i64 0)).setCell ⟨E + 2, 1, none⟩ (.slice none 0 0)).setCell ⟨E + 2, 2, none⟩ (.slice none 0 0)).setCell ⟨E + 3, 0, none⟩ (.int .i64 (-24))).drew) D (.deferred none)
      refine ⟨by simp, .inl ⟨_, _, rfl, run_takeDeferred hKD, ?_⟩⟩
      refine ⟨_, told_ret (E := E) (tp.heap q1.1.1 (by omega)) (tp.heap q1.1.2 (by omega)) rfl rfl, .inr ⟨HS.out.symm, by rw [hop]; rfl, ?_⟩⟩
      exact ((HI.out.2.2.2.1.trans q1.2 (fun k hk => .inr (by omega))).drew).trans tp (fun k hk => .inr (by omega))
    · skip
      rw [hop] at f0
      gi_wp2
      refine wpIn_wide.2 ?_
      go_region_held3 (fun w' => w'.cell? ⟨c, 1, none⟩ = some (.bool (S 0).op)) (first | exact f0 | (rw [hop]; exact f0)) (first | (go_at_call 52; (with_reducible refine (co _).mono ?_); rintro e w2 ⟨rfl, rfl⟩))
      gi_wp2
      have hEE := HI.out
      have q1 := told_new (tx := 0) (st := (-22)) (vd := .slice none 0 0) (vh := .slice none 0 0) HI.out.2.2.2.2.b2 HI.out.2.2.2.2.b3
      have hKD := q1.2.heap HK.out (by omega)
      have tp := turn_putObj (((((X.setCell ⟨E + 2, 0, none⟩ (.int .i64 0)).setCell ⟨E + 2, 1, none⟩ (.slice none 0 0)).setCell ⟨E + 2, 2, none⟩ (.slice none 0 0)).setCell ⟨E + 3, 0, none⟩ (.int .i64 (-22))).drew) D (.deferred none)
      refine ⟨by simp, .inl ⟨_, _, rfl, run_takeDeferred hKD, ?_⟩⟩
      refine ⟨_, told_ret (E := E) (tp.heap q1.1.1 (by omega)) (tp.heap q1.1.2 (by omega)) rfl rfl, .inr ⟨HS.out.symm, by rw [hop]; rfl, ?_⟩⟩
      exact ((HI.out.2.2.2.1.trans q1.2 (fun k hk => .inr (by omega))).drew).trans tp (fun k hk => .inr (by omega))
  case stop =>
    rintro D cc pre X hD hSp ⟨rfl, q, rfl, ho⟩ hK
    have HO := Lib.hid ho
    have HK := Lib.hid hK
    have HI := Lib.hid (And.intro hSp (And.intro hD (And.intro hE hsz)))
    clear hSp hK ho hD hQ0 hS0 hT hrb hbx hsz hCW hE
    gi_wp2
    have hEE := HI.out.2
    obtain ⟨rest, hrest⟩ := HI.out.1
    have tp := turn_putObj X D (.deferred none)
    refine ⟨by simp, .inl ⟨_, _, rfl, run_takeDeferred HK.out, ?_⟩⟩
    rcases HO.out with ⟨hbig, r, h1, h2, h3, h4, h5⟩ | ⟨hbig, h4, x, rest', h5, ⟨s', v', h6, h7⟩⟩
    · refine ⟨_, told_ret (E := E) (tp.heap h4.m (by omega)) (tp.heap h4.s (by omega)) rfl rfl, .inl ⟨q, rest, hrest.symm, .inl ⟨hbig, r, h1, rfl, h2.nocell (grownBy_putObj' X D _) (fun r e => by cases e; exact ⟨_, HK.out, rfl⟩), fun k hk => by have := h3 k hk; omega, h5.trans tp (fun k hk => .inr (by omega))⟩⟩⟩
    · have h8 : x = q ∧ rest' = rest := by
        rw [h5] at hrest
        simp at hrest
        exact ⟨hrest.1.symm, hrest.2.symm⟩
      obtain ⟨rfl, rfl⟩ := h8
      refine ⟨_, told_ret (E := E) (tp.heap h4.m (by omega)) (tp.heap h4.s (by omega)) rfl rfl, .inl ⟨x, rest', h5, .inr ⟨hbig, rfl, ⟨s', v', h6.past tp (h6.at'.nocells HK.out rfl) (fun k hk => by omega), h7⟩⟩⟩⟩
set_option maxRecDepth 100000 in
set_option maxHeartbeats 4000000 in
theorem read_core1b {w : World} {c depth N : Nat} {S : Nat → Sd} {V : Nat → SV} (hC : CMem w c depth N S V) (hN : N ≤ 1000000) (b h : Int) (h0 : 0 ≤ h) (hbh : h < b) (ho : (S 1).op = true) :
    Calls Try.prog 37 #[.pointer (some ⟨c, 0, none⟩), .int .i64 1, .int .i64 b, .int .i64 h] w (RPost w c 5 (S 1) (V 1) (S 0).op b h) := by
  have HC := Lib.hid (fun W (t : Turn NoBlock w W) => hC.past t)
  have HO := Lib.hid ho
  have HN := Lib.hid hN
  clear hC ho hN
  refine (callsIn_wide (n := 6)).1 ?_
  refine callsIn_of_wp_marks (F := Fence.wide) Try.func37 rfl trivial ?_ rfl
  simp only [Try.ntmps37, List.size_toArray, List.length_cons, List.length_nil, Nat.reduceAdd, Nat.reduceSub, Array.replicate_succ, Array.replicate_zero, List.push_toArray, List.append_toArray, List.nil_append, List.cons_append]
  gi_wp2_with (first
    | (refine ⟨trivial, ?_⟩; gi_at_call 48; refine (callsIn_wide.2 (right_yes (e := 1) (HC.out _ (((((Turn.refl NoBlock w).alloc _).alloc _).alloc _).alloc _)) (by omega) HO.out)).mono ?_; rintro e w' ⟨rfl, rfl⟩)
    | (refine ⟨trivial, ?_⟩; gi_at_call 49; refine (callsIn_wide.2 (queue_any _ _)).mono ?_; rintro e w' ⟨rfl, rfl⟩))
  obtain ⟨E, hE⟩ : ∃ E, w.heap.size = E := ⟨_, rfl⟩
  obtain ⟨W0, hW0, hrb, hbx, hsz, hT⟩ := rb_new w b h c 5
  simp only [hE, Nat.add_assoc, Nat.reduceAdd]
  rw [hW0]
  rw [hE] at hrb hbx hsz
  have hCW := HC.out W0 hT
  have hS0 : SAt W0 c 5 (S 1) (V 1) := hCW.s 1 (by omega)
  have hQ0 : QSees (E + 5) c 5 (S 1) (V 1) W0 := ⟨hbx, hS0⟩
  have hln := hCW.len 1 (by omega)
  have hlim : (S 1).an.length ≤ 1000000000 ∧ (S 1).ot.length ≤ 1000000000 := by have := HN.out; omega
  have HLM := Lib.hid hlim
  clear hW0 hln hlim
  refine range2 (gf := 72) (lb := #[.pointer (some ⟨E + 5, 0, none⟩)]) rfl (enters_of Try.func72 (by kernel_rfl) rfl)
    (queue_gives (E + 5) c 5 (S 1) (V 1) HLM.out.1 HLM.out.2) (fun _ => rfl)
    (fun pre X => pre = [] ∧ QSees (E + 5) c 5 (S 1) (V 1) X ∧ Turn NoBlock w X ∧ RB X E b h c 5)
    (fun cc pre X => cc = .ret ∧ ∃ q, pre = [q] ∧ ROut w X E c 5 (S 1) (V 1) b h q) ?hI ?hIx (fun _ _ h => h.2.1) ⟨rfl, hQ0, hT, hrb⟩
    (fun x a' X => ∃ Bx, E + 6 ≤ Bx ∧ X.heap[Bx]? = some (.cells #[.int .i64 x.m.tx, x.vd, x.vh] 49 (0, 0)) ∧ a' = { tmps := #[.pointer (some ⟨c, 0, none⟩), .int .i64 1, .int .i64 b, .int .i64 h, undef, undef, .pointer (some ⟨E, 0, none⟩), .pointer (some ⟨E + 1, 0, none⟩), .pointer (some ⟨E + 2, 0, none⟩), .pointer (some ⟨E + 3, 0, none⟩), .int .i64 0, .pointer (some ⟨E + 4, 0, none⟩), .pointer (some ⟨Bx, 0, none⟩), .pointer (some ⟨c, 0, none⟩), .int .i64 1, .int .i64 0, .int .i64 0, .bool false, undef, undef, .int .i64 b, .int .i64 h, .int .i64 h, .bool (decide (h < 0)), undef, .pointer (some ⟨c, 0, none⟩), .int .i64 1, .pointer (some ⟨c, 0, none⟩), .pointer (some ⟨c, 1, none⟩), .pointer (some ⟨c, 5, none⟩), .pointer (some ⟨c, 5, none⟩), .func (.func 72) #[] #[.pointer (some ⟨E + 5, 0, none⟩)], x.agg, undef, undef, undef, undef, undef, undef, undef, undef, undef, undef, undef, undef, undef, undef, undef, undef, undef, undef, undef, undef, undef, undef, undef, undef, undef, undef, undef, undef], defers := [] } ∧ Shown x) ?hAx ?assign ?body ?done ?stop
  case hI =>
    rintro pre X Y row ⟨rfl, hq, ht, hr0⟩ hg hr
    exact ⟨rfl, hq.grown hQ0 hg (fun r e => (hr r e).1), ht.grown hg (fun r e => .inr (by have := (hr r e).1; omega)), hr0.kept (turn_of_grown hg) (fun k h1 h2 e => by have := (hr k e).1; omega)⟩
  case hIx =>
    rintro cc pre X Y row ⟨rfl, q, rfl, ho⟩ hg hr
    refine ⟨rfl, q, rfl, ?_⟩
    rcases ho with ⟨hbig, r, h1, h2, h3, h4, h5⟩ | ⟨hbig, h4, x, rest, h5, ⟨s', v', h6, h7⟩⟩
    · exact .inl ⟨hbig, r, h1, h2.nocell hg (fun r e => (hr r e).2), h3, h4.nocell hg (fun r e => (hr r e).2), h5.grown hg (fun r e => .inr (by have := (hr r e).1; omega))⟩
    · refine .inr ⟨hbig, h4.nocell hg (fun r e => (hr r e).2), x, rest, h5, ⟨s', v', h6.past (turn_of_grown hg) (fun k hk e => ?_) (fun k e => by have := (hr k e).1; omega), h7⟩⟩
      obtain ⟨o, ho, hi⟩ := (hr k e).2
      have hlt := h6.at'
      rcases hk with rfl | (hk | hk | hk) | ⟨q', hq', hk | hk⟩
      · obtain ⟨cur, hc⟩ := hlt.typ; rw [hc] at ho; cases ho; cases hi
      · obtain ⟨cur, hc⟩ := hlt.rowA.typed hk; rw [hc] at ho; cases ho; cases hi
      · obtain ⟨cur, hc⟩ := hlt.rowO.typed hk; rw [hc] at ho; cases ho; cases hi
      · obtain ⟨cur, hc⟩ := hlt.rowW.typed hk; rw [hc] at ho; cases ho; cases hi
      · obtain ⟨cur, hc⟩ := (hlt.ok q' hq').d.typed hk; rw [hc] at ho; cases ho; cases hi
      · obtain ⟨cur, hc⟩ := (hlt.ok q' hq').h.typed hk; rw [hc] at ho; cases ho; cases hi
  case hAx =>
    rintro x a' - X Y row ⟨Bx, hlt, hb, rfl, hsh⟩ hg hr
    exact ⟨Bx, hlt, heap_nocell hb hg (fun r e => (hr r e).2), rfl, hsh⟩
  case assign =>
    rintro l pre q X K ⟨rfl, hq, ht, hr0⟩ ⟨hmem, hlen⟩ hX hK
    obtain ⟨⟨p1, c1, hvd⟩, p2, c2, hvh⟩ := (hq.at'.ok q hmem).shown
    have HK := Lib.hid hK
    have HI := Lib.hid (And.intro hq (And.intro ht hr0))
    have HD := Lib.hid (And.intro hvd (And.intro hvh (And.intro hX hsz)))
    unfold QM.agg
    rw [hvd, hvh]
    clear hq ht hr0 hmem hlen hX hK hvd hvh hE hQ0 hS0 hT hrb hbx hsz hCW
    gi_wp2
    have ta : Turn NoBlock X (X.alloc (.cells #[.int .i64 q.m.tx, .slice p1 q.m.d.length c1, .slice p2 q.m.h.length c2] 49)) := (Turn.refl _ X).alloc _
    refine HK.out _ _ (KeepsAll.of_turn ta (fun _ h => h.elim)) ⟨by first | rfl | trivial, HI.out.1.kept ta (fun _ _ h => h), TT HI.out.2.1 ta, HI.out.2.2.kept ta (fun _ _ _ h => h)⟩ ⟨X.heap.size, ?_, ?_, ?_, ⟨p1, c1, HD.out.1⟩, p2, c2, HD.out.2.1⟩
    · have := HD.out.2.2; omega
    · rw [heap_alloc_new, HD.out.1, HD.out.2.1]
    · unfold QM.agg; rw [HD.out.1, HD.out.2.1]
  case body =>
    rintro l pre q a' X hX ⟨rfl, hq, ht, hr0⟩ ⟨Bx, hBx, hbx2, rfl, hsh⟩ ⟨hmem, -⟩
    obtain ⟨⟨p1, c1, hvd⟩, p2, c2, hvh⟩ := hsh
    have hok := hq.at'.ok q hmem
    have hfit := hok.fits
    obtain ⟨x, rest, hxr⟩ : ∃ x rest, (S 1).q = x :: rest := by
      cases h9 : (S 1).q with
      | nil =>
        have : q ∈ (S 1).q := by unfold Sd.q; simp; exact hmem
        rw [h9] at this
        simp at this
      | cons x rest => exact ⟨x, rest, rfl⟩
    have hltE : ∀ k, k = c ∨ SFt (S 1) (V 1) k → k < E := fun k hk => by rw [← hE]; exact ((HC.out w (Turn.refl _ _)).s 1 (by omega)).lt hk
    have e0 : X.cell? ⟨E, 0, none⟩ = some (.int .i64 b) := by rw [cell_at hr0.b0]; rfl
    have e1 : X.cell? ⟨E + 1, 0, none⟩ = some (.int .i64 h) := by rw [cell_at hr0.b1]; rfl
    have e4 : X.cell? ⟨E + 4, 0, none⟩ = some (.pointer (some ⟨c, 5, none⟩)) := by rw [cell_at hr0.b4]; rfl
    unfold QM.agg
    rw [hvd, hvh] at hbx2 ⊢
    obtain ⟨x0, x1, x2⟩ := box3 hbx2
    have HM := Lib.hid hmem
    have HQ := Lib.hid hq
    have HT := Lib.hid ht
    have HR := Lib.hid hr0
    have HXR := Lib.hid hxr
    have HLE := Lib.hid hltE
    have HE := Lib.hid (And.intro hE (And.intro hsz (And.intro hX hBx)))
    have HV := Lib.hid (And.intro hvd hvh)
    have HBX := Lib.hid hbx2
    have HF := Lib.hid hfit
    have hdl : (q.m.d.length : Int) ≤ 4096 := by have := hfit.1; omega
    have hhl : (q.m.h.length : Int) ≤ 64 := by have := hfit.2; omega
    clear hmem hq ht hr0 hxr hltE hE hsz hX hvd hvh hbx2 hfit hok hQ0 hS0 hT hrb hbx hCW hBx
    by_cases hbig : b < (q.m.d.length : Int) ∨ h < (q.m.h.length : Int)
    · have HBIG := Lib.hid hbig
      have hcase : b < (q.m.d.length : Int) ∨ (¬ b < (q.m.d.length : Int) ∧ h < (q.m.h.length : Int)) := by omega
      clear hbig
      rcases hcase with h8 | ⟨h8, h9⟩
      all_goals
        gi_wp2_with (refine ⟨trivial, rfl, ?_⟩; gi_at_call 66; refine (CallsIn.inRound l (callsIn_wide.2 (blank_any X q.m _ _ ⟨p1, c1, rfl⟩ ⟨p2, c2, rfl⟩ HF.out))).mono ?_; rintro e Y ⟨⟨rm, rvd, rvh⟩, hrm, rfl, hro, hrf, t2⟩; obtain ⟨p3, c3, h10⟩ := hro.d.sl; obtain ⟨p4, c4, h11⟩ := hro.h.sl; dsimp only at h10 h11 hrm; subst h10 h11; unfold QM.agg; have g2 := t2.heap HR.out.b2 (fun h => h); have g3 := t2.heap HR.out.b3 (fun h => h); obtain ⟨y0, y1, y2⟩ := box3 g2; have y3 : Y.cell? ⟨E + 3, 0, none⟩ = some (.int .i64 0) := (by rw [cell_at g3]; rfl); have z0 := free_at g2 0; have z1 := free_at g2 1; have z2 := free_at g2 2; have z3 := free_at g3 0; have G := Lib.hid (And.intro g2 (And.intro g3 (And.intro hrm (And.intro hro (And.intro hrf t2))))); clear g2 g3 hrm hro hrf t2)
        have q1 := told_new (tx := rm.tx) (st := -15) (vd := .slice p3 rm.d.length c3) (vh := .slice p4 rm.h.length c4) G.out.1 G.out.2.1
        have hEE := HE.out
        have hYs := G.out.2.2.2.2.2.size
        refine ⟨KeepsAll.trans (KeepsAll.of_turn G.out.2.2.2.2.2 (fun _ h => h.elim)) (KeepsAll.of_turn q1.2 (fun k hk => .inl (by omega))), rfl, q, rfl, .inl ⟨HBIG.out, ⟨rm, .slice p3 rm.d.length c3, .slice p4 rm.h.length c4⟩, G.out.2.2.1, ?_, fun k hk => ?_, ⟨q1.1.1, q1.1.2⟩, (TT HT.out G.out.2.2.2.2.2).trans q1.2 (fun k hk => .inr (by omega))⟩⟩
        · refine G.out.2.2.2.1.kept q1.2 (fun k hk hh => ?_)
          have := G.out.2.2.2.2.1 k hk
          omega
        · have := G.out.2.2.2.2.1 k hk
          omega
    · have HBIG := Lib.hid hbig
      have h8 : ¬ b < (q.m.d.length : Int) := by omega
      have h9 : ¬ h < (q.m.h.length : Int) := by omega
      clear hbig
      gi_wp2_with (refine ⟨trivial, rfl, ?_⟩; gi_at_call 67; refine (CallsIn.inRound l (callsIn_wide.2 (drop_any HQ.out.at' HXR.out HLM.out.1 HLM.out.2))).mono ?_; rintro e Y ⟨⟨u, rfl⟩, ⟨s', v', hst, hre⟩⟩; have t2 := hst.turn; have hn : ∀ k, E ≤ k → ¬ (k = c ∨ (V 1).F k) := (fun k hk hh => by have := HLE.out k (hh.imp id (fun h => .inl h)); omega); have g2 := t2.heap HR.out.b2 (hn _ (by omega)); have g3 := t2.heap HR.out.b3 (hn _ (by omega)); have gx := t2.heap HBX.out (hn _ (by have := HE.out; omega)); obtain ⟨w0, w1, w2⟩ := box3 gx; obtain ⟨y0, y1, y2⟩ := box3 g2; have y3 : Y.cell? ⟨E + 3, 0, none⟩ = some (.int .i64 0) := (by rw [cell_at g3]; rfl); have z0 := free_at g2 0; have z1 := free_at g2 1; have z2 := free_at g2 2; have z3 := free_at g3 0; have G := Lib.hid (And.intro g2 (And.intro g3 (And.intro hst hre))); clear g2 g3 gx hst hre t2 hn)
      have q1 := told_new (tx := q.m.tx) (st := 0) (vd := .slice p1 q.m.d.length c1) (vh := .slice p2 q.m.h.length c2) G.out.1 G.out.2.1
      have hEE := HE.out
      have hYs := G.out.2.2.1.turn.size
      refine ⟨KeepsAll.trans (KeepsAll.of_turn G.out.2.2.1.turn (fun k hk => .inl (by have := HLE.out k (hk.imp id (fun h => .inl h)); omega))) (KeepsAll.of_turn q1.2 (fun k hk => .inl (by omega))), rfl, q, rfl, .inr ⟨HBIG.out, ⟨?_, q1.1.2⟩, x, rest, HXR.out, ⟨s', v', ?_, G.out.2.2.2⟩⟩⟩
      · rw [HV.out.1, HV.out.2]; exact q1.1.1
      · refine (SStep.after HT.out (by have := HLE.out c (.inl rfl); omega) G.out.2.2.1).past q1.2 (fun k hk hh => ?_) (fun k hk => by omega)
        have hlt : k < E ∨ X.heap.size ≤ k := by
          rcases hk with rfl | (hk | hk | hk) | ⟨q', hq', hk⟩
          · exact .inl (HLE.out _ (.inl rfl))
          · rcases G.out.2.2.1.ba k hk with h | h
            · exact .inl (HLE.out k (.inr (.inl (.inl h))))
            · exact .inr h
          · rcases G.out.2.2.1.bo k hk with h | h
            · exact .inl (HLE.out k (.inr (.inl (.inr (.inl h)))))
            · exact .inr h
          · rcases G.out.2.2.1.bw k hk with h | h
            · exact .inl (HLE.out k (.inr (.inl (.inr (.inr h)))))
            · exact .inr h
          · rcases G.out.2.2.1.qs q' hq' with h | h
            · exact .inl (HLE.out k (.inr (.inr ⟨q', h, hk⟩)))
            · exact .inr (h k hk)
        omega
  case done =>
    rintro D xs X hD hS ⟨rfl, hq, ht, hr0⟩ hK
    have hf := (HC.out X ht).s 0 (by omega)
    have f0 := hf.c0
    have fl := hf.typ.lt
    have HS := Lib.hid hS
    have HK := Lib.hid hK
    have HI := Lib.hid (And.intro hD (And.intro hE (And.intro hsz (And.intro ht hr0))))
    have m2 := box3 hr0.b2
    obtain ⟨m0, m1, m2⟩ := m2
    have m3 : X.cell? ⟨E + 3, 0, none⟩ = some (.int .i64 0) := by rw [cell_at hr0.b3]; rfl
    have z0 := free_at hr0.b2 0
    have z1 := free_at hr0.b2 1
    have z2 := free_at hr0.b2 2
    have z3 := free_at hr0.b3 0
    have co : ∀ w, Calls Try.prog 52 #[.int .i64 1] w fun x w' => x = .returned (.int .i64 0) ∧ w = w' := fun w => other_any 1 (by omega) w
    simp only [plc, Nat.reduceMul, Nat.reduceAdd] at f0
    clear hS hK hf hD ht hr0 hq hQ0 hS0 hT hrb hbx hsz hCW hE
    cases hop : (S 0).op
    · skip
      rw [hop] at f0
      gi_wp2
      refine wpIn_wide.2 ?_
      go_region_held3 (fun w' => w'.cell? ⟨c, 1, none⟩ = some (.bool (S 0).op)) (first | exact f0 | (rw [hop]; exact f0)) (first | (go_at_call 52; (with_reducible refine (co _).mono ?_); rintro e w2 ⟨rfl, rfl⟩))
      gi_wp2
      have hEE := HI.out
      have q1 := told_new (tx := 0) (st := (-24)) (vd := .slice none 0 0) (vh := .slice none 0 0) HI.out.2.2.2.2.b2 HI.out.2.2.2.2.b3
      have hKD := q1.2.heap HK.out (by omega)
      have tp := turn_putObj (((((X.setCell ⟨E + 2, 0, none⟩ (.int .i64 0)).setCell ⟨E + 2, 1, none⟩ (.slice none 0 0)).setCell ⟨E + 2, 2, none⟩ (.slice none 0 0)).setCell ⟨E + 3, 0, none⟩ (.int .i64 (-24))).drew) D (.deferred none)
      refine ⟨by simp, .inl ⟨_, _, rfl, run_takeDeferred hKD, ?_⟩⟩
      refine ⟨_, told_ret (E := E) (tp.heap q1.1.1 (by omega)) (tp.heap q1.1.2 (by omega)) rfl rfl, .inr ⟨HS.out.symm, by rw [hop]; rfl, ?_⟩⟩
      exact ((HI.out.2.2.2.1.trans q1.2 (fun k hk => .inr (by omega))).drew).trans tp (fun k hk => .inr (by omega))
    · skip
      rw [hop] at f0
      gi_wp2
      refine wpIn_wide.2 ?_
      go_region_held3 (fun w' => w'.cell? ⟨c, 1, none⟩ = some (.bool (S 0).op)) (first | exact f0 | (rw [hop]; exact f0)) (first | (go_at_call 52; (with_reducible refine (co _).mono ?_); rintro e w2 ⟨rfl, rfl⟩))
      gi_wp2
      have hEE := HI.out
      have q1 := told_new (tx := 0) (st := (-22)) (vd := .slice none 0 0) (vh := .slice none 0 0) HI.out.2.2.2.2.b2 HI.out.2.2.2.2.b3
      have hKD := q1.2.heap HK.out (by omega)
      have tp := turn_putObj (((((X.setCell ⟨E + 2, 0, none⟩ (.int .i64 0)).setCell ⟨E + 2, 1, none⟩ (.slice none 0 0)).setCell ⟨E + 2, 2, none⟩ (.slice none 0 0)).setCell ⟨E + 3, 0, none⟩ (.int .i64 (-22))).drew) D (.deferred none)
      refine ⟨by simp, .inl ⟨_, _, rfl, run_takeDeferred hKD, ?_⟩⟩
      refine ⟨_, told_ret (E := E) (tp.heap q1.1.1 (by omega)) (tp.heap q1.1.2 (by omega)) rfl rfl, .inr ⟨HS.out.symm, by rw [hop]; rfl, ?_⟩⟩
      exact ((HI.out.2.2.2.1.trans q1.2 (fun k hk => .inr (by omega))).drew).trans tp (fun k hk => .inr (by omega))
  case stop =>
    rintro D cc pre X hD hSp ⟨rfl, q, rfl, ho⟩ hK
    have HO := Lib.hid ho
    have HK := Lib.hid hK
    have HI := Lib.hid (And.intro hSp (And.intro hD (And.intro hE hsz)))
    clear hSp hK ho hD hQ0 hS0 hT hrb hbx hsz hCW hE
    gi_wp2
    have hEE := HI.out.2
    obtain ⟨rest, hrest⟩ := HI.out.1
    have tp := turn_putObj X D (.deferred none)
    refine ⟨by simp, .inl ⟨_, _, rfl, run_takeDeferred HK.out, ?_⟩⟩
    rcases HO.out with ⟨hbig, r, h1, h2, h3, h4, h5⟩ | ⟨hbig, h4, x, rest', h5, ⟨s', v', h6, h7⟩⟩
    · refine ⟨_, told_ret (E := E) (tp.heap h4.m (by omega)) (tp.heap h4.s (by omega)) rfl rfl, .inl ⟨q, rest, hrest.symm, .inl ⟨hbig, r, h1, rfl, h2.nocell (grownBy_putObj' X D _) (fun r e => by cases e; exact ⟨_, HK.out, rfl⟩), fun k hk => by have := h3 k hk; omega, h5.trans tp (fun k hk => .inr (by omega))⟩⟩⟩
    · have h8 : x = q ∧ rest' = rest := by
        rw [h5] at hrest
        simp at hrest
        exact ⟨hrest.1.symm, hrest.2.symm⟩
      obtain ⟨rfl, rfl⟩ := h8
      refine ⟨_, told_ret (E := E) (tp.heap h4.m (by omega)) (tp.heap h4.s (by omega)) rfl rfl, .inl ⟨x, rest', h5, .inr ⟨hbig, rfl, ⟨s', v', h6.past tp (h6.at'.nocells HK.out rfl) (fun k hk => by omega), h7⟩⟩⟩⟩
end Go.Proofs.Ytcbphfpfdfgehaa
