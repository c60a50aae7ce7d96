/-
  What Splice of lists answers, and what it makes of the queues. No conditions but that the lists are such as calls can make.
-/
import Derived.Test.YtpfoleaampcibaaList
import Derived.Test.YtpfoleaampcibaaCalls1
import Derived.Stop.RegionWithIn
import Derived.BigRegionIn
import Derived.Sort.CutIn
import Derived.Sort.QuietIn
import Derived.Deep.RegionHeld3
import Derived.StillTailTactics
import Derived.Deep.DeepCutAuto
namespace Go.Proofs.Ytpfoleaampcibaa
open Go.ChangeShapes Go.WideShapes Go.ChangeAt Go.RowKit Go.Shelf

attribute [local go_sem] Oper.semAt_some

theorem Mem.alloc {w : World} {a p c : Nat} {r : Raw} (h : Mem w a p c r) (o : Obj) : Mem (w.alloc o) a p c r := h.kept (G := NoBlock) ((Turn.refl _ _).alloc _) (fun _ _ h => h)

theorem splice_no (w : World) (a : Nat) (F : Nat → Prop) (n k : Nat) (L : Nat → List Nat) (q g : Int) (h : ListsAt w a F n k L) (hb : ¬ (inQ k q ∧ inQ k g ∧ q ≠ g)) :
    Calls Try.prog 18 #[.pointer (some ⟨a, 0, none⟩), .int .i64 q, .int .i64 g] w fun e w' => e = .returned (.int .i64 (-14)) ∧ Turn NoBlock w w' := by
  obtain ⟨p, c, r, hm, hr, rfl, rfl, rfl⟩ := h
  have hm2 := (hm.alloc (.cells #[.pointer (some ⟨a, 0, none⟩)] 23)).alloc (.cells #[.int .i64 q] 3)
  by_cases h1 : inQ r.queues q
  · have c1 := hasq_yes _ a p c r q hm2 h1.1 h1.2
    by_cases h2 : inQ r.queues g
    · have c2 := hasq_yes _ a p c r g hm2 h2.1 h2.2
      have e : q = g := Classical.byContradiction fun e => hb ⟨h1, h2, e⟩
      subst e
      clear hb h1 h2 hm hr hm2 c2
      go_enter Try.func18, Try.ntmps18
      go_wp2_with (go_at_call 31; (with_reducible refine c1.mono ?_); rintro e w' ⟨rfl, rfl⟩)
      go_ret
      exact ⟨rfl, ((Turn.refl _ _).alloc _).alloc _⟩
    · have c2 := hasq_no _ a p c r g hm2 (inQ_not h2)
      clear hb h1 h2 hm hr hm2
      go_enter Try.func18, Try.ntmps18
      go_wp2_with (first | (go_at_call 31; (with_reducible refine c1.mono ?_); rintro e w' ⟨rfl, rfl⟩) | (go_at_call 31; (with_reducible refine c2.mono ?_); rintro e w' ⟨rfl, rfl⟩))
      go_ret
      exact ⟨rfl, ((Turn.refl _ _).alloc _).alloc _⟩
  · have c1 := hasq_no _ a p c r q hm2 (inQ_not h1)
    clear hb h1 hm hr hm2
    go_enter Try.func18, Try.ntmps18
    go_wp2_with (go_at_call 31; (with_reducible refine c1.mono ?_); rintro e w' ⟨rfl, rfl⟩)
    go_ret
    exact ⟨rfl, ((Turn.refl _ _).alloc _).alloc _⟩

theorem splice_none (w : World) (a p c : Nat) (r : Raw) (q g : Nat) (hm : Mem w a p c r) (hq : q < r.queues) (hg : g < r.queues) (hne : q ≠ g) (hC : r.C g = 0) :
    Calls Try.prog 18 #[.pointer (some ⟨a, 0, none⟩), .int .i64 q, .int .i64 g] w fun e w' => e = .returned (.int .i64 0) ∧ Turn NoBlock w w' := by
  have hm2 := (hm.alloc (.cells #[.pointer (some ⟨a, 0, none⟩)] 23)).alloc (.cells #[.int .i64 q] 3)
  have c1 := hasq_yes _ a p c r q hm2 (by omega) (by omega)
  have c2 := hasq_yes _ a p c r g hm2 (by omega) (by omega)
  have d1 := hm2.c2
  have d2 := hm2.n hg
  rw [hC] at d2
  have hb : ((q : Int) == g) = false := by simp; omega
  clear hm hm2 hq hC hne
  go_enter Try.func18, Try.ntmps18
  go_wp2_with (first | (go_at_call 31; (with_reducible refine c1.mono ?_); rintro e w' ⟨rfl, rfl⟩) | (go_at_call 31; (with_reducible refine c2.mono ?_); rintro e w' ⟨rfl, rfl⟩))
  go_ret
  exact ⟨rfl, ((Turn.refl _ _).alloc _).alloc _⟩

theorem mem_ownFrom {β : Type} {B a p c : Nat} (f : β → Raw) : OwnFrom B (fun s W => Mem W a p c (f s)) := by
  intro s W W' row hs hg hr
  refine hs.kept (G := fun k => row = some k) ⟨hg.os, hg.tape, hg.output, hg.size, fun k hk hn => hg.block k hk (fun e => hn e.symm)⟩ (fun k hk e => ?_)
  obtain ⟨_, o, ho, hc⟩ := hr k e
  obtain ⟨h0, ⟨c1, h1, _⟩, ⟨c2, h2, _⟩⟩ := hs
  rcases hk with rfl | rfl | rfl
  · rw [h0] at ho; cases ho; cases hc
  · rw [h1] at ho; cases ho; cases hc
  · rw [h2] at ho; cases ho; cases hc
theorem turn_ownFrom {β : Type} {B : Nat} {F : Nat → Prop} {w : World} (hB : w.heap.size ≤ B) : OwnFrom B (fun (_ : β) W => Turn F w W) := by
  intro s W W' row hs hg hr
  exact hs.grown hg (fun k hk => .inr (by have := (hr k hk).1; omega))

theorem tag_snoc (r : Raw) (q x : Nat) (l : List Nat) : { r.tag q l with Q := upd (r.tag q l).Q x q } = r.tag q (l ++ [x]) := by
  unfold Raw.tag
  rw [Raw.mk.injEq]
  refine ⟨rfl, rfl, ?_, rfl, rfl, rfl⟩
  funext y
  unfold upd
  dsimp only
  by_cases hy : y = x
  · rw [if_pos hy, if_pos (by simp [hy])]
  · rw [if_neg hy]
    by_cases hm : y ∈ l
    · rw [if_pos hm, if_pos (by simp [hm])]
    · rw [if_neg hm, if_neg (by simp [hm, hy])]

/-- Items' numbers with their bounds. -/
def itemsOf (n : Nat) (L : List Nat) (h : ∀ x ∈ L, x < n) : List { x : Nat // x < n } := L.attach.map fun x => ⟨x.1, h x.1 x.2⟩
theorem itemsOf_val (n : Nat) (L : List Nat) (h : ∀ x ∈ L, x < n) : (itemsOf n L h).map (·.1) = L := by
  unfold itemsOf
  rw [List.map_map]
  exact List.attach_map_subtype_val L
theorem itemsOf_len (n : Nat) (L : List Nat) (h : ∀ x ∈ L, x < n) : (itemsOf n L h).length = L.length := by simp [itemsOf]
theorem items_snoc {n : Nat} {L : List Nat} (h : ∀ x ∈ L, x < n) {j : Nat} (hj : j < L.length) : ∃ x : { x : Nat // x < n }, x.1 = L.getD j 0 ∧ (itemsOf n L h).take (j + 1) = (itemsOf n L h).take j ++ [x] := by
  have hj' : j < (itemsOf n L h).length := by rw [itemsOf_len]; exact hj
  refine ⟨(itemsOf n L h)[j], ?_, ?_⟩
  · simp [itemsOf, List.getD, List.getElem?_eq_getElem hj]
  · rw [List.take_add_one, List.getElem?_eq_getElem hj']; rfl

theorem items_stops (F : Fence) (m : Nat) (hf : F.fn 35) (hf2 : F.fn 31) (hf3 : F.fn 28) (hro : F.round = none) (hn : 2 ≤ m) (Ba Bb a p c q : Nat) (r : Raw) (L : Nat → List Nat) (hr : Rep r L) (hq : q < r.queues) (hL : ∀ x ∈ L q, x < r.items) (w : World)
    (hS : Sees Ba Bb a p c r.items r.queues q r.B w) :
    SeqStopsK F m Try.prog 35 #[.pointer (some ⟨Ba, 0, none⟩), .pointer (some ⟨Bb, 0, none⟩)] (fun x : { x : Nat // x < r.items } => #[Value.int .i64 (x.1 : Int)]) (KpSees Ba Bb a p c r.items r.queues q r.B) (fun ys => ys = itemsOf r.items (L q) hL)
      (fun _ => True) (L q).length w := by
  intro l J Jx W hW _ _ hY h0
  have hS' : Sees Ba Bb a p c r.items r.queues q r.B W := by
    refine ⟨(hW.block _ hS.ba.lt).trans hS.ba, (hW.block _ hS.bb.lt).trans hS.bb, (hW.block _ (lt_of_block hS.head)).trans hS.head, fun i hi => ?_⟩
    exact (hW.cell (p := ⟨p, i * 3 + 2, none⟩) (World.block_lt_of_cell? w _ (hS.way i hi))).trans (hS.way i hi)
  refine (way_in F m hf hf2 hf3 hro hn l Ba Bb a p c r.items r.queues q _ r.B r.A (L q) hq hr.items hr.queues rfl (hr.chain q hq) hL (fun i => J ((itemsOf r.items (L q) hL).take i)) (fun i => Jx ((itemsOf r.items (L q) hL).take i)) ?_ W hS' h0).mono ?_
  · intro i x W1 hJ hi hx
    obtain ⟨y, hy, e⟩ := items_snoc hL hi
    have := hY _ y W1 hJ (by rw [List.length_take, itemsOf_len]; omega)
    rw [← e] at this
    rw [hx, ← hy]
    exact this
  · rintro e W' ⟨hv, h⟩
    refine ⟨hv, ?_⟩
    rcases h with h | ⟨i, hi, h⟩
    · rw [← itemsOf_len r.items (L q) hL, List.take_length] at h
      exact .inl ⟨_, rfl, h⟩
    · exact .inr ⟨_, trivial, h⟩

set_option maxRecDepth 100000 in
set_option maxHeartbeats 2000000 in
theorem splice_in (F : Fence) (n : Nat) (hf : F.fn 18) (hf1 : F.fn 34) (hf2 : F.fn 35) (hf3 : F.fn 31) (hf4 : F.fn 28) (hro : F.round = none) (hn : 4 ≤ n) (hw : Hid (∀ {c : Code} {Q : Exit → Act → World → Prop} {a : Act} {w : World}, Code.wp Try.prog c Q a w → Code.wpIn F n Try.prog c Q a w)) (w : World) (a p c : Nat) (r : Raw) (L : Nat → List Nat) (q g : Nat)
    (hm : Mem w a p c r) (hr : Rep r L) (hq : q < r.queues) (hg : g < r.queues) (hne : q ≠ g) (hl : L g ≠ []) :
    CallsIn F n Try.prog 18 #[.pointer (some ⟨a, 0, none⟩), .int .i64 q, .int .i64 g] w fun e W' => e = .returned (.int .i64 0) ∧ Mem W' a p c (r.splice q g (L g)) ∧ Turn (Foot a p c) w W' := by
  have h1 : 1 ≤ n := by omega
  have hL : ∀ x ∈ L g, x < r.items := fun x hx => (hr.inn g hg x hx).1
  have hCg := hr.count g hg
  have hCp : 0 < r.C g := by rw [hCg]; exact List.length_pos_iff.2 hl
  have hm2 := (hm.alloc (.cells #[.pointer (some ⟨a, 0, none⟩)] 23)).alloc (.cells #[.int .i64 q] 3)
  have c1 := hasq_in_yes F (n - 1) hf3 hro _ a c r.queues q hm2.c2 (by omega) (by omega)
  have c2 := hasq_in_yes F (n - 1) hf3 hro _ a c r.queues g hm2.c2 (by omega) (by omega)
  have d1 := hm2.c2
  have d2 := hm2.n hg
  have hb : ((q : Int) == g) = false := by simp; omega
  obtain ⟨C0, hC0⟩ : ∃ C0, r.C g = C0 := ⟨_, rfl⟩
  rw [hC0] at d2 hCp
  have hb2 : ((C0 : Int) == 0) = false := by simp; omega
  have HM : Hid (Mem w a p c r) := hm
  have HR : Hid (Rep r L) := hr
  have HQ : Hid (q < r.queues ∧ g < r.queues ∧ q ≠ g) := ⟨hq, hg, hne⟩
  have HG : Hid (g < r.queues) := hg
  have HLG : Hid (L g ≠ []) := hl
  have HL : Hid (∀ x ∈ L g, x < r.items) := hL
  have HC : Hid (r.C g = C0 ∧ r.C g = (L g).length) := ⟨hC0, hCg⟩
  clear hm hr hq hne hl hL hCg hC0 hm2 hCp
  refine callsIn_of_wp_marks Try.func18 rfl hf ?_ hro
  simp only [Try.ntmps18, List.size_toArray, List.length_cons, List.length_nil, Nat.reduceAdd, Nat.reduceSub, Array.replicate_succ, Array.replicate_zero, List.push_toArray, List.append_toArray, List.nil_append, List.cons_append]
  gi_wp2_with (first
    | (gi_at_call 31; (with_reducible refine c1.mono ?_); rintro e w' ⟨rfl, rfl⟩)
    | (gi_at_call 31; (with_reducible refine c2.mono ?_); rintro e w' ⟨rfl, rfl⟩)
    | (gi_at_call 34; refine (all_in F (n - 1) hf1 hro _ _ _).mono ?_; rintro e w' ⟨rfl, rfl⟩))
  have hfoot : ∀ k, Foot a p c k → k < w.heap.size := fun k hk => HM.out.lt hk
  have ha := hfoot a (.inl rfl)
  have hp := hfoot p (.inr (.inl rfl))
  obtain ⟨W4, hW4⟩ : ∃ W4, ((((w.alloc (Obj.cells #[Value.pointer (some ⟨a, 0, none⟩)] 23)).alloc (Obj.cells #[Value.int IntKind.i64 ↑q] 3)).alloc (Obj.cells #[Value.pointer (some ⟨a, 0, none⟩)] 23)).alloc (Obj.cells #[Value.int IntKind.i64 ↑g] 3)) = W4 := ⟨_, rfl⟩
  have bL := (((Boxed.new w 23 (.pointer (some ⟨a, 0, none⟩))).alloc (Obj.cells #[Value.int IntKind.i64 ↑q] 3)).alloc (Obj.cells #[Value.pointer (some ⟨a, 0, none⟩)] 23)).alloc (Obj.cells #[Value.int IntKind.i64 ↑g] 3)
  have bT := ((Boxed.new (w.alloc (Obj.cells #[Value.pointer (some ⟨a, 0, none⟩)] 23)) 3 (.int .i64 q)).alloc (Obj.cells #[Value.pointer (some ⟨a, 0, none⟩)] 23)).alloc (Obj.cells #[Value.int IntKind.i64 ↑g] 3)
  have bN := (Boxed.new ((w.alloc (Obj.cells #[Value.pointer (some ⟨a, 0, none⟩)] 23)).alloc (Obj.cells #[Value.int IntKind.i64 ↑q] 3)) 23 (.pointer (some ⟨a, 0, none⟩))).alloc (Obj.cells #[Value.int IntKind.i64 ↑g] 3)
  have bG := Boxed.new (((w.alloc (Obj.cells #[Value.pointer (some ⟨a, 0, none⟩)] 23)).alloc (Obj.cells #[Value.int IntKind.i64 ↑q] 3)).alloc (Obj.cells #[Value.pointer (some ⟨a, 0, none⟩)] 23)) 3 (.int .i64 g)
  have hT4 : Turn NoBlock w W4 := by rw [← hW4]; exact ((((Turn.refl _ _).alloc _).alloc _).alloc _).alloc _
  have hz4 : W4.heap.size = w.heap.size + 1 + 1 + 1 + 1 := by rw [← hW4]; simp
  rw [hW4] at bL bT bN bG
  rw [World.size_alloc] at bT bN bG
  rw [World.size_alloc] at bN bG
  rw [World.size_alloc] at bG
  rw [hW4]
  have hM4 : Mem W4 a p c r := HM.out.kept hT4 (fun _ _ h => h)
  have hS4 := sees_of hM4 bN bG
  have hst := items_stops F (n - 1) hf2 hf3 hf4 hro (by omega) (w.heap.size + 1 + 1) (w.heap.size + 1 + 1 + 1) a p c g r L HR.out HG.out HL.out W4 hS4
  refine wpIn_rangeFunc_ownG hro h1 (gf := 35) (lb := #[.pointer (some ⟨w.heap.size + 1 + 1, 0, none⟩), .pointer (some ⟨w.heap.size + 1 + 1 + 1, 0, none⟩)]) rfl hf2 (enters_of Try.func35 (by kernel_rfl) rfl)
    hst (fun h k => KpSees.trans h k) (KpSees.put (by omega) (by omega) (by omega) (by omega)) (Below.refl _ _) (fun _ => rfl)
    (fun pre W => Mem W a p c (r.tag q (pre.map (·.1))) ∧ Boxed W w.heap.size 23 (.pointer (some ⟨a, 0, none⟩)) ∧ Boxed W (w.heap.size + 1) 3 (.int .i64 q) ∧ Turn (Foot a p c) w W)
    (fun _ _ _ => False)
    (OwnFrom.and (mem_ownFrom (fun (pre : List { x : Nat // x < r.items }) => r.tag q (pre.map (·.1)))) (OwnFrom.and (Own.from (boxed_own w.heap.size 23 (fun _ => .pointer (some ⟨a, 0, none⟩))) _) (OwnFrom.and (Own.from (boxed_own (w.heap.size + 1) 3 (fun _ => .int .i64 q)) _) (turn_ownFrom (by omega)))))
    (fun _ _ _ _ _ hs _ _ => hs)
    ⟨by have e : r.tag q ([] : List Nat) = r := rfl; rw [List.map_nil, e]; exact hM4, bL, bT, hT4.mono (fun _ h => h.elim)⟩
    (fun x => { tmps := #[.pointer (some ⟨a, 0, none⟩), .int .i64 q, .int .i64 g, .pointer (some ⟨w.heap.size, 0, none⟩), .pointer (some ⟨w.heap.size + 1, 0, none⟩), undef, .int .i64 0, .int .i64 (x.1 : Int), undef, undef, .pointer (some ⟨a, 0, none⟩), .int .i64 q, .bool true, .bool false, .bool false, .pointer (some ⟨a, 0, none⟩), .int .i64 g, .bool true, .bool false, .bool false, .bool false, .int .i64 q, .int .i64 g, .bool false, .bool false, .pointer (some ⟨a, 0, none⟩), .pointer (some ⟨a, 0, none⟩), .pointer (some ⟨a, 2, none⟩), .slice (some ⟨c, 0, none⟩) r.queues r.queues, .int .i64 g, .pointer (some ⟨c, g, none⟩), .int .i64 C0, .bool false, .pointer (some ⟨a, 0, none⟩), .int .i64 g, .func (.func 35) #[] #[.pointer (some ⟨w.heap.size + 1 + 1, 0, none⟩), .pointer (some ⟨w.heap.size + 1 + 1 + 1, 0, none⟩)], .int .i64 (x.1 : Int), undef, undef, undef, undef, undef, undef, undef, undef, undef, undef, undef, undef, undef, undef, undef, undef, undef, undef, undef, undef, undef, undef, undef, undef, undef, undef, undef, undef, undef, undef, undef, undef, undef, undef, undef, undef, undef, undef, undef, undef, undef, undef, undef, undef, undef, undef, undef, undef, undef, undef, undef, undef, undef, undef, undef, undef], defers := [] }) ?assign ?body ?done ?stop
  case assign =>
    intro l x W K hK
    gi_wp2
    exact hK
  case body =>
    rintro l' pre x W ⟨hmw, hl, ht, hT⟩ hlt
    have e1 := hl.cell
    have e2 := ht.cell
    have e3 := hmw.c1
    have e4 := hmw.q (i := x.1) (by have := x.2; show x.1 < r.items + r.queues; omega)
    have e5 := hmw.fp (x.1 * 3)
    have m2 := hmw.setQ (i := x.1) (by have := x.2; show x.1 < r.items + r.queues; omega) q
    rw [tag_snoc] at m2
    obtain ⟨z, hz⟩ : ∃ z, (r.tag q (pre.map (·.1))).Q x.1 = z := ⟨_, rfl⟩
    obtain ⟨N, hN⟩ : ∃ N, r.items + r.queues = N := ⟨_, rfl⟩
    change W.cell? ⟨a, 1, none⟩ = some (.slice (some ⟨p, 0, none⟩) (r.items + r.queues) (r.items + r.queues)) at e3
    rw [hz] at e4
    simp only [hN] at e3
    obtain ⟨y, hy⟩ := x
    have hyN : y < N := by omega
    dsimp only at e4 e5 m2 ⊢
    have hpp := World.block_lt_of_cell? W _ e4
    have FIN : Hid (KeepsFrom W4.heap.size W (W.setCell ⟨p, y * 3, none⟩ (.int .i64 q)).drew ∧ KpSees (w.heap.size + 1 + 1) (w.heap.size + 1 + 1 + 1) a p c r.items r.queues g r.B W (W.setCell ⟨p, y * 3, none⟩ (.int .i64 q)).drew ∧
        (Mem (W.setCell ⟨p, y * 3, none⟩ (.int .i64 q)).drew a p c (r.tag q ((pre ++ [(⟨y, hy⟩ : { x : Nat // x < r.items })]).map (·.1))) ∧ Boxed (W.setCell ⟨p, y * 3, none⟩ (.int .i64 q)).drew w.heap.size 23 (.pointer (some ⟨a, 0, none⟩)) ∧ Boxed (W.setCell ⟨p, y * 3, none⟩ (.int .i64 q)).drew (w.heap.size + 1) 3 (.int .i64 q) ∧ Turn (Foot a p c) w (W.setCell ⟨p, y * 3, none⟩ (.int .i64 q)).drew)) := by
      refine ⟨⟨by simp [World.setCell], fun k o hB hk ho => ?_⟩, fun s => ?_, ?_, ?_, ?_, ?_⟩
      · rw [← hk]; exact Below.heap_setCell _ _ _ _ (by show k ≠ p; omega)
      · refine ⟨set_past s.ba (by show _ ≠ p; omega) _, set_past s.bb (by show _ ≠ p; omega) _, set_past s.head (by show a ≠ p; exact hmw.ap) _, fun i hi => ?_⟩
        have := m2.b (i := i) hi
        have e := hmw.b (i := i) hi
        rw [s.way i hi] at e
        rw [e]
        exact this
      · rw [List.map_append]; exact m2.drew
      · exact set_past hl (by show _ ≠ p; omega) _
      · exact set_past ht (by show _ ≠ p; omega) _
      · exact (hT.then (foot_setP _ a p c W)).drew
    clear hmw hl ht hT m2 hz hN bL bT bN bG hS4 hst hM4 hlt hT4 hW4 hz4 hpp c1 c2 d1 d2 HM HR HQ HG HLG HL HC hb hb2 hfoot ha hp
    gi_wp2
    gi_region
    all_goals
      gi_wp2
      exact FIN.out
  case done =>
    rintro D ys W hD rfl ⟨hmw, hl, ht, hT⟩ hK
    rw [itemsOf_val] at hmw
    obtain ⟨hdq, hhq⟩ : ∃ hd, r.items + q = hd := ⟨_, rfl⟩
    obtain ⟨hdg, hhg⟩ : ∃ hd, r.items + g = hd := ⟨_, rfl⟩
    obtain ⟨N, hN⟩ : ∃ N, r.items + r.queues = N := ⟨_, rfl⟩
    have hi := HR.out.items
    have hk := HR.out.queues
    have hQ := HQ.out
    have e1 := hl.cell
    have e2 := ht.cell
    have e3 := hmw.c0
    have e4 := hmw.c1
    have g1 := hmw.q (i := hdg) (by show hdg < r.items + r.queues; omega)
    have g2 := hmw.a' (i := hdg) (by show hdg < r.items + r.queues; omega)
    have g3 := hmw.b (i := hdg) (by show hdg < r.items + r.queues; omega)
    change W.cell? ⟨a, 0, none⟩ = some (.int .i64 r.items) at e3
    change W.cell? ⟨a, 1, none⟩ = some (.slice (some ⟨p, 0, none⟩) (r.items + r.queues) (r.items + r.queues)) at e4
    change W.cell? ⟨p, hdg * 3 + 1, none⟩ = some (.int .i64 (r.A hdg : Nat)) at g2
    change W.cell? ⟨p, hdg * 3 + 2, none⟩ = some (.int .i64 (r.B hdg : Nat)) at g3
    simp only [hN] at e4
    obtain ⟨zq, hzq⟩ : ∃ z, (r.tag q (L g)).Q hdg = z := ⟨_, rfl⟩
    rw [hzq] at g1
    have hgN : hdg < N := by omega
    have hhd : ∀ (q' hd : Nat), q' < r.queues → r.items + q' = hd → ∀ W1 : World, W1.cell? ⟨a, 0, none⟩ = some (.int .i64 r.items) → Calls Try.prog 28 #[.pointer (some ⟨a, 0, none⟩), .int .i64 (q' : Int)] W1 fun e w' => e = .returned (.int .i64 hd) ∧ W1 = w' := fun q' hd h1 h2 W1 h3 => by
      have := head_in Fence.wide 0 trivial rfl W1 a r.items q' hd h3 h2 (by omega)
      exact callsIn_wide.1 this
    have cq := hhd q hdq hQ.1 hhq
    have cg := hhd g hdg hQ.2.1 hhg
    gi_wp2
    refine hw.out ?_
    go_cut [8, 9] from 45 to 57 (fun s8 s9 wx => ∃ e : Nat, s8 = .int .i64 hdq ∧ s9 = .pointer (some ⟨e, 0, none⟩) ∧ Hid (W.heap.size ≤ e ∧ wx.heap[e]? = some (.cells #[.int .i64 zq, .int .i64 (r.A hdg : Nat), .int .i64 (r.B hdg : Nat)] 53 (0, 0)) ∧ Turn NoBlock W wx))
    case first =>
      go_region_held3 (fun w' => w'.cell? ⟨w.heap.size, 0, none⟩ = some (.pointer (some ⟨a, 0, none⟩)) ∧ w'.cell? ⟨w.heap.size + 1, 0, none⟩ = some (.int .i64 q) ∧ w'.cell? ⟨a, 0, none⟩ = some (.int .i64 r.items) ∧ w'.cell? ⟨a, 1, none⟩ = some (.slice (some ⟨p, 0, none⟩) N N) ∧ w'.cell? ⟨p, hdg * 3, none⟩ = some (.int .i64 zq) ∧ w'.cell? ⟨p, hdg * 3 + 1, none⟩ = some (.int .i64 (r.A hdg : Nat)) ∧ w'.cell? ⟨p, hdg * 3 + 2, none⟩ = some (.int .i64 (r.B hdg : Nat))) (go_keep)
        (first | (go_at_call 28; (with_reducible refine (cq _ ?_).mono ?_); (simp [*]); rintro e w' ⟨rfl, rfl⟩) | (go_at_call 28; (with_reducible refine (cg _ ?_).mono ?_); (simp [*]); rintro e w' ⟨rfl, rfl⟩))
      all_goals
        go_wp2
        go_meet
        exact ⟨_, rfl, rfl, by have := W.size_alloc (.cells #[.int .i64 zq, .int .i64 (r.A hdg : Nat), .int .i64 (r.B hdg : Nat)] 53); exact Nat.le_refl _, heap_alloc_new W _, ((Turn.refl _ _).alloc _).drew⟩
    case rest =>
      obtain ⟨e, rfl, rfl, HE⟩ := hcut
      have hmc : Mem wc a p c (r.tag q (L g)) := hmw.kept HE.out.2.2 (fun _ _ h => h)
      have hlc := HE.out.2.2.heap hl (fun h => h)
      have htc := HE.out.2.2.heap ht (fun h => h)
      have hfoot2 : ∀ k, Foot a p c k → k < W.heap.size := fun k hk => hmw.lt hk
      have hKc := HE.out.2.2.heap hK (fun h => h)
      have hDf : ¬ Foot a p c D := fun h => by have := hfoot D h; omega
      have hlf : ¬ Foot a p c w.heap.size := fun h => Nat.lt_irrefl _ (hfoot _ h)
      have htf : ¬ Foot a p c (w.heap.size + 1) := fun h => by have := hfoot _ h; omega
      have hef : ¬ Foot a p c e := fun h => by have := hfoot2 _ h; have := HE.out.1; omega
      have hA : r.A hdq < r.items + r.queues := by
        have := HR.out.last_cases HQ.out.1
        rw [hhq] at this
        rcases this with ⟨h2, _⟩ | h2
        · omega
        · have := (HR.out.inn q HQ.out.1 _ h2).1; omega
      have hBg : r.B hdg < r.items + r.queues := by
        have := HR.out.first_cases HG.out
        rw [hhg] at this
        rcases this with ⟨h2, _⟩ | ⟨l', h2⟩
        · omega
        · have := (HR.out.inn g HG.out (r.B hdg) (by rw [h2]; simp)).1; omega
      have hAg : r.A hdg < r.items + r.queues := by
        have := HR.out.last_cases HG.out
        rw [hhg] at this
        rcases this with ⟨h2, _⟩ | h2
        · omega
        · have := (HR.out.inn g HG.out _ h2).1; omega
      have f1 := hlc
      have q1 : wc.cell? ⟨w.heap.size, 0, none⟩ = some (.pointer (some ⟨a, 0, none⟩)) := by simpa using cell_at hlc 0
      have q2 := hmc.c1
      have q3 := hmc.a' (i := hdq) (by show hdq < r.items + r.queues; omega)
      have q4 : wc.cell? ⟨e, 2, none⟩ = some (.int .i64 (r.B hdg : Nat)) := by simpa using cell_at HE.out.2.1 2
      change wc.cell? ⟨a, 1, none⟩ = some (.slice (some ⟨p, 0, none⟩) (r.items + r.queues) (r.items + r.queues)) at q2
      change wc.cell? ⟨p, hdq * 3 + 1, none⟩ = some (.int .i64 (r.A hdq : Nat)) at q3
      simp only [hN] at q2
      have hqN : hdq < N := by omega
      have cj := fun W1 (h : Mem W1 a p c (r.tag q (L g))) => join_any W1 a p c (r.A hdq) (r.B hdg) _ h hA hBg
      have cj2 := fun W1 (h : Mem W1 a p c ((r.tag q (L g)).join (r.A hdq) (r.B hdg))) => join_any W1 a p c (r.A hdg) hdq _ h hAg (by show hdq < r.items + r.queues; omega)
      obtain ⟨Cq, hCq⟩ : ∃ Cq, r.C q = Cq := ⟨_, rfl⟩
      have hCs : Cq ≤ 65536 ∧ C0 ≤ 65536 := by
        have h1 := HR.out.len_le HQ.out.1
        have h2 := HR.out.len_le HG.out
        have h3 := HR.out.count q HQ.out.1
        have h4 := HC.out
        omega
      have HJ2 : Hid (∀ W1, Mem W1 a p c (((r.tag q (L g)).join (r.A hdq) (r.B hdg)).join (r.A hdg) hdq) → (W1.cell? ⟨a, 2, none⟩ = some (.slice (some ⟨c, 0, none⟩) r.queues r.queues) ∧ W1.cell? ⟨c, q, none⟩ = some (.int .i64 (Cq : Nat)) ∧ W1.cell? ⟨c, g, none⟩ = some (.int .i64 (C0 : Nat)) ∧ W1.frozen? ⟨c, q, none⟩ = false) ∧
          Calls Try.prog 26 #[.pointer (some ⟨a, 0, none⟩), .int .i64 (g : Nat)] (W1.setCell ⟨c, q, none⟩ (.int .i64 ((Cq : Int) + C0))) fun e w' => e = .returned (.tuple #[]) ∧ Mem w' a p c (r.splice q g (L g)) ∧ Turn (Foot a p c) (W1.setCell ⟨c, q, none⟩ (.int .i64 ((Cq : Int) + C0))) w') := fun W1 h => by
        have n1 := h.n (i := q) HQ.out.1
        have n2 := h.n (i := g) HG.out
        change W1.cell? ⟨c, q, none⟩ = some (.int .i64 (r.C q : Nat)) at n1
        change W1.cell? ⟨c, g, none⟩ = some (.int .i64 (r.C g : Nat)) at n2
        rw [hCq] at n1
        rw [HC.out.1] at n2
        refine ⟨⟨h.c2, n1, n2, h.fc _⟩, ?_⟩
        have m4 := h.setC (i := q) HQ.out.1 (Cq + C0)
        have ee : ((Cq + C0 : Nat) : Int) = (Cq : Int) + C0 := by omega
        rw [ee] at m4
        have := empty_any _ a p c g _ m4 HG.out hi hk
        refine this.mono ?_
        rintro e2 w9 ⟨h1, h2, h3⟩
        refine ⟨h1, ?_, h3⟩
        unfold Raw.splice
        rw [hhq, hhg, hCq, HC.out.1]
        exact h2
      have HBox : Hid (∀ W1, Turn (Foot a p c) wc W1 → W1.heap[D]? = some (.deferred (some [])) ∧ W1.cell? ⟨w.heap.size, 0, none⟩ = some (.pointer (some ⟨a, 0, none⟩)) ∧ W1.cell? ⟨w.heap.size + 1, 0, none⟩ = some (.int .i64 q) ∧ W1.cell? ⟨e, 1, none⟩ = some (.int .i64 (r.A hdg : Nat))) := fun W1 h =>
        ⟨h.heap hKc hDf, by simpa using cell_at (h.heap hlc hlf) 0, by simpa using cell_at (h.heap htc htf) 0, by simpa using cell_at (h.heap HE.out.2.1 hef) 1⟩
      have HTw : Hid (Turn (Foot a p c) w wc) := hT.then (HE.out.2.2.mono (fun _ h => h.elim))
      have HMC : Hid (Mem wc.drew a p c (r.tag q (L g))) := hmc.drew
      have HTd : Hid (Turn (Foot a p c) wc wc.drew) := (Turn.refl _ _).drew
      have hgk := HG.out
      have HDf : Hid (¬ Foot a p c D) := hDf
      have HDw : Hid (w.heap.size ≤ D) := (show w.heap.size ≤ D by omega)
      have hqk := HQ.out.1
      clear hmc hmw hl ht hT hK hlc htc f1 hKc hDf hlf htf hef hA hBg hAg hQ hhd cq cg hCq hS4 hst hM4 bL bT bN bG hT4 hW4 e1 e2 e3 e4 g1 g2 g3 c1 c2 d1 d2
      go_wp2
      refine hw.out ?_
      go_wp2
      go_still_tail 11, (by kernel_rfl)
      change wpList _ _ _ _ _ wc.drew
      generalize wc.drew = w5 at HMC HTd ⊢
      go_wp2_with (first
        | (go_at_call 33; (with_reducible refine (cj _ (Hid.out HMC)).mono ?_); rintro e' w6 ⟨rfl, M6, T6⟩; obtain ⟨-, b6, -, b6'⟩ := (Hid.out HBox) w6 ((Hid.out HTd).then T6); have HM6 : Hid (Mem w6 a p c ((r.tag q (L g)).join (r.A hdq) (r.B hdg)) ∧ Turn (Foot a p c) wc w6) := ⟨M6, (Hid.out HTd).then T6⟩; clear M6 T6 cj)
        | (go_at_call 33; (with_reducible refine (cj2 _ (Hid.out HM6).1).mono ?_); rintro e' w7 ⟨rfl, M7, T7⟩; obtain ⟨-, b7, b7', -⟩ := (Hid.out HBox) w7 ((Hid.out HM6).2.then T7); obtain ⟨⟨n1, n2, n3, n4⟩, -⟩ := (Hid.out HJ2) w7 M7; have HM7 : Hid (Mem w7.drew a p c (((r.tag q (L g)).join (r.A hdq) (r.B hdg)).join (r.A hdg) hdq) ∧ Turn (Foot a p c) wc w7.drew) := ⟨M7.drew, ((Hid.out HM6).2.then T7).drew⟩; clear M7 T7 cj2))
      go_still_tail 16, (by kernel_rfl)
      change wpList _ _ _ _ _ w7.drew
      have n1' : w7.drew.cell? ⟨c, q, none⟩ = some (.int .i64 (Cq : Nat)) := n2
      have n4' : w7.drew.frozen? ⟨c, q, none⟩ = false := n4
      generalize w7.drew = w8 at HM7 n1' n4' ⊢
      have ce := ((Hid.out HJ2) w8 HM7.out.1).2
      obtain ⟨-, b8, -, -⟩ := (Hid.out HBox) (w8.setCell ⟨c, q, none⟩ (.int .i64 ((Cq : Int) + C0))) (HM7.out.2.then (foot_setC _ a p c w8))
      go_wp2_with (first
        | (go_at_call 26; (with_reducible refine ce.mono ?_); rintro e' w9 ⟨rfl, M9, T9⟩; have T9' := (HM7.out.2.then (foot_setC _ a p c w8)).then T9; obtain ⟨k9, b9, -, -⟩ := (Hid.out HBox) w9 T9'; have HM9 : Hid (Mem w9 a p c (r.splice q g (L g)) ∧ Turn (Foot a p c) wc w9) := ⟨M9, T9'⟩; clear M9 T9 T9' ce))
      refine ⟨by simp, .inl ⟨_, _, rfl, run_takeDeferred k9, ?_⟩⟩
      refine ⟨_, results_tmp rfl _ _ _, rfl, HM9.out.1.kept (turn_putObj _ _ _) (fun k hk e => HDf.out (e ▸ hk)), (HTw.out.then HM9.out.2).trans (turn_putObj _ _ _) (fun k e => .inr (by have := HDw.out; omega))⟩
  case stop =>
    rintro D c pre W _ _ h _
    exact h.elim

theorem splice_any (w : World) (a : Nat) (F : Nat → Prop) (n k : Nat) (L : Nat → List Nat) (q g : Int) (h : ListsAt w a F n k L) :
    Calls Try.prog 18 #[.pointer (some ⟨a, 0, none⟩), .int .i64 q, .int .i64 g] w fun e w' => e = .returned (.int .i64 (splS k q g)) ∧ ListsAt w' a F n k (splL k L q g) ∧ Turn F w w' := by
  unfold splL splS
  by_cases hb : inQ k q ∧ inQ k g ∧ q ≠ g
  · rw [if_pos hb, if_pos rfl]
    obtain ⟨i, rfl, hi⟩ := inQ_nat hb.1
    obtain ⟨j, rfl, hj⟩ := inQ_nat hb.2.1
    have hne : i ≠ j := fun e => hb.2.2 (by rw [e])
    obtain ⟨p, c, r, hm, hr, rfl, rfl, rfl⟩ := h
    simp only [Int.toNat_natCast]
    by_cases hl : L j = []
    · have hC : r.C j = 0 := by rw [hr.count j hj, hl]; rfl
      refine (splice_none w a p c r i j hm hi hj hne hC).mono ?_
      rintro e w' ⟨rfl, ht⟩
      refine ⟨rfl, ⟨p, c, r, hm.kept ht (fun _ _ h => h), ?_, rfl, rfl, rfl⟩, ht.mono (fun _ h => h.elim)⟩
      have e1 : upd (upd L i (L i ++ L j)) j [] = L := by
        rw [hl, List.append_nil, upd_self, ← hl, upd_self]
      rw [e1]
      exact hr
    · have hw : Hid (∀ {c : Code} {Q : Exit → Act → World → Prop} {a : Act} {w : World}, Code.wp Try.prog c Q a w → Code.wpIn Fence.wide 4 Try.prog c Q a w) := fun h => wpIn_wide.2 h
      refine (callsIn_wide.1 (splice_in Fence.wide 4 trivial trivial trivial trivial trivial rfl (Nat.le_refl _) hw w a p c r L i j hm hr hi hj hne hl)).mono ?_
      rintro e w' ⟨rfl, h1, h2⟩
      exact ⟨rfl, ⟨p, c, _, h1, hr.splice hi hj hne hl, rfl, rfl, rfl⟩, h2⟩
  · rw [if_neg hb, if_neg (by decide)]
    refine (splice_no w a F n k L q g h hb).mono ?_
    rintro e w' ⟨rfl, ht⟩
    exact ⟨rfl, h.past ht, ht.mono (fun _ h => h.elim)⟩

end Go.Proofs.Ytpfoleaampcibaa
