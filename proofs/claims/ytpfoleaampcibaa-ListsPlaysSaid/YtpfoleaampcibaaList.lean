/-
  What List tells: the items of a queue, in order, in a slice of its own; nothing that was there is turned. No conditions but that the lists are such as calls can make.
-/
import Derived.Test.YtpfoleaampcibaaIter
import Derived.Sort.EveryDepth
namespace Go.Proofs.Ytpfoleaampcibaa
open Go.RowKit Go.Shelf

attribute [local go_sem] Oper.semAt_some

theorem linfo3 : (Try.prog.info? 3).map (fun i => (i.zero, i.size, i.bytes)) = some (some (.int .i64 0), 1, 8) := by kernel_rfl
theorem lunder41 : Try.prog.underlying 41 = some (.slice 3) := by kernel_rfl

theorem len_in (F : Fence) (m : Nat) (hf : F.fn 22) (hf2 : F.fn 31) (hro : F.round = none) (h1 : 1 ≤ m) (w : World) (a c k cn : Nat) (q : Int) (hc : w.cell? ⟨a, 2, none⟩ = some (.slice (some ⟨c, 0, none⟩) k k))
    (h : inQ k q ∧ w.cell? ⟨c, q.toNat, none⟩ = some (.int .i64 cn) ∨ ¬ inQ k q ∧ cn = 0) :
    CallsIn F m Try.prog 22 #[.pointer (some ⟨a, 0, none⟩), .int .i64 q] w fun e w' => e = .returned (.int .i64 cn) ∧ w = w' := by
  rcases h with ⟨hq, h2⟩ | ⟨hq, rfl⟩
  · obtain ⟨j, rfl, hj⟩ := inQ_nat hq
    rw [Int.toNat_natCast] at h2
    have c1 := hasq_in_yes F (m - 1) hf2 hro w a c k j hc (by omega) (by omega)
    clear hq
    refine callsIn_of_wp Try.func22 rfl hf ?_ hro
    simp only [Try.ntmps22, List.size_toArray, List.length_cons, List.length_nil, Nat.reduceAdd, Nat.reduceSub, Array.replicate_succ, Array.replicate_zero, List.push_toArray, List.append_toArray, List.nil_append, List.cons_append]
    gi_wp2_with (gi_at_call 31; refine c1.mono ?_; rintro e w' ⟨rfl, rfl⟩)
    go_ret
    exact ⟨rfl, rfl⟩
  · have c1 := hasq_in_no F (m - 1) hf2 hro w a c k q hc (inQ_not hq)
    clear hq
    refine callsIn_of_wp Try.func22 rfl hf ?_ hro
    simp only [Try.ntmps22, List.size_toArray, List.length_cons, List.length_nil, Nat.reduceAdd, Nat.reduceSub, Array.replicate_succ, Array.replicate_zero, List.push_toArray, List.append_toArray, List.nil_append, List.cons_append]
    gi_wp2_with (gi_at_call 31; refine c1.mono ?_; rintro e w' ⟨rfl, rfl⟩)
    go_ret
    exact ⟨rfl, rfl⟩

/-- What goes through any queue stops as 'SeqStopsK' says. -/
theorem all_stops (F : Fence) (m : Nat) (hf : F.fn 35) (hf2 : F.fn 31) (hf3 : F.fn 28) (hro : F.round = none) (hn : 2 ≤ m) (Ba Bb a p c : Nat) (q : Int) (r : Raw) (L : Nat → List Nat) (hr : Rep r L) (w : World)
    (hS : Sees Ba Bb a p c r.items r.queues q r.B w) :
    SeqStopsK F m Try.prog 35 #[.pointer (some ⟨Ba, 0, none⟩), .pointer (some ⟨Bb, 0, none⟩)] (fun x : Int => #[Value.int .i64 x]) (KpSees Ba Bb a p c r.items r.queues q r.B) (fun ys => ys = castL (listOf r.queues L q))
      (fun pre => ∃ j, j ≤ (listOf r.queues L q).length ∧ pre = (castL (listOf r.queues L q)).take j) (listOf r.queues L q).length w := by
  intro l J Jx W hW _ _ hY h0
  have hp : p < w.heap.size ∨ r.items + r.queues = 0 := by
    by_cases h : r.items + r.queues = 0
    · exact .inr h
    · exact .inl (World.block_lt_of_cell? w _ (hS.way 0 (by omega)))
  have hS' : Sees Ba Bb a p c r.items r.queues q r.B W := by
    refine ⟨(hW.block _ hS.ba.lt).trans hS.ba, (hW.block _ hS.bb.lt).trans hS.bb, (hW.block _ (lt_of_block hS.head)).trans hS.head, fun i hi => ?_⟩
    exact (hW.cell (p := ⟨p, i * 3 + 2, none⟩) (World.block_lt_of_cell? w _ (hS.way i hi))).trans (hS.way i hi)
  clear hp
  unfold listOf at hY ⊢
  by_cases hq : inQ r.queues q
  · rw [if_pos hq] at hY ⊢
    obtain ⟨j, rfl, hj⟩ := inQ_nat hq
    simp only [Int.toNat_natCast] at hY ⊢
    refine (way_in F m hf hf2 hf3 hro hn l Ba Bb a p c r.items r.queues j _ r.B r.A (L j) hj hr.items hr.queues rfl (hr.chain j hj) (fun x hx => (hr.inn j hj x hx).1) (fun i => J (castL ((L j).take i))) (fun i => Jx (castL ((L j).take i))) ?_ W hS' h0).mono ?_
    · intro i x W1 hJ hi hx
      have e := castL_snoc (L j) i hi
      rw [← hx] at e
      have := hY _ (x : Int) W1 hJ (by simp [castL]; omega)
      rw [← e] at this
      exact this
    · rintro e W' ⟨hv, h⟩
      refine ⟨hv, ?_⟩
      rcases h with h | ⟨i, hi, h⟩
      · rw [List.take_length] at h
        exact .inl ⟨_, rfl, h⟩
      · exact .inr ⟨_, ⟨i, hi, castL_take _ _⟩, h⟩
  · rw [if_neg hq] at hY ⊢
    refine (way_none F m hf hf2 hro hn l Ba Bb a p c r.items r.queues q r.B hq (fun _ => J []) (fun _ => Jx []) W hS' h0).mono ?_
    rintro e W' ⟨hv, h⟩
    refine ⟨hv, ?_⟩
    rcases h with h | ⟨i, hi, h⟩
    · exact .inl ⟨_, rfl, h⟩
    · exact .inr ⟨_, ⟨i, hi, by simp [castL]⟩, h⟩

set_option maxRecDepth 100000 in
set_option maxHeartbeats 2000000 in
theorem list_in (F : Fence) (n : Nat) (hf : F.fn 25) (hf1 : F.fn 34) (hf2 : F.fn 35) (hf3 : F.fn 22) (hf4 : F.fn 31) (hf5 : F.fn 28) (hro : F.round = none) (hn : 4 ≤ n) (w : World) (a p c : Nat) (r : Raw) (L : Nat → List Nat) (q : Int) (hm : Mem w a p c r) (hr : Rep r L) :
    CallsIn F n Try.prog 25 #[.pointer (some ⟨a, 0, none⟩), .int .i64 q] w fun e W' => ∃ v, e = .returned v ∧ W'.ownsRow w.heap.size 3 1 v (castL (listOf r.queues L q)).length ((castL (listOf r.queues L q)).map (Value.int .i64)) ∧ Below w.heap.size w W' := by
  have h1 : 1 ≤ n := by omega
  obtain ⟨i0, hi, hz0, hz1, hz2⟩ := info_parts linfo3
  have hlen : (listOf r.queues L q).length ≤ 65536 := by
    unfold listOf
    by_cases hq : inQ r.queues q
    · rw [if_pos hq]
      obtain ⟨j, rfl, hj⟩ := inQ_nat hq
      have := hr.len_le hj
      have := hr.items
      simp only [Int.toNat_natCast]
      omega
    · rw [if_neg hq]; simp
  have hlc : inQ r.queues q ∧ w.cell? ⟨c, q.toNat, none⟩ = some (.int .i64 (listOf r.queues L q).length) ∨ ¬ inQ r.queues q ∧ (listOf r.queues L q).length = 0 := by
    unfold listOf
    by_cases hq : inQ r.queues q
    · rw [if_pos hq]
      obtain ⟨j, rfl, hj⟩ := inQ_nat hq
      simp only [Int.toNat_natCast]
      exact .inl ⟨hq, by rw [← hr.count j hj]; exact hm.n hj⟩
    · rw [if_neg hq]; exact .inr ⟨hq, rfl⟩
  obtain ⟨l, hl⟩ : ∃ l, listOf r.queues L q = l := ⟨_, rfl⟩
  rw [hl] at hlc hlen ⊢
  obtain ⟨cn, hcn⟩ : ∃ cn, l.length = cn := ⟨_, rfl⟩
  rw [hcn] at hlc hlen
  have HL : Hid (listOf r.queues L q = l) := hl
  have cl := len_in F (n - 1) hf3 hf4 hro (by omega) w a c r.queues cn q hm.c2 hlc
  have b2 : i0.bytes * cn ≤ 281474976710656 := by rw [hz2]; omega
  have b3 : cn ≤ maxLen := by unfold maxLen; omega
  have HM : Hid (Mem w a p c r) := hm
  have HR : Hid (Rep r L) := hr
  have HCn : Hid (l.length = cn) := hcn
  clear hm hr hlc hcn hl
  refine callsIn_of_wp_marks Try.func25 rfl hf ?_ hro
  simp only [Try.ntmps25, List.size_toArray, List.length_cons, List.length_nil, Nat.reduceAdd, Nat.reduceSub, Array.replicate_succ, Array.replicate_zero, List.push_toArray, List.append_toArray, List.nil_append, List.cons_append]
  gi_wp2_with (first
    | (gi_at_call 22; refine cl.mono ?_; rintro e w' ⟨rfl, rfl⟩)
    | (gi_at_make; refine wpListIn_make_own _ rfl _ _ 41 rfl w.heap.size 3 i0 _ 1 lunder41 hi hz0 hz1 .i64 .i64 _ cn rfl rfl rfl b2 b3 (Nat.le_refl _) ?_; intro w1 hown hgrow; have O1 : Hid (w1.ownsRow w.heap.size 3 1 (.slice (some ⟨w.heap.size, 0, none⟩) 0 cn) 0 []) := hown; have G1 : Hid (w.grownBy w1 none) := hgrow; clear hown hgrow)
    | (gi_at_call 34; refine (all_in F (n - 1) hf1 hro _ _ _).mono ?_; rintro e w' ⟨rfl, rfl⟩))
  have hg1 := G1.out.size
  have hg2 : w.heap.size < w1.heap.size := by obtain ⟨cur, hcur⟩ := own_block (own_base O1.out) (k := w.heap.size) rfl; exact lt_of_block hcur
  have hfoot : ∀ k, Foot a p c k → k < w.heap.size := fun k hk => HM.out.lt hk
  have ha := hfoot a (.inl rfl)
  have hp := hfoot p (.inr (.inl rfl))
  have hll : l.length ≤ 65536 := by rw [HCn.out]; exact hlen
  have bO := Boxed.new w1 41 (.slice (some ⟨w.heap.size, 0, none⟩) 0 cn)
  have bN := Boxed.new (w1.alloc (.cells #[.slice (some ⟨w.heap.size, 0, none⟩) 0 cn] 41)) 23 (.pointer (some ⟨a, 0, none⟩))
  have bQ := Boxed.new ((w1.alloc (.cells #[.slice (some ⟨w.heap.size, 0, none⟩) 0 cn] 41)).alloc (.cells #[.pointer (some ⟨a, 0, none⟩)] 23)) 3 (.int .i64 q)
  rw [World.size_alloc] at bN bQ
  rw [World.size_alloc] at bQ
  have hB1 : Below w.heap.size w w1 := (Below.refl _ w).grown G1.out (Nat.le_refl _) (fun k e => by cases e)
  have hB0 : Below w.heap.size w (((w1.alloc (.cells #[.slice (some ⟨w.heap.size, 0, none⟩) 0 cn] 41)).alloc (.cells #[.pointer (some ⟨a, 0, none⟩)] 23)).alloc (.cells #[.int .i64 q] 3)) := ((hB1.alloc hg1 _).alloc (by simp; omega) _).alloc (by simp; omega) _
  have hM0 : Mem (((w1.alloc (.cells #[.slice (some ⟨w.heap.size, 0, none⟩) 0 cn] 41)).alloc (.cells #[.pointer (some ⟨a, 0, none⟩)] 23)).alloc (.cells #[.int .i64 q] 3)) a p c r := HM.out.kept (turn_of_below hB0) (fun _ _ h => h)
  have hS0 := sees_of hM0 (bN.alloc _) bQ
  have hst := all_stops F (n - 1) hf2 hf4 hf5 hro (by omega) (w1.heap.size + 1) (w1.heap.size + 1 + 1) a p c q r L HR.out _ hS0
  rw [HL.out] at hst
  refine wpIn_rangeFunc_ownG hro h1 (gf := 35) (lb := #[.pointer (some ⟨w1.heap.size + 1, 0, none⟩), .pointer (some ⟨w1.heap.size + 1 + 1, 0, none⟩)]) rfl hf2 (enters_of Try.func35 (by kernel_rfl) rfl)
    hst (fun h k => KpSees.trans h k) (KpSees.put (by simp) (by simp) (by simp; omega) (by simp; omega)) (Below.refl _ _) (fun _ => rfl)
    (fun pre W => ((∃ v, Boxed W w1.heap.size 41 v ∧ W.ownsRow w.heap.size 3 1 v pre.length (pre.map (Value.int .i64)) ∧ v = .slice (some ⟨w.heap.size, 0, none⟩) pre.length cn) ∧ Boxed W (w1.heap.size + 1) 23 (.pointer (some ⟨a, 0, none⟩)) ∧ Boxed W (w1.heap.size + 1 + 1) 3 (.int .i64 q)) ∧ Below w.heap.size w W)
    (fun _ _ _ => False)
    (OwnFrom.and (OwnFrom.and (Own.from (holdsRow_own w.heap.size w1.heap.size 41 3 1 (fun (pre : List Int) => pre.length) (fun (pre : List Int) => pre.map (Value.int .i64)) (fun (pre : List Int) v => v = .slice (some ⟨w.heap.size, 0, none⟩) pre.length cn)) _) (OwnFrom.and (Own.from (boxed_own (w1.heap.size + 1) 23 (fun _ => .pointer (some ⟨a, 0, none⟩))) _) (Own.from (boxed_own (w1.heap.size + 1 + 1) 3 (fun _ => .int .i64 q)) _))) (ownFrom_below (Nat.le_refl _) (by simp; omega)))
    (fun _ _ _ _ _ hs _ _ => hs)
    ⟨⟨⟨_, (bO.alloc _).alloc _, ((O1.out.alloc _).alloc _).alloc _, rfl⟩, bN.alloc _, bQ⟩, hB0⟩
    (fun x => { tmps := #[.pointer (some ⟨a, 0, none⟩), .int .i64 q, undef, undef, .slice none 0 0, .pointer (some ⟨w1.heap.size, 0, none⟩), .int .i64 x, .pointer (some ⟨a, 0, none⟩), .int .i64 q, .int .i64 cn, .slice (some ⟨w.heap.size, 0, none⟩) 0 cn, .pointer (some ⟨a, 0, none⟩), .int .i64 q, .func (.func 35) #[] #[.pointer (some ⟨w1.heap.size + 1, 0, none⟩), .pointer (some ⟨w1.heap.size + 1 + 1, 0, none⟩)], .int .i64 x, undef, undef, undef, undef, undef], defers := [] }) ?assign ?body ?done ?stop
  case assign =>
    intro l x W K hK
    gi_wp2
    exact hK
  case body =>
    rintro l' pre x W ⟨⟨⟨v, hv, hrow, rfl⟩, hpn, hpq⟩, hB⟩ hlt
    have hc := hv.cell
    gi_wp2_with (gi_at_builtin; refine wpListIn_append_fits _ rfl _ _ 41 rfl w.heap.size 3 i0 1 lunder41 hi hz1 w.heap.size pre.length cn _ rfl (hrow.alloc _) ⟨W.heap.size, 0, none⟩ 1 1 [.int .i64 x] rfl rfl (cell_one_new _ _ _) (by simp [Value.oneCell']) (by have := HCn.out; omega) ?_; intro w2 hown' hgrow; have hp1 := (hpn.alloc (.cells #[.int .i64 x] 3)).kept hgrow (fun e => by injection e with e; omega); have hq1 := (hpq.alloc (.cells #[.int .i64 x] 3)).kept hgrow (fun e => by injection e with e; omega); obtain ⟨hv1, hv2, hr2, hk2, hb2⟩ := hv.appended (by decide) hrow hB.size hg1 hown' hgrow; have hc1 := hv1.cell; have hf1 := hv1.frozen)
    have hp2 := hp1.other (B' := w1.heap.size) (by omega) (.slice (some ⟨w.heap.size, 0, none⟩) (pre.length + 1) cn)
    have hq2 := hq1.other (B' := w1.heap.size) (by omega) (.slice (some ⟨w.heap.size, 0, none⟩) (pre.length + 1) cn)
    refine ⟨hk2.from _, fun s => ⟨hp2, hq2, (hb2.block _ ha).trans s.head, fun i hi => (hb2.cell (p := ⟨p, i * 3 + 2, none⟩) hp).trans (s.way i hi)⟩, ⟨⟨_, hv2, by simpa using hr2, by simp⟩, hp2, hq2⟩, hB.trans hb2⟩
  case done =>
    rintro D ys W hD rfl ⟨⟨⟨v, hv, hrow, -⟩, -, -⟩, hB⟩ hK
    have hc := hv.cell
    gi_wp2
    refine ⟨by simp, .inl ⟨_, _, rfl, run_takeDeferred hK, ?_⟩⟩
    exact ⟨_, results_tmp rfl _ _ _, v, rfl, ownsRow_putObj hrow _ hK rfl, hB.trans (belowK_b (w := w) (Nat.le_refl _) W D _ _ (by simp at hD; omega) hK rfl rfl)⟩
  case stop =>
    rintro D c pre W _ _ h _
    exact h.elim

theorem list_any (w : World) (a : Nat) (F : Nat → Prop) (n k : Nat) (L : Nat → List Nat) (q : Int) (h : ListsAt w a F n k L) :
    Calls Try.prog 25 #[.pointer (some ⟨a, 0, none⟩), .int .i64 q] w fun e W' => ∃ v, e = .returned v ∧ Ints v (castL (listOf k L q)) W' ∧ (∀ j, Blk v j → w.heap.size ≤ j) ∧ Turn NoBlock w W' := by
  obtain ⟨p, c, r, hm, hr, rfl, rfl, rfl⟩ := h
  refine (calls_of_every_depth (L := [25, 34, 35, 22, 31, 28]) (n := 4) fun D =>
    list_in _ 4 (by simp [Fence.list]) (by simp [Fence.list]) (by simp [Fence.list]) (by simp [Fence.list]) (by simp [Fence.list]) (by simp [Fence.list]) rfl (Nat.le_refl _) w a p c r L q hm hr).mono ?_
  rintro e w' ⟨v, rfl, h1, h2⟩
  refine ⟨v, rfl, own_base h1, fun j hj => ?_, turn_of_below h2⟩
  rcases h1.2 with ⟨rfl, _⟩ | ⟨g, cap, cur, rfl, hb, _⟩
  · simp [Blk, Value.ownBlock] at hj
  · simp [Blk, Value.ownBlock] at hj
    omega

end Go.Proofs.Ytpfoleaampcibaa
