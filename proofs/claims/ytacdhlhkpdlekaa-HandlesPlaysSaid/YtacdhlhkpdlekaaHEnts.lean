/-
  What Entries of a table tells: the entries of all places that are taken, by rising places, in a slice of its own; nothing that was there is turned. No conditions but that the table is one that calls can make.
-/
import Derived.Test.YtacdhlhkpdlekaaHVals
import Derived.Test.YtacdhlhkpdlekaaHMany
namespace Go.Proofs.Ytacdhlhkpdlekaa
open Go.RowKit Go.Shelf

attribute [local go_sem] Oper.semAt_some

def entsL (l : List Pl) : List Value := entsOf (l.map (·.e))
theorem entsL_snoc (l : List Pl) (p : Pl) : entsL (l ++ [p]) = entsL l ++ p.e.cells := by simp [entsL, entsOf_snoc]

set_option maxRecDepth 100000 in
set_option maxHeartbeats 2000000 in
theorem entries_in (F : Fence) (n : Nat) (hf : F.fn 16) (hf0 : F.fn 17) (hf1 : F.fn 40) (hf2 : F.fn 51) (hro : F.round = none) (hn : 4 ≤ n) (w : World) (a cap : Nat) (vs vf : Value) (ps : List Pl) (fr : List Nat) (hA : TMem w a vs vf cap ps fr) (ok : TOK cap ps fr) :
    CallsIn F n Try.prog 16 #[.pointer (some ⟨a, 0, none⟩)] w fun e W' => ∃ v, e = .returned v ∧ W'.ownsRow w.heap.size 33 3 v (takenL ps).length (entsL (takenL ps)) ∧ Below w.heap.size w W' := by
  have h1 : 1 ≤ n := by omega
  obtain ⟨i0, hi, hz0, hz1, hz2⟩ := info_parts info33
  have hl : ps.length ≤ 65536 := by have := ok.len; have := ok.top; omega
  have hfr := fr_len ok
  have c0 := count_in F (n - 1) hf0 hro w a cap vs vf ps fr hA hl hfr
  obtain ⟨cn, hcn⟩ : ∃ cn, ps.length - fr.length = cn := ⟨_, rfl⟩
  have hcnt : cn ≤ 65536 := by omega
  rw [hcn] at c0
  have b2 : i0.bytes * cn ≤ 281474976710656 := by rw [hz2]; omega
  have b3 : cn ≤ maxLen := by unfold maxLen; omega
  have HA : Hid (TMem w a vs vf cap ps fr) := hA
  clear hA ok hcn hfr
  refine callsIn_of_wp_marks Try.func16 rfl hf ?_ hro
  simp only [Try.ntmps16, List.size_toArray, List.length_cons, List.length_nil, Nat.reduceAdd, Nat.reduceSub, Array.replicate_succ, Array.replicate_zero, List.push_toArray, List.append_toArray, List.nil_append, List.cons_append]
  gi_wp2_with (first
    | (gi_at_call 17; refine c0.mono ?_; rintro e w' ⟨rfl, dr, rfl⟩)
    | (gi_at_make; refine wpListIn_make_own _ rfl _ _ 42 rfl w.heap.size 33 i0 _ 3 slice42 hi hz0 hz1 .i64 .i64 _ cn rfl rfl rfl b2 b3 (Nat.le_refl _) ?_; intro w1 hown hgrow; have O1 : Hid (w1.ownsRow w.heap.size 33 3 (.slice (some ⟨w.heap.size, 0, none⟩) 0 cn) 0 []) := hown; have G1 : Hid ((w.drewN dr).grownBy w1 none) := hgrow; clear hown hgrow)
    | (gi_at_call 40; refine (all_in F (n - 1) hf1 hro _ _).mono ?_; rintro e w' ⟨rfl, rfl⟩))
  have hg1 : w.heap.size ≤ w1.heap.size := G1.out.size
  have hfoot : ∀ k, Foot a vs vf k → k < w.heap.size := fun k hk => Foot.lt HA.out hk
  have bO := Boxed.new w1 42 (.slice (some ⟨w.heap.size, 0, none⟩) 0 cn)
  have bN := Boxed.new (w1.alloc (.cells #[.slice (some ⟨w.heap.size, 0, none⟩) 0 cn] 42)) 23 (.pointer (some ⟨a, 0, none⟩))
  rw [World.size_alloc] at bN
  have hB1 : Below w.heap.size w w1 := (show Below w.heap.size w (w.drewN dr) from ⟨rfl, rfl, rfl, Nat.le_refl _, fun _ _ => rfl⟩).grown G1.out (Nat.le_refl _) (fun k e => by cases e)
  have hB0 : Below w.heap.size w ((w1.alloc (.cells #[.slice (some ⟨w.heap.size, 0, none⟩) 0 cn] 42)).alloc (.cells #[.pointer (some ⟨a, 0, none⟩)] 23)) := (hB1.alloc hg1 _).alloc (by simp; omega) _
  refine wpIn_rangeFunc_ownH hro h1 (gf := 51) (lb := #[.pointer (some ⟨w1.heap.size + 1, 0, none⟩)]) rfl hf2 (enters_of Try.func51 (by kernel_rfl) rfl)
    (all_stops F (n - 1) hf2 hro (by omega) (w1.heap.size + 1) w.heap.size a cap vs vf ps fr hl hfoot _ (by simp) (by simp; omega) bN.cell (HA.out.below hB0 hfoot)) KpBox.trans (KpBox.put (by simp; omega) (by simp)) (Below.refl _ _) (fun _ => rfl)
    (fun pre W => (∃ v, Boxed W w1.heap.size 42 v ∧ W.ownsRow w.heap.size 33 3 v pre.length (entsL pre) ∧ True) ∧ Boxed W (w1.heap.size + 1) 23 (.pointer (some ⟨a, 0, none⟩)) ∧ Below w.heap.size w W)
    (fun _ _ _ => False)
    (OwnFrom.and (Go.Own.from (holdsRow_own w.heap.size w1.heap.size 42 33 3 (fun (pre : List Pl) => pre.length) entsL (fun _ _ => True)) _) (OwnFrom.and (Go.Own.from (boxed_own (w1.heap.size + 1) 23 (fun _ => .pointer (some ⟨a, 0, none⟩))) _) (ownFrom_below (Nat.le_refl _) (by simp; omega))))
    (fun _ _ _ _ _ hs _ _ => hs)
    ⟨⟨_, bO.alloc _, (O1.out.alloc _).alloc _, trivial⟩, bN, hB0⟩
    (fun x a' W => ∃ Bx, w1.heap.size + 1 < Bx ∧ W.heap[Bx]? = some (.cells #[.int .i64 x.e.o, .int .i64 x.e.k, .int .i64 x.e.r] 33 (0, 0)) ∧ a' = { tmps := #[.pointer (some ⟨a, 0, none⟩), undef, .slice none 0 0, .pointer (some ⟨w1.heap.size, 0, none⟩), undef, .pointer (some ⟨Bx, 0, none⟩), .pointer (some ⟨a, 0, none⟩), .int .i64 cn, .slice (some ⟨w.heap.size, 0, none⟩) 0 cn, .pointer (some ⟨a, 0, none⟩), .func (.func 51) #[] #[.pointer (some ⟨w1.heap.size + 1, 0, none⟩)], .int .i64 x.value, x.e.agg, undef, undef, undef, undef, undef], defers := [] })
    (fun x a' _ X Y row hs hg hr => by
      obtain ⟨Bx, g1, g2, g3⟩ := hs
      refine ⟨Bx, g1, (hg.block Bx (Array.getElem?_eq_some_iff.1 g2).1 (fun e => ?_)).trans g2, g3⟩
      obtain ⟨-, o, ho, hoc⟩ := hr Bx e.symm
      rw [g2] at ho
      cases ho
      cases hoc)
    ?assign ?body ?done ?stop
  case assign =>
    rintro l pre x W K ⟨⟨v, hv, hrow, -⟩, hp, hB⟩ hK
    unfold Ent.agg at hK ⊢
    gi_wp2
    exact hK _ _ ((KeepsOthers.alloc _ _).from _) (KpBox.alloc _ hB.size hp.lt) ⟨⟨v, hv.alloc _, hrow.alloc _, trivial⟩, hp.alloc _, hB.alloc hB.size _⟩ ⟨W.heap.size, hp.lt, heap_alloc_new W _, rfl⟩
  case body =>
    rintro l pre x a' W hl' ⟨r, hr⟩ ⟨⟨v, hv, hrow, -⟩, hp, hB⟩ ⟨Bx, hBx, bX, rfl⟩ hlt
    have hc := hv.cell
    have x0 := cell_at bX 0
    have x1 := cell_at bX 1
    have x2 := cell_at bX 2
    simp at x0 x1 x2
    gi_wp2_with (gi_at_builtin; refine wpListIn_append_own _ rfl _ _ 42 rfl w.heap.size 33 i0 _ 3 24 slice42 hi hz0 hz1 hz2 rfl (by decide) _ _ _ rfl (hrow.alloc _) ⟨W.heap.size, 0, none⟩ 1 1 [.int .i64 x.e.o, .int .i64 x.e.k, .int .i64 x.e.r] rfl rfl (fun j u hu => World.news_of_block (heap_alloc_new W _) j u (by simpa using hu)) (by intro u hu; simp at hu; rcases hu with rfl | rfl | rfl <;> rfl) (by unfold maxLen; omega) (by omega) (by have := hB.size; simp; omega) ?_; intro v' w2 hown' hgrow _; obtain ⟨g', cap', rfl⟩ := ownsRow_succ hown'; have hp1 := (hp.alloc (.cells #[.int .i64 x.e.o, .int .i64 x.e.k, .int .i64 x.e.r] 33)).kept hgrow (hp.not_row (by decide) hrow); obtain ⟨hv1, hv2, hr2, hk2, hb2⟩ := hv.appended (by decide) hrow hB.size hg1 hown' hgrow; have hc1 := hv1.cell; have hf1 := hv1.frozen)
    have hp2 := hp1.other (B' := w1.heap.size) (by omega) (.slice (some ⟨g', 0, none⟩) (pre.length + 1) cap')
    exact ⟨hk2.from _, ⟨hb2, hp2.cell.trans hp.cell.symm⟩, ⟨_, hv2, by rw [entsL_snoc]; simpa [Ent.cells] using hr2, trivial⟩, hp2, hB.trans hb2⟩
  case done =>
    rintro D ys W hD rfl ⟨⟨v, hv, hrow, -⟩, hp, hB⟩ hK
    have hc := hv.cell
    gi_wp2
    refine ⟨by simp, .inl ⟨_, _, rfl, run_takeDeferred hK, ?_⟩⟩
    exact ⟨_, results_tmp rfl _ _ _, v, rfl, ownsRow_putObj hrow _ hK rfl, hB.trans (belowK_b (w := w) (Nat.le_refl _) W D _ _ (by simp at hD; omega) hK rfl rfl)⟩
  case stop =>
    rintro D c pre W _ _ h _
    exact h.elim

theorem entries_any {w : World} {a : Nat} {F : Nat → Prop} {L : List Pl} (h : TableAt w a F L) :
    Calls Try.prog 16 #[.pointer (some ⟨a, 0, none⟩)] w fun e W' => ∃ v, e = .returned v ∧ Ents v ((takenL L).map (·.e)) W' ∧ (∀ j, Blk v j → w.heap.size ≤ j) ∧ Turn NoBlock w W' := by
  obtain ⟨vs, vf, cap, ps, fr, hh, ok, rfl, rfl⟩ := h
  rw [taken_pad]
  refine (calls_of_every_depth (L := [16, 17, 40, 51]) (n := 4) fun D =>
    entries_in _ 4 (by simp [Fence.list]) (by simp [Fence.list]) (by simp [Fence.list]) (by simp [Fence.list]) rfl (Nat.le_refl _) w a cap vs vf ps fr hh ok).mono ?_
  rintro e W' ⟨v, rfl, hO, hB⟩
  refine ⟨v, rfl, ?_, fun j hj => ?_, turn_of_below hB⟩
  · unfold Ents
    rw [List.length_map]
    exact own_base hO
  · rcases hO.2 with ⟨rfl, _⟩ | ⟨g, cap', cur, rfl, hb, _⟩
    · exact (blk_nil j hj).elim
    · simp [Blk, Value.ownBlock] at hj; omega
end Go.Proofs.Ytacdhlhkpdlekaa
