/-
  What Values of a table tells: the values of all places that are taken, by rising places, in a slice of its own; nothing that was there is turned. No conditions but that the table is one that calls can make.
-/
import Derived.Test.YtacdhlhkpdlekaaHIter
import Derived.Sort.EveryDepth
namespace Go.Proofs.Ytacdhlhkpdlekaa
open Go.RowKit Go.Shelf

attribute [local go_sem] Oper.semAt_some

theorem ints27 : Try.prog.underlying 27 = some (.slice 3) := by kernel_rfl
def valsOf (l : List Pl) : List Value := l.map fun p => .int .i64 p.value

set_option maxRecDepth 100000 in
set_option maxHeartbeats 2000000 in
theorem values_in (F : Fence) (n : Nat) (hf : F.fn 14) (hf0 : F.fn 17) (hf1 : F.fn 40) (hf2 : F.fn 51) (hro : F.round = none) (hn : 4 ≤ n) (w : World) (a cap : Nat) (vs vf : Value) (ps : List Pl) (fr : List Nat) (hA : TMem w a vs vf cap ps fr) (ok : TOK cap ps fr) :
    CallsIn F n Try.prog 14 #[.pointer (some ⟨a, 0, none⟩)] w fun e W' => ∃ v, e = .returned v ∧ W'.ownsRow w.heap.size 3 1 v (takenL ps).length (valsOf (takenL ps)) ∧ Below w.heap.size w W' := by
  have h1 : 1 ≤ n := by omega
  obtain ⟨i0, hi, hz0, hz1, hz2⟩ := info_parts info3
  have hl : ps.length ≤ 65536 := by have := ok.len; have := ok.top; omega
  have hfr := fr_len ok
  have c0 := count_in F (n - 1) hf0 hro w a cap vs vf ps fr hA hl hfr
  obtain ⟨cn, hcn⟩ : ∃ cn, ps.length - fr.length = cn := ⟨_, rfl⟩
  have hcnt : cn ≤ 65536 := by omega
  rw [hcn] at c0
  have b2 : i0.bytes * cn ≤ 281474976710656 := by rw [hz2]; omega
  have b3 : cn ≤ maxLen := by unfold maxLen; omega
  have HA : Hid (TMem w a vs vf cap ps fr) := hA
  clear hA ok hcn hfr
  refine callsIn_of_wp_marks Try.func14 rfl hf ?_ hro
  simp only [Try.ntmps14, List.size_toArray, List.length_cons, List.length_nil, Nat.reduceAdd, Nat.reduceSub, Array.replicate_succ, Array.replicate_zero, List.push_toArray, List.append_toArray, List.nil_append, List.cons_append]
  gi_wp2_with (first
    | (gi_at_call 17; refine c0.mono ?_; rintro e w' ⟨rfl, dr, rfl⟩)
    | (gi_at_make; refine wpListIn_make_own _ rfl _ _ 27 rfl w.heap.size 3 i0 _ 1 ints27 hi hz0 hz1 .i64 .i64 _ cn rfl rfl rfl b2 b3 (Nat.le_refl _) ?_; intro w1 hown hgrow; have O1 : Hid (w1.ownsRow w.heap.size 3 1 (.slice (some ⟨w.heap.size, 0, none⟩) 0 cn) 0 []) := hown; have G1 : Hid ((w.drewN dr).grownBy w1 none) := hgrow; clear hown hgrow)
    | (gi_at_call 40; refine (all_in F (n - 1) hf1 hro _ _).mono ?_; rintro e w' ⟨rfl, rfl⟩))
  have hg1 : w.heap.size ≤ w1.heap.size := G1.out.size
  have hfoot : ∀ k, Foot a vs vf k → k < w.heap.size := fun k hk => Foot.lt HA.out hk
  have bO := Boxed.new w1 27 (.slice (some ⟨w.heap.size, 0, none⟩) 0 cn)
  have bN := Boxed.new (w1.alloc (.cells #[.slice (some ⟨w.heap.size, 0, none⟩) 0 cn] 27)) 23 (.pointer (some ⟨a, 0, none⟩))
  rw [World.size_alloc] at bN
  have hB1 : Below w.heap.size w w1 := (show Below w.heap.size w (w.drewN dr) from ⟨rfl, rfl, rfl, Nat.le_refl _, fun _ _ => rfl⟩).grown G1.out (Nat.le_refl _) (fun k e => by cases e)
  have hB0 : Below w.heap.size w ((w1.alloc (.cells #[.slice (some ⟨w.heap.size, 0, none⟩) 0 cn] 27)).alloc (.cells #[.pointer (some ⟨a, 0, none⟩)] 23)) := (hB1.alloc hg1 _).alloc (by simp; omega) _
  refine wpIn_rangeFunc_ownG hro h1 (gf := 51) (lb := #[.pointer (some ⟨w1.heap.size + 1, 0, none⟩)]) rfl hf2 (enters_of Try.func51 (by kernel_rfl) rfl)
    (all_stops F (n - 1) hf2 hro (by omega) (w1.heap.size + 1) w.heap.size a cap vs vf ps fr hl hfoot _ (by simp) (by simp; omega) bN.cell (HA.out.below hB0 hfoot)) KpBox.trans (KpBox.put (by simp; omega) (by simp)) (Below.refl _ _) (fun _ => rfl)
    (fun pre W => (∃ v, Boxed W w1.heap.size 27 v ∧ W.ownsRow w.heap.size 3 1 v pre.length (valsOf pre) ∧ True) ∧ Boxed W (w1.heap.size + 1) 23 (.pointer (some ⟨a, 0, none⟩)) ∧ Below w.heap.size w W)
    (fun _ _ _ => False)
    (OwnFrom.and (Go.Own.from (holdsRow_own w.heap.size w1.heap.size 27 3 1 (fun (pre : List Pl) => pre.length) valsOf (fun _ _ => True)) _) (OwnFrom.and (Go.Own.from (boxed_own (w1.heap.size + 1) 23 (fun _ => .pointer (some ⟨a, 0, none⟩))) _) (ownFrom_below (Nat.le_refl _) (by simp; omega))))
    (fun _ _ _ _ _ hs _ _ => hs)
    ⟨⟨_, bO.alloc _, (O1.out.alloc _).alloc _, trivial⟩, bN, hB0⟩
    (fun x => { tmps := #[.pointer (some ⟨a, 0, none⟩), undef, .slice none 0 0, .pointer (some ⟨w1.heap.size, 0, none⟩), .int .i64 x.value, .pointer (some ⟨a, 0, none⟩), .int .i64 cn, .slice (some ⟨w.heap.size, 0, none⟩) 0 cn, .pointer (some ⟨a, 0, none⟩), .func (.func 51) #[] #[.pointer (some ⟨w1.heap.size + 1, 0, none⟩)], .int .i64 x.value, x.e.agg, undef, undef, undef, undef, undef], defers := [] }) ?assign ?body ?done ?stop
  case assign =>
    intro l x W K hK
    gi_wp2
    exact hK
  case body =>
    rintro l pre x W ⟨⟨v, hv, hrow, -⟩, hp, hB⟩ hlt
    have hc := hv.cell
    gi_wp2_with (gi_at_builtin; refine wpListIn_append_own _ rfl _ _ 27 rfl w.heap.size 3 i0 (.int .i64 0) 1 8 ints27 hi hz0 hz1 hz2 rfl (by decide) _ _ _ rfl (hrow.alloc _) ⟨W.heap.size, 0, none⟩ 1 1 [.int .i64 x.value] rfl rfl (cell_one_new _ _ _) (by simp [Value.oneCell']) (by unfold maxLen; omega) (by omega) (by have := hB.size; simp; omega) ?_; intro v' w2 hown' hgrow _; obtain ⟨g', cap', rfl⟩ := ownsRow_succ hown'; have hp1 := (hp.alloc (.cells #[.int .i64 x.value] 3)).kept hgrow (hp.not_row (by decide) hrow); obtain ⟨hv1, hv2, hr2, hk2, hb2⟩ := hv.appended (by decide) hrow hB.size hg1 hown' hgrow; have hc1 := hv1.cell; have hf1 := hv1.frozen)
    have hp2 := hp1.other (B' := w1.heap.size) (by omega) (.slice (some ⟨g', 0, none⟩) (pre.length + 1) cap')
    exact ⟨hk2.from _, ⟨hb2, hp2.cell.trans hp.cell.symm⟩, ⟨_, hv2, by simpa [valsOf] using hr2, trivial⟩, hp2, hB.trans hb2⟩
  case done =>
    rintro D ys W hD rfl ⟨⟨v, hv, hrow, -⟩, hp, hB⟩ hK
    have hc := hv.cell
    gi_wp2
    refine ⟨by simp, .inl ⟨_, _, rfl, run_takeDeferred hK, ?_⟩⟩
    exact ⟨_, results_tmp rfl _ _ _, v, rfl, ownsRow_putObj hrow _ hK rfl, hB.trans (belowK_b (w := w) (Nat.le_refl _) W D _ _ (by simp at hD; omega) hK rfl rfl)⟩
  case stop =>
    rintro D c pre W _ _ h _
    exact h.elim

theorem values_any {w : World} {a : Nat} {F : Nat → Prop} {L : List Pl} (h : TableAt w a F L) :
    Calls Try.prog 14 #[.pointer (some ⟨a, 0, none⟩)] w fun e W' => ∃ v, e = .returned v ∧ W'.ownsRow w.heap.size 3 1 v (takenL L).length (valsOf (takenL L)) ∧ Below w.heap.size w W' := by
  obtain ⟨vs, vf, cap, ps, fr, hh, ok, rfl, rfl⟩ := h
  rw [taken_pad]
  exact calls_of_every_depth (L := [14, 17, 40, 51]) (n := 4) fun D =>
    values_in _ 4 (by simp [Fence.list]) (by simp [Fence.list]) (by simp [Fence.list]) (by simp [Fence.list]) rfl (Nat.le_refl _) w a cap vs vf ps fr hh ok
end Go.Proofs.Ytacdhlhkpdlekaa
