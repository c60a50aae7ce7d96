/-
  The iterator over a slice of numbers, as the library's Values makes it. Conditions: the slice lies in memory, and the loop's body keeps what lay before.
-/
import Derived.Test.YtacdhlhkpdlekaaHIter
namespace Go.Proofs.Ytacdhlhkpdlekaa
open Go.RowKit Go.Shelf

attribute [local go_sem] Oper.semAt_some

set_option maxHeartbeats 1000000 in
theorem svalues_in (F : Fence) (n : Nat) (hf : F.fn 55) (hro : F.round = none) (p : Option Addr) (len cap : Nat) (w : World) :
    CallsIn F n Try.prog 55 #[.slice p len cap] w fun e w' => e = .returned (.func (.func 61) #[] #[.pointer (some ⟨w.heap.size, 0, none⟩)]) ∧ w' = w.alloc (.cells #[.slice p len cap] 27) := by
  refine callsIn_of_wp Try.func55 rfl hf ?_ hro
  simp only [Try.ntmps55, List.size_toArray, List.length_cons, List.length_nil, Nat.reduceAdd, Nat.reduceSub, Array.replicate_succ, Array.replicate_zero, List.push_toArray, List.append_toArray, List.nil_append, List.cons_append]
  gi_wp2
  go_ret
  exact ⟨rfl, rfl⟩

/-- Numbers that lie in memory below n₀. -/
def NumsIn (n₀ : Nat) (W : World) (p : Option Addr) (len : Nat) (zs : List Int) : Prop := zs.length = len ∧ (0 < len → ∃ b off, p = some ⟨b, off, none⟩ ∧ b < n₀ ∧ ∀ j, j < len → W.cell? ⟨b, off + j, none⟩ = some (.int .i64 (zs.getD j 0)))
theorem NumsIn.below {n₀ : Nat} {W W' : World} {p : Option Addr} {len : Nat} {zs : List Int} (h : NumsIn n₀ W p len zs) (hb : Below n₀ W W') : NumsIn n₀ W' p len zs := by
  refine ⟨h.1, fun h0 => ?_⟩
  obtain ⟨b, off, h1, h2, h3⟩ := h.2 h0
  exact ⟨b, off, h1, h2, fun j hj => (hb.cell (p := ⟨b, off + j, none⟩) h2).trans (h3 j hj)⟩
theorem take_one {zs : List Int} {k : Nat} (h : k < zs.length) : zs.take (k + 1) = zs.take k ++ [zs.getD k 0] := by
  rw [List.take_add_one, List.getElem?_eq_getElem h]
  simp [List.getD, h]

set_option maxRecDepth 100000 in
set_option maxHeartbeats 2000000 in
theorem svalues1_in (F : Fence) (n : Nat) (hf : F.fn 61) (hro : F.round = none) (hn : 2 ≤ n) (l Ba : Nat) (p : Option Addr) (len cap : Nat) (zs : List Int) (hlen : len ≤ 65536) (n₀ : Nat) (J Jx : List Int → World → Prop)
    (W : World) (hY : ∀ pre x W1, J pre W1 → pre.length < len → YieldAt F (n - 1) Try.prog l #[.int .i64 x] W1 fun e W' => (e = .returned (.bool true) ∧ J (pre ++ [x]) W' ∧ Below n₀ W1 W') ∨ (e = .returned (.bool false) ∧ Jx (pre ++ [x]) W'))
    (hB : W.cell? ⟨Ba, 0, none⟩ = some (.slice p len cap)) (hA : NumsIn n₀ W p len zs) (h0 : J [] W) :
    CallsIn F n Try.prog 61 #[.func (.yield l) #[] #[], .pointer (some ⟨Ba, 0, none⟩)] W fun e W' => (∃ v, e = .returned v) ∧ ((∃ ys, ys = zs ∧ J ys W') ∨ (∃ pre, (∃ k, k ≤ len ∧ pre = zs.take k) ∧ Jx pre W')) := by
  have HA : Hid (NumsIn n₀ W p len zs) := hA
  have hY' : Hid (∀ pre x W1, J pre W1 → pre.length < len → YieldAt F (n - 1) Try.prog l #[.int .i64 x] W1 fun e W' => (e = .returned (.bool true) ∧ J (pre ++ [x]) W' ∧ Below n₀ W1 W') ∨ (e = .returned (.bool false) ∧ Jx (pre ++ [x]) W')) := hY
  clear hA hY
  refine callsIn_of_wp Try.func61 rfl hf ?_ hro
  simp only [Try.ntmps61, List.size_toArray, List.length_cons, List.length_nil, Nat.reduceAdd, Nat.reduceSub, Array.replicate_succ, Array.replicate_zero, List.push_toArray, List.append_toArray, List.nil_append, List.cons_append]
  gi_wp2
  gi_loopw [7] (fun i wr => ∃ k : Nat, k ≤ len ∧ i = .int .i64 k ∧ J (zs.take k) wr ∧ Hid (Below n₀ W wr))
    (fun i _ => len - (intOf i).toNat)
  case atStart => exact ⟨0, Nat.zero_le _, rfl, h0, Below.refl _ _⟩
  case round =>
    obtain ⟨k, hk, rfl, hJs, hnx⟩ := hrel
    by_cases hltk : k < len
    · obtain ⟨b, off, rfl, hb, hc⟩ := (HA.out.below hnx.out).2 (by omega)
      have ck := hc k hltk
      have HE : Hid (zs.take (k + 1) = zs.take k ++ [zs.getD k 0]) := take_one (by rw [HA.out.1]; exact hltk)
      have hkl : (zs.take k).length < len := by rw [List.length_take, HA.out.1]; omega
      generalize zs.getD k 0 = x at *
      obtain ⟨fn, tmps, assign, body, hy, hR⟩ := hY'.out _ x wr hJs hkl
      have h1n : 1 ≤ n := by omega
      clear hc hkl
      gi_wp2
      refine hR.mono ?_
      rintro e W3 (⟨rfl, hJ3, hk3⟩ | ⟨rfl, hJx3⟩)
      · gi_wp2
        go_roundw
        case rel => exact ⟨k + 1, by omega, by go_num, by rw [HE.out]; exact hJ3, hnx.out.trans hk3⟩
        case measure => simp [intOf]; omega
      · gi_wp2
        refine bodyPost_ret (results_none rfl _ _ _) rfl ?_
        exact ⟨⟨_, rfl⟩, .inr ⟨_, ⟨k + 1, by omega, HE.out.symm⟩, hJx3⟩⟩
    · obtain rfl : k = len := by omega
      gi_wp2
      go_end0
      refine ⟨⟨_, rfl⟩, .inl ⟨_, ?_, hJs⟩⟩
      rw [← HA.out.1, List.take_length]

theorem svalues_stops (F : Fence) (n : Nat) (hf : F.fn 61) (hro : F.round = none) (hn : 2 ≤ n) (Ba : Nat) (p : Option Addr) (len cap : Nat) (zs : List Int) (hlen : len ≤ 65536) (w : World) (hBa : Ba < w.heap.size) (n₀ : Nat) (hn₀ : n₀ ≤ w.heap.size)
    (hc : w.cell? ⟨Ba, 0, none⟩ = some (.slice p len cap)) (hA : NumsIn n₀ w p len zs) :
    SeqStopsK F n Try.prog 61 #[.pointer (some ⟨Ba, 0, none⟩)] (fun x : Int => #[Value.int .i64 x]) (Below n₀) (fun ys => ys = zs) (fun pre => ∃ k, k ≤ len ∧ pre = zs.take k) len w := fun l J Jx W hW _ _ hY h0 =>
  svalues1_in F n hf hro hn l Ba p len cap zs hlen n₀ J Jx W hY ((hW.cell (p := ⟨Ba, 0, none⟩) hBa).trans hc) (hA.below (hW.mono hn₀)) h0

def intsOf (l : List Int) : List Value := l.map (Value.int .i64)
theorem ints27' : Try.prog.underlying 27 = some (.slice 3) := by kernel_rfl

set_option maxRecDepth 100000 in
set_option maxHeartbeats 2000000 in
theorem appendSeq_in (F : Fence) (n : Nat) (hf : F.fn 62) (hf2 : F.fn 61) (hro : F.round = none) (hn : 4 ≤ n) (w : World) (Ba : Nat) (p : Option Addr) (len cap : Nat) (zs : List Int) (hlen : len ≤ 65536) (hBa : Ba < w.heap.size)
    (hc : w.cell? ⟨Ba, 0, none⟩ = some (.slice p len cap)) (hA : NumsIn w.heap.size w p len zs) :
    CallsIn F n Try.prog 62 #[.slice none 0 0, .func (.func 61) #[] #[.pointer (some ⟨Ba, 0, none⟩)]] w fun e W' => ∃ v, e = .returned v ∧ W'.ownsRow w.heap.size 3 1 v zs.length (intsOf zs) ∧ Below w.heap.size w W' := by
  have h1 : 1 ≤ n := by omega
  obtain ⟨i0, hi, hz0, hz1, hz2⟩ := info_parts info3
  have HA : Hid (NumsIn w.heap.size w p len zs) := hA
  have HC : Hid (w.cell? ⟨Ba, 0, none⟩ = some (.slice p len cap)) := hc
  clear hA hc
  refine callsIn_of_wp_marks Try.func62 rfl hf ?_ hro
  simp only [Try.ntmps62, List.size_toArray, List.length_cons, List.length_nil, Nat.reduceAdd, Nat.reduceSub, Array.replicate_succ, Array.replicate_zero, List.push_toArray, List.append_toArray, List.nil_append, List.cons_append]
  gi_wp2
  have bO := Boxed.new w 27 (.slice none 0 0)
  have hB0 : Below w.heap.size w (w.alloc (.cells #[.slice none 0 0] 27)) := (Below.refl _ w).alloc (Nat.le_refl _) _
  refine wpIn_rangeFunc_ownG hro h1 (gf := 61) (lb := #[.pointer (some ⟨Ba, 0, none⟩)]) rfl hf2 (enters_of Try.func61 (by kernel_rfl) rfl)
    (svalues_stops F (n - 1) hf2 hro (by omega) Ba p len cap zs hlen _ (by simp; omega) w.heap.size (by simp) ((hB0.cell (p := ⟨Ba, 0, none⟩) hBa).trans HC.out) (HA.out.below hB0)) Below.trans (belowK_b (w := w.alloc (.cells #[.slice none 0 0] 27)) (by simp)) (Below.refl _ _) (fun _ => rfl)
    (fun pre W => (∃ v, Boxed W w.heap.size 27 v ∧ W.ownsRow w.heap.size 3 1 v pre.length (intsOf pre) ∧ True) ∧ Below w.heap.size w W)
    (fun _ _ _ => False)
    (OwnFrom.and (Go.Own.from (holdsRow_own w.heap.size w.heap.size 27 3 1 (fun (pre : List Int) => pre.length) intsOf (fun _ _ => True)) _) (ownFrom_below (Nat.le_refl _) (by simp)))
    (fun _ _ _ _ _ hs _ _ => hs)
    ⟨⟨_, bO, World.ownsRow_nil _ _ _ _, trivial⟩, hB0⟩
    (fun x => { tmps := #[.slice none 0 0, .func (.func 61) #[] #[.pointer (some ⟨Ba, 0, none⟩)], .pointer (some ⟨w.heap.size, 0, none⟩), undef, .slice none 0 0, .int .i64 x, .func (.func 61) #[] #[.pointer (some ⟨Ba, 0, none⟩)], .int .i64 x, undef, undef, undef, undef, undef], defers := [] }) ?assign ?body ?done ?stop
  case assign =>
    intro l x W K hK
    gi_wp2
    exact hK
  case body =>
    rintro l pre x W ⟨⟨v, hv, hrow, -⟩, hB⟩ hlt
    have hc := hv.cell
    gi_wp2_with (gi_at_builtin; refine wpListIn_append_own _ rfl _ _ 27 rfl w.heap.size 3 i0 (.int .i64 0) 1 8 ints27' hi hz0 hz1 hz2 rfl (by decide) _ _ _ rfl (hrow.alloc _) ⟨W.heap.size, 0, none⟩ 1 1 [.int .i64 x] rfl rfl (cell_one_new _ _ _) (by simp [Value.oneCell']) (by unfold maxLen; omega) (by omega) (by have := hB.size; simp; omega) ?_; intro v' w2 hown' hgrow _; obtain ⟨g', cap', rfl⟩ := ownsRow_succ hown'; obtain ⟨hv1, hv2, hr2, hk2, hb2⟩ := hv.appended (by decide) hrow hB.size (Nat.le_refl _) hown' hgrow; have hc1 := hv1.cell; have hf1 := hv1.frozen)
    exact ⟨hk2.from _, hb2, ⟨_, hv2, by simpa [intsOf] using hr2, trivial⟩, hB.trans hb2⟩
  case done =>
    rintro D ys W hD rfl ⟨⟨v, hv, hrow, -⟩, hB⟩ hK
    have hc := hv.cell
    gi_wp2
    refine ⟨by simp, .inl ⟨_, _, rfl, run_takeDeferred hK, ?_⟩⟩
    exact ⟨_, results_tmp rfl _ _ _, v, rfl, ownsRow_putObj hrow _ hK rfl, hB.trans (belowK_b (w := w) (Nat.le_refl _) W D _ _ (by simp at hD; omega) hK rfl rfl)⟩
  case stop =>
    rintro D c pre W _ _ h _
    exact h.elim

set_option maxHeartbeats 1000000 in
theorem collect_in (F : Fence) (n : Nat) (hf0 : F.fn 59) (hf : F.fn 62) (hf2 : F.fn 61) (hro : F.round = none) (hn : 5 ≤ n) (w : World) (Ba : Nat) (p : Option Addr) (len cap : Nat) (zs : List Int) (hlen : len ≤ 65536) (hBa : Ba < w.heap.size)
    (hc : w.cell? ⟨Ba, 0, none⟩ = some (.slice p len cap)) (hA : NumsIn w.heap.size w p len zs) :
    CallsIn F n Try.prog 59 #[.func (.func 61) #[] #[.pointer (some ⟨Ba, 0, none⟩)]] w fun e W' => ∃ v, e = .returned v ∧ W'.ownsRow w.heap.size 3 1 v zs.length (intsOf zs) ∧ Below w.heap.size w W' := by
  have c := appendSeq_in F (n - 1) hf hf2 hro (by omega) w Ba p len cap zs hlen hBa hc hA
  clear hc hA
  have h1n : 1 ≤ n := by omega
  refine callsIn_of_wp Try.func59 rfl hf0 ?_ hro
  simp only [Try.ntmps59, List.size_toArray, List.length_cons, List.length_nil, Nat.reduceAdd, Nat.reduceSub, Array.replicate_succ, Array.replicate_zero, List.push_toArray, List.append_toArray, List.nil_append, List.cons_append]
  gi_wp2_with (gi_at_call 62; refine c.mono ?_; rintro e w2 ⟨v, rfl, hO, hB⟩)
  go_ret
  exact ⟨v, rfl, hO, hB⟩
end Go.Proofs.Ytacdhlhkpdlekaa
