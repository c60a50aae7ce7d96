/-
  What slices.Delete makes of a row of waiters, where one is taken out. No conditions but that the row is the call's own.
-/
import Derived.Test.YtcbphfpfdfgehaaCFind
import Derived.Deep.RegionHeld3
namespace Go.Proofs.Ytcbphfpfdfgehaa
open Go.ChangeShapes Go.WideShapes Go.ChangeAt Go.RowKit

theorem elem_waits : Try.prog.underlying 83 = some (.slice (Try.prog.elem 83)) := by kernel_rfl
theorem elem_msgs : Try.prog.underlying 42 = some (.slice (Try.prog.elem 42)) := by kernel_rfl
theorem size_waits : ∀ w, (Go.sizeOf (Try.prog.elem 83)).run Try.prog w = .ok 2 w := fun w => by kernel_rfl
theorem size_msgs : ∀ w, (Go.sizeOf (Try.prog.elem 42)).run Try.prog w = .ok 3 w := fun w => by kernel_rfl
section
variable (T size : Nat) (hT : Try.prog.underlying T = some (.slice (Try.prog.elem T))) (hS : ∀ w, (Go.sizeOf (Try.prog.elem T)).run Try.prog w = .ok size w) (g o n c : Nat)
include hT hS
theorem sl_lo (l : Nat) (hl : l ≤ n) (hc : n ≤ c) : ∃ D : Option Addr, (∀ w, Sem.run Try.prog (Instr.slice T (.slice (some ⟨g, o, none⟩) n c) (some (.int .i64 (l : Int))) none none) w = .ok (.slice D (n - l) (c - l)) w) ∧ (l < c → D = some ⟨g, o + l * size, none⟩) ∧ (c = l → D = some ⟨g, o, none⟩) := by
  refine ⟨if c = l then some ⟨g, o, none⟩ else some ⟨g, o + l * size, none⟩, fun w => ?_, fun h0 => by rw [if_neg (by omega)], fun h0 => by rw [if_pos h0]⟩
  have := run_slice_l (P := Try.prog) w T (some ⟨g, o, none⟩) n c hT .i64 (l : Int) (by omega) (by omega)
  rw [hS w] at this
  simp only [Result.andThen, Int.toNat_natCast] at this
  rw [this]
  by_cases h0 : c = l
  · subst h0
    have hn : n = c := by omega
    subst hn
    simp [sliced]
  · simp [sliced, h0, Addr.add_lit]
theorem sl_hi (h : Nat) (hc : h ≤ c) : ∀ w, Sem.run Try.prog (Instr.slice T (.slice (some ⟨g, o, none⟩) n c) none (some (.int .i64 (h : Int))) none) w = .ok (.slice (some ⟨g, o, none⟩) h c) w := by
  intro w
  have := run_slice_h (P := Try.prog) w T (some ⟨g, o, none⟩) n c hT .i64 (h : Int) (by omega) (by omega)
  rw [hS w] at this
  simp only [Result.andThen, Int.toNat_natCast] at this
  rw [this]
  by_cases h0 : c = 0
  · subst h0; simp [sliced]
  · simp [sliced, h0, Addr.add_lit]
theorem sl_lh (l h : Nat) (hl : l ≤ h) (hc : h ≤ c) : ∃ D : Option Addr, (∀ w, Sem.run Try.prog (Instr.slice T (.slice (some ⟨g, o, none⟩) n c) (some (.int .i64 (l : Int))) (some (.int .i64 (h : Int))) none) w = .ok (.slice D (h - l) (c - l)) w) ∧ (l < c → D = some ⟨g, o + l * size, none⟩) := by
  refine ⟨if c = l then some ⟨g, o, none⟩ else some ⟨g, o + l * size, none⟩, fun w => ?_, fun h0 => by rw [if_neg (by omega)]⟩
  have := run_slice_lh (P := Try.prog) w T (some ⟨g, o, none⟩) n c hT .i64 .i64 (l : Int) (h : Int) (by omega) (by omega) (by omega)
  rw [hS w] at this
  simp only [Result.andThen, Int.toNat_natCast] at this
  rw [this]
  by_cases h0 : c = l
  · subst h0; simp [sliced]
  · simp [sliced, h0, Addr.add_lit]
theorem sl_lhm (l h m : Nat) (hl : l ≤ h) (hm : h ≤ m) (hc : m ≤ c) : ∃ D : Option Addr, (∀ w, Sem.run Try.prog (Instr.slice T (.slice (some ⟨g, o, none⟩) n c) (some (.int .i64 (l : Int))) (some (.int .i64 (h : Int))) (some (.int .i64 (m : Int)))) w = .ok (.slice D (h - l) (m - l)) w) := by
  refine ⟨if m = l then some ⟨g, o, none⟩ else some ⟨g, o + l * size, none⟩, fun w => ?_⟩
  have := run_slice_lhm (P := Try.prog) w T (some ⟨g, o, none⟩) n c hT .i64 .i64 .i64 (l : Int) (h : Int) (m : Int) (by omega) (by omega) (by omega) (by omega)
  rw [hS w] at this
  simp only [Result.andThen, Int.toNat_natCast] at this
  rw [this]
  by_cases h0 : m = l
  · subst h0; simp [sliced]
  · simp [sliced, h0, Addr.add_lit]
end
theorem step_append_run {w : World} {ops : Array Oper} {o : Oper} {a : Act} {K : Act → World → Prop} {Q : Exit → Act → World → Prop} {E : Prop} (hgd : o.guard = none) (s x : Operand) (t tx : TypeId)
    (ho : o.op = .call { callee := .builtin .append, args := #[s, x], argTypes := #[t, tx] }) (vs vx : Value) (hs : a.eval s = vs) (hx : a.eval x = vx)
    (v' : Value) (w' : World) (hr : (Builtin.append_ #[t, tx] o.type #[vs, vx]).run Try.prog w = .ok v' w') (h : K (a.put o.dst v') w') : if Region.wanted o (yielded ops a.tmps) = true then Oper.wp Try.prog o a w K Q else E := by
  have hw : Region.wanted o (yielded ops a.tmps) = true := by simp [Region.wanted, hgd]
  rw [if_pos hw]
  exact Lib.wp_append_run w s x t tx ho vs vx hs hx v' w' hr h

/-- One waiter is cleared. -/
theorem clear_wait (w : World) (ty : TypeId) (g o c : Nat) (hc : ∀ j, j < 2 → (w.cell? ⟨g, o + j, none⟩).isSome = true) (hf : ∀ j, w.frozen? ⟨g, j, none⟩ = false) :
    (Builtin.clear_ #[83] ty #[.slice (some ⟨g, o, none⟩) 1 c]).run Try.prog w = .ok (.tuple #[]) (w.setCells g o [.int .i64 0, .int .i64 0]) := by
  have hz : ∀ w, (zeroValue 126).run Try.prog w = .ok (.agg #[.int .i64 0, .int .i64 0]) w := fun w => by kernel_rfl
  have hzc : (Builtin.zeroCells (Value.agg #[.int .i64 0, .int .i64 0]).cells 1).toList = [.int .i64 0, .int .i64 0] := by
    simp [Builtin.zeroCells, Value.cells]
    rfl
  have hst := run_storeCells_cells (P := Try.prog) g o [.int .i64 0, .int .i64 0] 0 w (by simpa using hc) (by intro j hj; exact hf _) (by intro v hv; simp at hv; rw [hv]; rfl)
  simp only [Nat.add_zero] at hst
  simp [Builtin.clear_, run_underlying waitsT, hz, hzc, hst]

theorem wcells_take (l : List Wt) (k : Nat) : (wcells l).take (k * 2) = wcells (l.take k) := by
  induction l generalizing k with
  | nil => simp [wcells]
  | cons p l ih =>
    have ht : p.cells.length = 2 := rfl
    cases k with
    | zero => simp [wcells]
    | succ k => rw [wcells_cons, List.take_succ_cons, wcells_cons, List.take_append, ht, show (k + 1) * 2 - 2 = k * 2 by omega, ih, List.take_of_length_le (by rw [ht]; omega)]

set_option maxRecDepth 20000 in
set_option maxHeartbeats 1000000 in
theorem delete_one (w : World) (v : Value) (ws : List Wt) (i : Nat) (hr : WRow w 126 2 v ws.length (wcells ws)) (hi : i < ws.length) (hn : ws.length ≤ 1000000000) :
    Calls Try.prog 65 #[v, .int .i64 (i : Int), .int .i64 ((i : Int) + 1)] w fun e w' => ∃ v', e = .returned v' ∧ WRow w' 126 2 v' (ws.eraseIdx i).length (wcells (ws.eraseIdx i)) ∧ Turn (Blk v) w w' ∧ (∀ k, Blk v' k → Blk v k) := by
  obtain ⟨g, o, c, rfl, hnc, hcm, ht, hcl, hso⟩ := hr.shape (by omega)
  have hel : (ws.eraseIdx i).length = ws.length - 1 := List.length_eraseIdx_of_lt hi
  have hee : ws.eraseIdx i = ws.take i ++ ws.drop (i + 1) := List.eraseIdx_eq_take_drop_succ ws i
  rw [hel]
  obtain ⟨n, hne⟩ : ∃ n, ws.length = n := ⟨_, rfl⟩
  rw [hne] at hi hn hnc hcl hr ⊢
  obtain ⟨D1, hs1⟩ := sl_lhm 83 2 elem_waits size_waits g o n c i (i + 1) n (by omega) (by omega) hnc
  have hs2 := sl_hi 83 2 elem_waits size_waits g o n c i (by omega)
  obtain ⟨D3, hs3, hD3, -⟩ := sl_lo 83 2 elem_waits size_waits g o n c (i + 1) (by omega) hnc
  obtain ⟨D4, hs4, hD4⟩ := sl_lh 83 2 elem_waits size_waits g o (n - 1) c (n - 1) n (by omega) hnc
  have hd4 := hD4 (by omega)
  subst hd4
  -- what is appended
  have hdl : (ws.drop (i + 1)).length = n - (i + 1) := by rw [List.length_drop, hne]
  have hnl : (wcells (ws.drop (i + 1))).length = (n - (i + 1)) * 2 := by rw [wcells_len, hdl]
  have hdc : ∀ j, (wcells (ws.drop (i + 1)))[j]? = (wcells ws)[(i + 1) * 2 + j]? := fun j => by
    have h0 : wcells ws = wcells (ws.take (i + 1)) ++ wcells (ws.drop (i + 1)) := by rw [← wcells_app, List.take_append_drop]
    have hl0 : (wcells (ws.take (i + 1))).length = (i + 1) * 2 := by rw [wcells_len, List.length_take, hne, Nat.min_eq_left (by omega)]
    rw [h0, List.getElem?_append_right (by omega), hl0]
    congr 1
    omega
  have hsrc : Src Try.prog 2 83 (.slice D3 (n - (i + 1)) (c - (i + 1))) (n - (i + 1)) (wcells (ws.drop (i + 1))) w.drew := by
    rcases Nat.eq_zero_or_pos (n - (i + 1)) with h0 | h0
    · rw [h0] at hnl ⊢
      have : wcells (ws.drop (i + 1)) = [] := List.eq_nil_of_length_eq_zero (by simpa using hnl)
      rw [this]
      cases D3 with
      | none => exact Src.ofNil _ waitsT _
      | some a => exact Src.ofSlice _ waitsT a 0 _ [] (by simp) (fun j u hu => by simp at hu) (fun u hu => by simp at hu)
    · rw [hD3 (by omega)]
      refine Src.ofSlice _ waitsT _ _ _ _ hnl (fun j u hu => ?_) (wcells_one _)
      have hj := (List.getElem?_eq_some_iff.1 hu).1
      rw [hnl] at hj
      rw [Addr.add_lit, Nat.add_assoc]
      show w.cell? _ = _
      rw [hcl _ (by omega), ← hdc, hu]
  obtain ⟨iw, hiw, hzw, hsw, hbw⟩ := info_parts infoW
  have hap := fun ty => run_append_room_src (P := Try.prog) w.drew 83 83 ty 126 iw waitsT hiw g o i c _ (n - (i + 1)) _ (by rw [hsw]; exact hsrc) (by omega) (fun j hj => by rw [hnl] at hj; rw [hsw]; show (w.cell? _).isSome = true; rw [Nat.add_assoc]; exact hso _ (by omega)) (fun j _ => by rw [hsw]; exact ht.free _)
  rw [hsw, show i + (n - (i + 1)) = n - 1 by omega] at hap
  obtain ⟨W1, hW1⟩ : ∃ W1, w.drew.setCells g (o + i * 2) (wcells (ws.drop (i + 1))) = W1 := ⟨_, rfl⟩
  rw [hW1] at hap
  have t1 : Turn (fun k => k = g) w W1 := by rw [← hW1]; exact wturn_sets (F := fun k => k = g) rfl _ _ _ _ ((Turn.refl _ w).drew)
  have ht1 : TBlk W1 g 126 := by rw [← hW1]; exact TBlk.sets g _ _ _ ht
  have hsome : ∀ j, j < (wcells (ws.drop (i + 1))).length → (w.drew.cell? ⟨g, o + i * 2 + j, none⟩).isSome = true := fun j hj => by rw [hnl] at hj; show (w.cell? _).isSome = true; rw [Nat.add_assoc]; exact hso _ (by omega)
  have hin : ∀ j, j < (n - (i + 1)) * 2 → W1.cell? ⟨g, o + (i * 2 + j), none⟩ = (wcells (ws.drop (i + 1)))[j]? := fun j hj => by
    have := World.cell?_setCells_in g (wcells (ws.drop (i + 1))) (o + i * 2) w.drew hsome j (by omega)
    rw [← hW1, ← Nat.add_assoc, this, List.getElem?_eq_getElem (by omega)]
  have hout : ∀ j, j < i * 2 ∨ i * 2 + (n - (i + 1)) * 2 ≤ j → W1.cell? ⟨g, o + j, none⟩ = w.cell? ⟨g, o + j, none⟩ := fun j hj => by
    rw [← hW1]
    exact World.cell?_setCells_out g _ _ _ _ (fun _ _ => by show o + j < o + i * 2 ∨ o + i * 2 + _ ≤ o + j; rw [hnl]; omega)
  have hso1 : ∀ j, j < c * 2 → (W1.cell? ⟨g, o + j, none⟩).isSome = true := fun j hj => by
    by_cases h0 : j < i * 2 ∨ i * 2 + (n - (i + 1)) * 2 ≤ j
    · rw [hout j h0]; exact hso j hj
    · have := hin (j - i * 2) (by omega)
      rw [show o + (i * 2 + (j - i * 2)) = o + j by omega] at this
      rw [this, List.getElem?_eq_getElem (by omega)]; rfl
  have hcw := fun ty => clear_wait W1 ty g (o + (n - 1) * 2) (c - (n - 1)) (fun j hj => by rw [Nat.add_assoc]; exact hso1 _ (by omega)) ht1.free
  obtain ⟨W2, hW2⟩ : ∃ W2, W1.setCells g (o + (n - 1) * 2) [.int .i64 0, .int .i64 0] = W2 := ⟨_, rfl⟩
  rw [hW2] at hcw
  have t2 : Turn (fun k => k = g) w W2 := by rw [← hW2]; exact wturn_sets (F := fun k => k = g) rfl _ _ _ _ t1
  have hsm : ∀ j, j < ([.int .i64 0, .int .i64 0] : List Value).length → (W1.cell? ⟨g, o + (n - 1) * 2 + j, none⟩).isSome = true := fun j hj => by simp at hj; rw [Nat.add_assoc]; exact hso1 _ (by omega)
  have hout2 : ∀ j, j < (n - 1) * 2 ∨ (n - 1) * 2 + 2 ≤ j → W2.cell? ⟨g, o + j, none⟩ = W1.cell? ⟨g, o + j, none⟩ := fun j hj => by
    rw [← hW2]
    exact World.cell?_setCells_out g _ _ _ _ (fun _ _ => by show o + j < o + (n - 1) * 2 ∨ o + (n - 1) * 2 + 2 ≤ o + j; omega)
  have hres : WRow W2 126 2 (.slice (some ⟨g, o, none⟩) (n - 1) c) (n - 1) (wcells (ws.eraseIdx i)) := by
    refine ⟨by rw [wcells_len, hel, hne], .inr ⟨g, o, c, rfl, by omega, hcm, by rw [← hW2]; exact TBlk.sets g _ _ _ ht1, fun j hj => ?_, fun j hj => ?_⟩⟩
    · rw [hout2 j (.inl hj), hee, wcells_app]
      have hl0 : (wcells (ws.take i)).length = i * 2 := by rw [wcells_len, List.length_take, hne, Nat.min_eq_left (by omega)]
      by_cases h0 : j < i * 2
      · rw [hout j (.inl h0), List.getElem?_append_left (by omega), ← wcells_take, List.getElem?_take, if_pos h0]
        exact hcl j (by omega)
      · rw [List.getElem?_append_right (by omega), hl0]
        have := hin (j - i * 2) (by omega)
        rw [show o + (i * 2 + (j - i * 2)) = o + j by omega] at this
        exact this
    · by_cases h0 : j < (n - 1) * 2 ∨ (n - 1) * 2 + 2 ≤ j
      · rw [hout2 j h0]; exact hso1 j hj
      · have := World.cell?_setCells_in g [.int .i64 0, .int .i64 0] (o + (n - 1) * 2) W1 hsm (j - (n - 1) * 2) (by simp; omega)
        rw [show o + (n - 1) * 2 + (j - (n - 1) * 2) = o + j by omega, hW2] at this
        rw [this]; rfl
  have HR := Lib.hid (And.intro hres t2)
  rw [show n - (n - 1) = 1 by omega] at hs4
  have e1 : ((i + 1 : Nat) : Int) = (i : Int) + 1 := by omega
  rw [e1] at hs1 hs3
  have e2 : ((n - 1 : Nat) : Int) = (n : Int) - 1 := by omega
  have HE2 := Lib.hid e2
  have hne1 : ((i : Int) == (i : Int) + 1) = false := by simp; omega
  have hi0 : (i : Int) < n := by omega
  have hnn : (n : Int) ≤ 1000000000 := by omega
  clear hr hcl hso hel hee hne hD3 hD4 hdl hnl hdc hsrc hsome hin hout hso1 t1 t2 ht1 hsm hout2 hres hW1 hW2 ht e1 e2
  go_enter Try.func65, Try.ntmps65
  go_wp2_with fail
  go_region_held3 (fun _ => True) (trivial)
    (refine step_append_run (by rfl) (.tmp 22) (.tmp 25) 83 83 (by rfl) _ _ (by rfl) (by rfl) _ _ (hap _) ?_)
  rw [← HE2.out] at *
  go_wp2
  go_ret
  exact ⟨_, rfl, HR.out.1, HR.out.2.mono (fun k hk => .inl (by subst hk; simp [Blk, Value.ownBlock])), fun k hk => by simpa [Blk, Value.ownBlock] using hk⟩
end Go.Proofs.Ytcbphfpfdfgehaa
