/-
  What part of a piece lies in a range; the sum of pieces' lengths; what ranges are right. No conditions but that the numbers are a region's.
-/
import Derived.Test.YtdddmjdlikjedaaGSort
import Derived.Deep.RegionHeld3
namespace Go.Proofs.Ytdddmjdlikjedaa
open Go.ChangeShapes Go.WideShapes Go.ChangeAt Go.RowKit

def partP (p : Pc) (x n : Int) : Pc := ⟨max p.at' x, min p.fin (x + n) - max p.at' x, p.vmo, p.from' + max p.at' x - p.at', p.prot⟩
theorem results_c {fn : Func} {p : Tmp} {ty : TypeId} (h : fn.results = #[.cell p ty]) (tmps : Array Value) (P : Program) (w : World) :
    (results fn tmps).run P w = ((asAddr (tmps.getD p undef)).run P w).andThen fun a w₁ => (loadVar ty a).run P w₁ := by
  simp only [results, h]
  simp [Sem.run_bind, Result.andThen]
theorem max_run (a b : Int) : ∀ (ts : Array TypeId) (t : TypeId) (w : World), (Builtin.max_ ts t #[.int .i64 a, .int .i64 b]).run Try.prog w = .ok (.int .i64 (max a b)) w := by
  intro ts t w
  have e : max a b = if a < b then b else a := by omega
  rw [e]
  simp [Builtin.max_, Builtin.max2]
theorem min_run (a b : Int) : ∀ (ts : Array TypeId) (t : TypeId) (w : World), (Builtin.min_ ts t #[.int .i64 a, .int .i64 b]).run Try.prog w = .ok (.int .i64 (min a b)) w := by
  intro ts t w
  have e : min a b = if b < a then b else a := by omega
  rw [e]
  simp [Builtin.min_, Builtin.min2]

theorem put5 {W : World} {C : Nat} {t : TypeId} {x0 x1 x2 x3 x4 : Value} (h : W.heap[C]? = some (.cells #[x0, x1, x2, x3, x4] t (0, 0))) (b0 b1 b2 b3 b4 : Value) :
    (((((W.setCell ⟨C, 0, none⟩ b0).setCell ⟨C, 1, none⟩ b1).setCell ⟨C, 2, none⟩ b2).setCell ⟨C, 3, none⟩ b3).setCell ⟨C, 4, none⟩ b4).heap[C]? = some (.cells #[b0, b1, b2, b3, b4] t (0, 0)) ∧
    Turn (fun k => k = C) W (((((W.setCell ⟨C, 0, none⟩ b0).setCell ⟨C, 1, none⟩ b1).setCell ⟨C, 2, none⟩ b2).setCell ⟨C, 3, none⟩ b3).setCell ⟨C, 4, none⟩ b4) := by
  have h4 := set_at (set_at (set_at (set_at (set_at h 0 b0) 1 b1) 2 b2) 3 b3) 4 b4
  refine ⟨by simpa using h4, ?_⟩
  exact ((((((Turn.refl (fun k => k = C) W).setCell (p := ⟨C, 0, none⟩) (.inl rfl) _).setCell (p := ⟨C, 1, none⟩) (.inl rfl) _).setCell (p := ⟨C, 2, none⟩) (.inl rfl) _).setCell (p := ⟨C, 3, none⟩) (.inl rfl) _).setCell (p := ⟨C, 4, none⟩) (.inl rfl) _)
theorem wrap_fit {a : Int} (h : fit a) : IntKind.i64.wrap a = a := by
  unfold fit at h
  have e : IntKind.i64.wrap a = (if a % 18446744073709551616 ≥ 9223372036854775808 then a % 18446744073709551616 - 18446744073709551616 else a % 18446744073709551616) := by
    simp [IntKind.wrap, IntKind.bits, IntKind.signed]
  rw [e]; split <;> omega

set_option maxRecDepth 20000 in
set_option maxHeartbeats 2000000 in
theorem part_any (p : Pc) (x n : Int) (w : World) (h1 : 0 ≤ p.at' ∧ 0 ≤ p.len ∧ p.fin ≤ 4294967296) (h2 : 0 ≤ x ∧ 0 ≤ n ∧ x ≤ 4294967296 ∧ n ≤ 4294967296) (h3 : 0 ≤ p.from' ∧ p.from' ≤ 8589934592) :
    Calls Try.prog 96 #[p.agg, .int .i64 x, .int .i64 n] w fun e w' => e = .returned (partP p x n).agg ∧ Turn NoBlock w w' := by
  have cE := Lib.hid (fun w' => gend_any p w' (by unfold fit; unfold Pc.fin at *; omega))
  unfold Pc.fin at h1
  have hmx := max_run p.at' x
  have hmn := min_run (p.at' + p.len) (x + n)
  obtain ⟨M, hM⟩ : ∃ M, max p.at' x = M := ⟨_, rfl⟩
  obtain ⟨N, hN⟩ : ∃ N, min (p.at' + p.len) (x + n) = N := ⟨_, rfl⟩
  have hM1 : 0 ≤ M ∧ M ≤ 4294967296 := by omega
  have hN1 : 0 ≤ N ∧ N ≤ 8589934592 := by omega
  have hres : (partP p x n).agg = .agg #[.int .i64 M, .int .i64 (N - M), .int .i64 p.vmo, .int .i64 (p.from' + M - p.at'), .int .i64 p.prot] := by
    unfold partP Pc.agg Pc.fin
    simp only [hM, hN]
  rw [hres]
  rw [hM] at hmx
  rw [hN] at hmn
  unfold Pc.agg Pc.fin at *
  obtain ⟨pa, pl, pv, pf, pr⟩ := p
  simp only at *
  clear hM hN hres
  obtain ⟨C, hC⟩ : ∃ C, w.heap.size = C := ⟨_, rfl⟩
  obtain ⟨W, hW⟩ : ∃ W, W = (w.alloc (.cells #[.int .i64 pa, .int .i64 pl, .int .i64 pv, .int .i64 pf, .int .i64 pr] 61)).alloc (.cells #[.int .i64 0, .int .i64 0, .int .i64 0, .int .i64 0, .int .i64 0] 61) := ⟨_, rfl⟩
  have hb : W.heap[C]? = some (.cells #[.int .i64 pa, .int .i64 pl, .int .i64 pv, .int .i64 pf, .int .i64 pr] 61 (0, 0)) := by
    rw [hW, ← hC]
    exact (Below.heap_alloc _ _ _ (by simp)).trans (heap_alloc_new w _)
  have hr : W.heap[C + 1]? = some (.cells #[.int .i64 0, .int .i64 0, .int .i64 0, .int .i64 0, .int .i64 0] 61 (0, 0)) := by
    rw [hW, ← hC]
    have := heap_alloc_new (w.alloc (.cells #[.int .i64 pa, .int .i64 pl, .int .i64 pv, .int .i64 pf, .int .i64 pr] 61)) (.cells #[.int .i64 0, .int .i64 0, .int .i64 0, .int .i64 0, .int .i64 0] 61)
    rwa [World.size_alloc] at this
  have hT : Turn NoBlock w W := by rw [hW]; exact ((Turn.refl _ w).alloc _).alloc _
  have K := Lib.hid (And.intro hb (And.intro hr (And.intro hT hC)))
  have c0 := cell_at hb 0
  have c1 := cell_at hb 1
  have c2 := cell_at hb 2
  have c3 := cell_at hb 3
  have c4 := cell_at hb 4
  simp at c0 c1 c2 c3 c4
  clear hb hr hT
  go_enter Try.func96, Try.ntmps96
  go_upto_region 1 with fail
  rw [← hW]
  clear hW
  go_wp2
  have hC1 : C ≠ C + 1 := by omega
  have hw1 : IntKind.i64.wrap (x + n) = x + n := wrap_fit (by unfold fit; omega)
  have hw2 : IntKind.i64.wrap (N - M) = N - M := wrap_fit (by unfold fit; omega)
  have hw3 : IntKind.i64.wrap (pf + M) = pf + M := wrap_fit (by unfold fit; omega)
  have hw4 : IntKind.i64.wrap (pf + M - pa) = pf + M - pa := wrap_fit (by unfold fit; omega)
  have KA := Lib.hid (fun (w5 : World) (t : Turn NoBlock W w5) => And.intro (t.heap K.out.1 (fun h => h)) (t.heap K.out.2.1 (fun h => h)))
  go_region_held3 (fun w' => w'.cell? ⟨C, 0, none⟩ = some (.int .i64 pa) ∧ w'.cell? ⟨C, 1, none⟩ = some (.int .i64 pl) ∧ w'.cell? ⟨C, 2, none⟩ = some (.int .i64 pv) ∧ w'.cell? ⟨C, 3, none⟩ = some (.int .i64 pf) ∧ w'.cell? ⟨C, 4, none⟩ = some (.int .i64 pr))
    (go_keep)
    (first | (go_at_call 75; (with_reducible refine (cE.out _).mono ?_); rintro e w5 ⟨rfl, t5⟩; obtain ⟨b5, r5⟩ := KA.out w5 ((Turn.refl NoBlock W).drew.trans t5 (fun _ h => .inl h)); have K5 := Lib.hid (And.intro r5 t5); have e0 := cell_at b5 0; have e1 := cell_at b5 1; have e2 := cell_at b5 2; have e3 := cell_at b5 3; have e4 := cell_at b5 4; have f0 := cell_at r5 0; have f1 := cell_at r5 1; have f2 := cell_at r5 2; have f3 := cell_at r5 3; have f4 := cell_at r5 4; have g5 := free_at r5; simp at e0 e1 e2 e3 e4 f0 f1 f2 f3 f4; clear b5 r5 t5))
  go_wp2
  obtain ⟨r5, t5⟩ := K5.out
  obtain ⟨r6, t6⟩ := put5 r5 (.int .i64 M) (.int .i64 (N - M)) (.int .i64 pv) (.int .i64 (pf + M - pa)) (.int .i64 pr)
  obtain ⟨W6, hW6⟩ : ∃ W6, W6 = (((((w5.setCell ⟨C + 1, 0, none⟩ (.int .i64 M)).setCell ⟨C + 1, 1, none⟩ (.int .i64 (N - M))).setCell ⟨C + 1, 2, none⟩ (.int .i64 pv)).setCell ⟨C + 1, 3, none⟩ (.int .i64 (pf + M - pa))).setCell ⟨C + 1, 4, none⟩ (.int .i64 pr)) := ⟨_, rfl⟩
  rw [← hW6] at r6 t6 ⊢
  clear hW6 e0 e1 e2 e3 e4 f0 f1 f2 f3 f4 g5
  have s0 := cell_at r6 0
  have s1 := cell_at r6 1
  have s2 := cell_at r6 2
  have s3 := cell_at r6 3
  have s4 := cell_at r6 4
  simp at s0 s1 s2 s3 s4
  have hC := K.out.2.2.2
  refine bodyPost_ret (v := .agg #[.int .i64 M, .int .i64 (N - M), .int .i64 pv, .int .i64 (pf + M - pa), .int .i64 pr]) (by rw [results_c rfl]; go_simp) rfl ⟨rfl, ?_⟩
  exact ((K.out.2.2.1.trans ((Turn.refl NoBlock W).drew.trans t5 (fun _ h => .inl h)) (fun _ h => .inl h)).trans t6 (fun k hk => .inr (by subst hk; omega)))
end Go.Proofs.Ytdddmjdlikjedaa
