/-
  How a law's calls and a struct of four are read. No conditions.
-/
import Derived.Test.YtabakjimlndhcaaTkView
namespace Go.Proofs.Ytabakjimlndhcaa
open Go.ChangeShapes Go.WideShapes Go.ChangeAt Go.RowKit
section
variable {A : Type} (f : A → List Value) (n : Nat) (hn : ∀ x, (f x).length = n)
def fl (l : List A) : List Value := l.flatMap f
theorem fl_app (l m : List A) : fl f (l ++ m) = fl f l ++ fl f m := by simp [fl]
theorem fl_cons (q : A) (l : List A) : fl f (q :: l) = f q ++ fl f l := rfl
include hn
theorem fl_len (l : List A) : (fl f l).length = l.length * n := by
  induction l with
  | nil => simp [fl]
  | cons p l ih => rw [fl_cons, List.length_append, ih, List.length_cons, hn, Nat.add_mul]; omega
theorem fl_at (l : List A) (i : Nat) (q : A) (hq : l[i]? = some q) (j : Nat) (hj : j < n) : (fl f l)[i * n + j]? = (f q)[j]? := by
  induction l generalizing i with
  | nil => simp at hq
  | cons p l ih =>
    have ht := hn p
    cases i with
    | zero =>
      simp only [List.getElem?_cons_zero, Option.some.injEq] at hq
      subst hq
      rw [fl_cons, Nat.zero_mul, Nat.zero_add, List.getElem?_append_left (by rw [ht]; exact hj)]
    | succ i =>
      simp only [List.getElem?_cons_succ] at hq
      rw [← ih i hq]
      have h1 : (i + 1) * n = i * n + n := Nat.succ_mul i n
      rw [fl_cons, List.getElem?_append_right (by rw [ht]; omega), ht, show (i + 1) * n + j - n = i * n + j by omega]
theorem fl_take (l : List A) (k : Nat) : (fl f l).take (k * n) = fl f (l.take k) := by
  induction l generalizing k with
  | nil => simp [fl]
  | cons p l ih =>
    have ht := hn p
    cases k with
    | zero => simp [fl]
    | succ k => rw [fl_cons, List.take_succ_cons, fl_cons, List.take_append, ht, show (k + 1) * n - n = k * n by rw [Nat.succ_mul]; omega, ih, List.take_of_length_le (by rw [ht, Nat.succ_mul]; omega)]
theorem fl_drop (l : List A) (k : Nat) : (fl f l).drop (k * n) = fl f (l.drop k) := by
  induction l generalizing k with
  | nil => simp [fl]
  | cons p l ih =>
    have ht := hn p
    cases k with
    | zero => simp
    | succ k => rw [fl_cons, List.drop_succ_cons, List.drop_append, ht, show (k + 1) * n - n = k * n by rw [Nat.succ_mul]; omega, ih, List.drop_of_length_le (by rw [ht, Nat.succ_mul]; omega), List.nil_append]
omit hn in
theorem fl_one (h1 : ∀ x, ∀ u ∈ f x, u.oneCell' = true) (l : List A) : ∀ u ∈ fl f l, u.oneCell' = true := by
  intro u hu
  obtain ⟨b, _, hb⟩ := List.mem_flatMap.1 hu
  exact h1 b u hb
end

/-- One call that came in. -/
structure O3 where
  k : Int
  a : Int
  b : Int
def O3.cells (o : O3) : List Value := [.int .i64 o.k, .int .i64 o.a, .int .i64 o.b]
def o3cells (l : List O3) : List Value := fl O3.cells l
theorem o3cells_len (l : List O3) : (o3cells l).length = l.length * 3 := fl_len _ 3 (fun _ => rfl) l
def RdOp (W : World) (v : Value) (os : List O3) : Prop := Rz W 3 v os.length (o3cells os) ∧ ∀ o ∈ os, fit o.k ∧ fit o.a ∧ fit o.b
theorem RdOp.past {W W' : World} {v : Value} {os : List O3} (h : RdOp W v os) (t : Turn NoBlock W W') : RdOp W' v os := ⟨h.1.past t, h.2⟩
theorem RdOp.three {W : World} {v : Value} {its : List O3} (h : RdOp W v its) {j : Nat} {i : O3} (hi : its[j]? = some i) : ∃ g o c, v = .slice (some ⟨g, o, none⟩) its.length c ∧ W.cell? ⟨g, o + j * 3, none⟩ = some (.int .i64 i.k) ∧ W.cell? ⟨g, o + j * 3 + 1, none⟩ = some (.int .i64 i.a) ∧ W.cell? ⟨g, o + j * 3 + 2, none⟩ = some (.int .i64 i.b) := by
  have hlt := (List.getElem?_eq_some_iff.1 hi).1
  obtain ⟨p, c, hv, h0, hc⟩ := (h.1.rd (by omega)).form
  cases p with
  | none => have := h0 rfl; omega
  | some a =>
    obtain ⟨g, o, rfl, hj⟩ := hc a rfl
    have ha := fun k hk => fl_at O3.cells 3 (fun _ => rfl) its j i hi k hk
    refine ⟨g, o, c, hv, ?_, ?_, ?_⟩
    · rw [hj (j * 3) (by omega)]; exact ha 0 (by omega)
    · rw [Nat.add_assoc, hj (j * 3 + 1) (by omega)]; exact ha 1 (by omega)
    · rw [Nat.add_assoc, hj (j * 3 + 2) (by omega)]; exact ha 2 (by omega)
theorem cellsO3 : Try.prog.cellsOf 70 = 3 := by kernel_rfl
theorem ops17_s : Try.prog.underlying 64 = some (.slice 70) := by kernel_rfl
theorem fieldsO3 : fieldsOf (Try.prog.underlying 70) = [(3, 0), (3, 1), (3, 2)] := by kernel_rfl
theorem cellsBo : Try.prog.cellsOf 93 = 4 := by kernel_rfl
theorem cells4 : Try.prog.cellsOf 4 = 1 := by kernel_rfl
theorem bool4 : Try.prog.underlying 4 = some .bool := by kernel_rfl
theorem fieldsBo : fieldsOf (Try.prog.underlying 93) = [(3, 0), (3, 1), (3, 2), (4, 3)] := by kernel_rfl
theorem struct_of {t : TypeId} {l : List (TypeId × Nat)} (hl : fieldsOf (Try.prog.underlying t) = l) (hne : l ≠ []) : ∃ fs, Try.prog.underlying t = some (.struct fs) := by
  unfold fieldsOf at hl
  split at hl
  · rename_i fs hfs; exact ⟨fs, hfs⟩
  · exact absurd hl.symm hne
section
variable {H : Type} {enc : TypeId × Value → H} {W : World}
set_option maxRecDepth 100000 in
theorem bound_read {r : Reach} {b0 : Nat} {v : Value} {d : DataW H} {p : List MemPlace} (hv : Value.okWide Try.prog W r b0 93 v) (h : DataW.Trod enc Try.prog W 0 (fun _ => true) true 93 v d p) :
    ∃ a b c e, v = .agg #[.int .i64 a, .int .i64 b, .int .i64 c, .bool e] := by
  obtain ⟨fs, hs⟩ := struct_of fieldsBo (List.cons_ne_nil _ _)
  obtain ⟨cs, rfl, hsz⟩ := okWide_struct hs hv
  rw [cellsBo] at hsz
  obtain ⟨fuel, hf⟩ := h
  obtain ⟨l⟩ := cs
  simp only [Value.cells] at hf
  match l, hsz with
  | [c0, c1, c2, c3], _ =>
    obtain ⟨_, n, hp⟩ := parts_read fieldsBo (by simp) hf
    obtain ⟨y0, h0⟩ := hp 0 3 0 rfl
    obtain ⟨y1, h1⟩ := hp 1 3 1 rfl
    obtain ⟨y2, h2⟩ := hp 2 3 2 rfl
    obtain ⟨y3, h3⟩ := hp 3 4 3 rfl
    rw [cells3] at h0 h1 h2
    rw [cells4] at h3
    obtain ⟨z0, e0, _, _⟩ := DataW.trod_int int3 h0
    obtain ⟨z1, e1, _, _⟩ := DataW.trod_int int3 h1
    obtain ⟨z2, e2, _, _⟩ := DataW.trod_int int3 h2
    obtain ⟨z3, e3, _⟩ := DataW.trod_bool bool4 h3
    simp at e0 e1 e2 e3
    subst e0 e1 e2 e3
    exact ⟨z0, z1, z2, z3, rfl⟩
set_option maxRecDepth 100000 in
theorem op_read {fuel : Nat} {cs : List Value} {x : DataW H × List MemPlace} (h : DataW.trod enc Try.prog W 0 (fun _ => true) true fuel 70 cs = some x) : ∃ i : O3, cs = i.cells ∧ fit i.k ∧ fit i.a ∧ fit i.b := by
  obtain ⟨hl, n, hp⟩ := parts_read fieldsO3 (by simp) h
  rw [cellsO3] at hl
  match cs, hl with
  | [c0, c1, c2], _ =>
    obtain ⟨y0, h0⟩ := hp 0 3 0 rfl
    obtain ⟨y1, h1⟩ := hp 1 3 1 rfl
    obtain ⟨y2, h2⟩ := hp 2 3 2 rfl
    rw [cells3] at h0 h1 h2
    obtain ⟨z0, hz0, _, hw0⟩ := DataW.trod_int int3 h0
    obtain ⟨z1, hz1, _, hw1⟩ := DataW.trod_int int3 h1
    obtain ⟨z2, hz2, _, hw2⟩ := DataW.trod_int int3 h2
    simp at hz0 hz1 hz2
    subst hz0 hz1 hz2
    exact ⟨⟨z0, z1, z2⟩, rfl, fit_wf hw0, fit_wf hw1, fit_wf hw2⟩
theorem ops_read {fuel : Nat} {cs : List Value} {x : DataW H × List MemPlace} (h : DataW.trod enc Try.prog W 0 (fun _ => true) true fuel 64 cs = some x) : ∃ v its, cs = [v] ∧ RdOp W v its := by
  rcases DataW.trod_slice ops17_s h with ⟨hcs, hx⟩ | ⟨a, len, cap, elems, rest, n, _, hcs, hx, hb, hlc, hm, hlen, hel, _⟩
  · exact ⟨_, [], hcs, ⟨⟨none, 0, rfl⟩, fun _ => rfl, fun h => absurd h (by simp)⟩, fun i hi => by cases hi⟩
  · have each : ∀ j, j < len → ∃ q : O3, W.cells? 0 (a.add (j * 3)) 3 = some q.cells ∧ fit q.k ∧ fit q.a ∧ fit q.b := by
      intro j hj
      have h1 := hel j hj
      rw [cellsO3] at h1
      have h2 : elems[j]? = some (elems[j]'(by omega)) := List.getElem?_eq_getElem (by omega)
      rw [h2] at h1
      cases hc : W.cells? 0 (a.add (j * 3)) 3 with
      | none => rw [hc] at h1; simp at h1
      | some cs =>
        rw [hc] at h1
        simp only [Option.bind_some] at h1
        obtain ⟨o, rfl, w⟩ := op_read h1
        exact ⟨o, rfl, w⟩
    have key : ∀ j, ∃ o : O3, j < len → W.cells? 0 (a.add (j * 3)) 3 = some o.cells ∧ fit o.k ∧ fit o.a ∧ fit o.b := by
      intro j
      by_cases hj : j < len
      · obtain ⟨o, ho⟩ := each j hj
        exact ⟨o, fun _ => ho⟩
      · exact ⟨⟨0, 0, 0⟩, fun h => absurd h hj⟩
    obtain ⟨os, hos⟩ : ∃ os : Nat → O3, ∀ j, j < len → W.cells? 0 (a.add (j * 3)) 3 = some (os j).cells ∧ fit (os j).k ∧ fit (os j).a ∧ fit (os j).b :=
      ⟨fun j => Classical.choose (key j), fun j => Classical.choose_spec (key j)⟩
    refine ⟨.slice (some a) len cap, (List.range len).map os, hcs, ⟨⟨some a, cap, by simp⟩, fun h0 => ?_, fun h0 => ?_⟩, fun i hi => ?_⟩
    · have : len = 0 := by simpa using h0
      subst this
      rfl
    · have h0' : 0 < len := by simpa using h0
      have cell : ∀ j, j < len → ∀ i, i < 3 → W.cell? ((a.add (j * 3)).add i) = (os j).cells[i]? := by
        intro j hj i hi
        exact (World.cells?_some (hos j hj).1).2.2 i hi
      obtain ⟨b, off, spot⟩ := a
      have hspot : spot = none := by
        have h1 := cell 0 h0' 0 (by omega)
        simp only [O3.cells, List.getElem?_cons_zero] at h1
        have h2 := World.cell?_spot h1
        simpa [Addr.add] using h2
      subst hspot
      refine ⟨by rw [o3cells_len], some ⟨b, off, none⟩, cap, by simp, (fun h => by cases h), fun a' ha => ?_⟩
      simp only [Option.some.injEq] at ha
      subst ha
      refine ⟨b, off, rfl, fun j hj => ?_⟩
      have hj' : j < len * 3 := by simpa using hj
      have hjl : j / 3 < len := by omega
      have h3 := fl_at O3.cells 3 (fun _ => rfl) ((List.range len).map os) (j / 3) (os (j / 3)) (by rw [List.getElem?_map, List.getElem?_range hjl]; rfl) (j % 3) (by omega)
      rw [show j / 3 * 3 + j % 3 = j by omega] at h3
      have h4 := cell (j / 3) hjl (j % 3) (by omega)
      simp only [add_plain] at h4
      rw [show off + j / 3 * 3 + j % 3 = off + j by omega] at h4
      exact h4.trans h3.symm
    · obtain ⟨j, hj, rfl⟩ := List.mem_map.1 hi
      exact (hos j (List.mem_range.1 hj)).2
theorem ops17_view {p : Option Addr} {len cap : Nat} {d : DataW H} {ps : List MemPlace} (h : DataW.Trod enc Try.prog W 0 (fun _ => true) true 64 (.slice p len cap) d ps) : ∃ its, RdOp W (.slice p len cap) its ∧ its.length = len := by
  obtain ⟨fuel, hf⟩ := h
  simp only [Value.cells] at hf
  obtain ⟨v, its, hv, hr⟩ := ops_read hf
  simp at hv
  subst hv
  obtain ⟨p', c', he⟩ := hr.1.sl
  simp only [Value.slice.injEq] at he
  exact ⟨its, hr, he.2.1.symm⟩
end
end Go.Proofs.Ytabakjimlndhcaa
