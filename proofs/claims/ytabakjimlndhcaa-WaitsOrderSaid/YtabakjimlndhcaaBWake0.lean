/-
  What wakes the waits of a line: what holds ahead of each round. No walk, no conditions.
-/
import Derived.Test.YtabakjimlndhcaaBWM
namespace Go.Proofs.Ytabakjimlndhcaa
open Go.ChangeShapes Go.WideShapes Go.ChangeAt Go.RowKit Go.Shelf

theorem turn_of_grown {X Y : World} {row : Option Nat} (hg : X.grownBy Y row) : Turn (fun k => row = some k) X Y := ⟨hg.os, hg.tape, hg.output, hg.size, fun k hk hn => hg.block k hk (fun e => hn e.symm)⟩
theorem turn_putObj (W : World) (l : Nat) (o : Obj) : Turn (fun k => k = l) W (W.putObj l o) := by
  have h1 := grownBy_putObj' W l o
  exact ⟨h1.os, h1.tape, h1.output, h1.size, fun k hk hn => h1.block k hk (fun e => hn (by cases e; rfl))⟩
/-- The first item that is of the object and is meant. -/
def fitI (P : Int → Bool) (o : Int) (its : List It) : Option Nat := its.findIdx? (fun i => i.o == o && P i.m)
def keepG (P : Int → Bool) (o : Int) (g : Gw) : Bool := (fitI P o g.a.its).isNone
def wkA (P : Int → Bool) (o s f : Int) (a : Wt) : Option Wk := (fitI P o a.its).map (fun k => ⟨a.t, (k : Int), s, f⟩)
def wkG (P : Int → Bool) (o s f : Int) (g : Gw) : Option Wk := wkA P o s f g.a
/-- Whoever does not stand in the line is not meant. -/
theorem keep_of {P : Int → Bool} {o : Int} {g : Gw} (hg : GOk g) (h : g.at o = none) : keepG P o g = true := by
  unfold keepG
  cases hf : fitI P o g.a.its with
  | none => rfl
  | some k =>
    exfalso
    unfold fitI at hf
    rw [List.findIdx?_eq_some_iff_getElem] at hf
    obtain ⟨hk, hp, -⟩ := hf
    simp only [Bool.and_eq_true, beq_iff_eq] at hp
    have : o ∈ g.pl.map Prod.fst := by
      rw [hg.ln]
      exact (linesOf_mem _ _).2 (.inr ⟨_, List.getElem_mem hk, hp.1⟩)
    exact look_none.1 h this
theorem wk_of_keep {P : Int → Bool} {o s f : Int} {g : Gw} (h : keepG P o g = true) : wkG P o s f g = none := by
  unfold keepG at h
  unfold wkG wkA
  rw [Option.isNone_iff_eq_none.1 h]
  rfl
theorem std_none {B : List Gw} {o : Int} (h : stdP B o = []) : ∀ g ∈ B, g.at o = none := by
  intro g hg
  cases hgo : g.at o with
  | none => rfl
  | some p =>
    have : (p, g.x) ∈ stdP B o := List.mem_filterMap.2 ⟨g, hg, by rw [hgo]; rfl⟩
    rw [h] at this
    cases this
theorem keep_all {P : Int → Bool} {o s f : Int} {B : List Gw} (hB : ∀ g ∈ B, GOk g) (h : stdP B o = []) : B.filter (keepG P o) = B ∧ B.filterMap (wkG P o s f) = [] := by
  have hk : ∀ g ∈ B, keepG P o g = true := fun g hg => keep_of (hB g hg) (std_none h g hg)
  exact ⟨List.filter_eq_self.2 hk, List.filterMap_eq_nil_iff.2 (fun g hg => wk_of_keep (hk g hg))⟩
/-- The boxes of wake's: behind E. -/
structure WB (W : World) (E c : Nat) (o : Int) (fv : Value) (s f : Int) : Prop where
  b0 : W.heap[E]? = some (.cells #[.pointer (some ⟨c, 0, none⟩)] 23 (0, 0))
  b1 : W.heap[E + 1]? = some (.cells #[.int .i64 o] 3 (0, 0))
  b2 : W.heap[E + 2]? = some (.cells #[fv] 111 (0, 0))
  b3 : ∃ x y : Int, W.heap[E + 3]? = some (.cells #[.int .i64 x, .int .i64 y, .int .i64 s, .int .i64 f] 61 (0, 0))
  b5 : W.heap[E + 5]? = some (.cells #[.pointer (some ⟨c, 0, none⟩)] 23 (0, 0))
  b6 : W.heap[E + 6]? = some (.cells #[.int .i64 o] 3 (0, 0))
theorem WB.kept {W W' : World} {E c : Nat} {o : Int} {fv : Value} {s f : Int} {F : Nat → Prop} (h : WB W E c o fv s f) (t : Turn F W W') (hF : ∀ k, E ≤ k → k < E + 7 → ¬ F k) : WB W' E c o fv s f := by
  obtain ⟨x, y, h3⟩ := h.b3
  exact ⟨t.heap h.b0 (hF _ (by omega) (by omega)), t.heap h.b1 (hF _ (by omega) (by omega)), t.heap h.b2 (hF _ (by omega) (by omega)), ⟨x, y, t.heap h3 (hF _ (by omega) (by omega))⟩, t.heap h.b5 (hF _ (by omega) (by omega)), t.heap h.b6 (hF _ (by omega) (by omega))⟩
theorem wb_new (w : World) (c : Nat) (o : Int) (fv : Value) (s f : Int) : ∃ W, ((((((w.alloc (.cells #[.pointer (some ⟨c, 0, none⟩)] 23)).alloc (.cells #[.int .i64 o] 3)).alloc (.cells #[fv] 111)).alloc (.cells #[.int .i64 0, .int .i64 0, .int .i64 s, .int .i64 f] 61)).alloc (.cells #[.slice none 0 0] 42)).alloc (.cells #[.pointer (some ⟨c, 0, none⟩)] 23)).alloc (.cells #[.int .i64 o] 3) = W ∧
    WB W w.heap.size c o fv s f ∧ W.heap[w.heap.size + 4]? = some (.cells #[.slice none 0 0] 42 (0, 0)) ∧ W.heap.size = w.heap.size + 7 ∧ Turn NoBlock w W := by
  obtain ⟨W1, h1⟩ : ∃ W1, w.alloc (.cells #[.pointer (some ⟨c, 0, none⟩)] 23) = W1 := ⟨_, rfl⟩
  obtain ⟨W2, h2⟩ : ∃ W2, W1.alloc (.cells #[.int .i64 o] 3) = W2 := ⟨_, rfl⟩
  obtain ⟨W3, h3⟩ : ∃ W3, W2.alloc (.cells #[fv] 111) = W3 := ⟨_, rfl⟩
  obtain ⟨W4, h4⟩ : ∃ W4, W3.alloc (.cells #[.int .i64 0, .int .i64 0, .int .i64 s, .int .i64 f] 61) = W4 := ⟨_, rfl⟩
  obtain ⟨W5, h5⟩ : ∃ W5, W4.alloc (.cells #[.slice none 0 0] 42) = W5 := ⟨_, rfl⟩
  obtain ⟨W6, h6⟩ : ∃ W6, W5.alloc (.cells #[.pointer (some ⟨c, 0, none⟩)] 23) = W6 := ⟨_, rfl⟩
  obtain ⟨W7, h7⟩ : ∃ W7, W6.alloc (.cells #[.int .i64 o] 3) = W7 := ⟨_, rfl⟩
  have s1 : W1.heap.size = w.heap.size + 1 := by rw [← h1]; simp
  have s2 : W2.heap.size = w.heap.size + 2 := by rw [← h2]; simp [s1]
  have s3 : W3.heap.size = w.heap.size + 3 := by rw [← h3]; simp [s2]
  have s4 : W4.heap.size = w.heap.size + 4 := by rw [← h4]; simp [s3]
  have s5 : W5.heap.size = w.heap.size + 5 := by rw [← h5]; simp [s4]
  have s6 : W6.heap.size = w.heap.size + 6 := by rw [← h6]; simp [s5]
  have s7 : W7.heap.size = w.heap.size + 7 := by rw [← h7]; simp [s6]
  have t1 : Turn NoBlock w W1 := by rw [← h1]; exact (Turn.refl _ _).alloc _
  have t2 : Turn NoBlock W1 W2 := by rw [← h2]; exact (Turn.refl _ _).alloc _
  have t3 : Turn NoBlock W2 W3 := by rw [← h3]; exact (Turn.refl _ _).alloc _
  have t4 : Turn NoBlock W3 W4 := by rw [← h4]; exact (Turn.refl _ _).alloc _
  have t5 : Turn NoBlock W4 W5 := by rw [← h5]; exact (Turn.refl _ _).alloc _
  have t6 : Turn NoBlock W5 W6 := by rw [← h6]; exact (Turn.refl _ _).alloc _
  have t7 : Turn NoBlock W6 W7 := by rw [← h7]; exact (Turn.refl _ _).alloc _
  have n1 := heap_alloc_new w (.cells #[.pointer (some ⟨c, 0, none⟩)] 23)
  have n2 := heap_alloc_new W1 (.cells #[.int .i64 o] 3)
  have n3 := heap_alloc_new W2 (.cells #[fv] 111)
  have n4 := heap_alloc_new W3 (.cells #[.int .i64 0, .int .i64 0, .int .i64 s, .int .i64 f] 61)
  have n5 := heap_alloc_new W4 (.cells #[.slice none 0 0] 42)
  have n6 := heap_alloc_new W5 (.cells #[.pointer (some ⟨c, 0, none⟩)] 23)
  have n7 := heap_alloc_new W6 (.cells #[.int .i64 o] 3)
  rw [h1] at n1
  rw [h2, s1] at n2
  rw [h3, s2] at n3
  rw [h4, s3] at n4
  rw [h5, s4] at n5
  rw [h6, s5] at n6
  rw [h7, s6] at n7
  have no : ∀ k, ¬ NoBlock k := fun _ h => h
  refine ⟨W7, by rw [h1, h2, h3, h4, h5, h6, h7], ⟨?_, ?_, ?_, ⟨0, 0, ?_⟩, t7.heap n6 (no _), n7⟩, t7.heap (t6.heap n5 (no _)) (no _), s7, TT t1 (TT t2 (TT t3 (TT t4 (TT t5 (TT t6 t7)))))⟩
  · exact (TT t2 (TT t3 (TT t4 (TT t5 (TT t6 t7))))).heap n1 (no _)
  · exact (TT t3 (TT t4 (TT t5 (TT t6 t7)))).heap n2 (no _)
  · exact (TT t4 (TT t5 (TT t6 t7))).heap n3 (no _)
  · exact (TT t5 (TT t6 t7)).heap n4 (no _)
/-- What holds ahead of each round. -/
structure WInv (w : World) (E c : Nat) (most : Int) (tm lm : Nat) (G : List Gw) (r : Int → Nat) (K : List Int) (P : Int → Bool) (o : Int) (fv : Value) (s f : Int) (pre : List (Nat × Nat)) (X : World) : Prop where
  ex : ∃ A B K', G = A ++ B ∧ stdP A o = pre ∧ (∀ n ∈ K', n ∈ K) ∧ WM X c most tm lm (A.filter (keepG P o) ++ B) r K' ∧
    ∃ v, X.heap[E + 4]? = some (.cells #[v] 42 (0, 0)) ∧ KRow v (A.filterMap (wkG P o s f)) X ∧ ∀ k, Blk v k → E + 7 ≤ k
  bx : WB X E c o fv s f
  turn : Turn (GFoot c tm lm G r K) w X
theorem foot_lt {w : World} {c tm lm nT : Nat} {most : Int} {T : Int → Option Nat} {G G' : List Gw} {r : Int → Nat} {K K' : List Int} (h : GMem w c most tm lm T nT G r K) (hG : ∀ g ∈ G', g ∈ G) (hK : ∀ n ∈ K', n ∈ K) {k : Nat} (hk : GFoot c tm lm G' r K' k) : GFoot c tm lm G r K k ∧ k < w.heap.size := by
  have h1 := gfoot_sub (c := c) (tm := tm) (lm := lm) (r := r) (fun y hy => ⟨y, hG y hy, rfl, rfl, rfl, fun _ h => h⟩) hK hk
  exact ⟨h1, h.lt h1⟩
theorem sub_keep {A B : List Gw} {P : Int → Bool} {o : Int} : ∀ g ∈ A.filter (keepG P o) ++ B, g ∈ A ++ B := by
  intro g hg
  rcases List.mem_append.1 hg with h | h
  · exact List.mem_append_left _ (List.mem_filter.1 h).1
  · exact List.mem_append_right _ h
section
variable {w X Y : World} {E c tm lm : Nat} {most o s f : Int} {G : List Gw} {r : Int → Nat} {K : List Int} {P : Int → Bool} {fv : Value} {pre : List (Nat × Nat)}
theorem WInv.kept {F : Nat → Prop} (h : WInv w E c most tm lm G r K P o fv s f pre X) (h0 : WM w c most tm lm G r K) (hE : w.heap.size = E) (t : Turn F X Y) (hr : ∀ k, F k → E + 7 ≤ k ∧ ¬ TBlk X k 61) : WInv w E c most tm lm G r K P o fv s f pre Y := by
  obtain ⟨A, B, K', h1, h2, h3, h4, v, h5, h6, h7⟩ := h.ex
  subst h1
  refine ⟨⟨A, B, K', rfl, h2, h3, h4.kept t (fun k hk hF => ?_), v, t.heap h5 (fun hF => by have := (hr _ hF).1; omega), h6.kept t (fun k hk hF => (hr k hF).2 (WRow.typed h6 hk)), h7⟩, h.bx.kept t (fun k _ h9 hF => by have := (hr k hF).1; omega), h.turn.trans t (fun k hk => .inr (by have := (hr k hk).1; omega))⟩
  have := (foot_lt h0.mem sub_keep h3 hk).2
  have := (hr k hF).1
  omega
theorem winv_own (h0 : WM w c most tm lm G r K) (hE : w.heap.size = E) {B : Nat} (hB : E + 7 ≤ B) : OwnFrom B (fun (pre : List (Nat × Nat)) X => WInv w E c most tm lm G r K P o fv s f pre X) := by
  intro pre X Y row hs hgr hr
  refine hs.kept h0 hE (turn_of_grown hgr) (fun k hk => ⟨by have := (hr k hk).1; omega, ?_⟩)
  rintro ⟨cur, hc⟩
  obtain ⟨ob, h1, h2⟩ := (hr k hk).2
  rw [hc] at h1
  cases h1
  cases h2
theorem WInv.see (h : WInv w E c most tm lm G r K P o fv s f pre X) (h0 : WM w c most tm lm G r K) (ho : fit o) : LSee (E + 5) (E + 6) c o (r o) (stdP G o) pre.length X := by
  obtain ⟨A, B, K', h1, h2, h3, h4, v, h5, h6, h7⟩ := h.ex
  subst h1
  rw [← h2]
  refine h4.mem.see (A := A) ho (fun hA => ?_) h.bx.b5 h.bx.b6 (fun e he hh => ?_)
  · cases hl : stdP (A.filter (keepG P o)) o with
    | nil => rfl
    | cons e l =>
      have : e ∈ stdP (A.filter (keepG P o)) o := by rw [hl]; exact List.mem_cons_self
      obtain ⟨g, hg, hge⟩ := List.mem_filterMap.1 this
      have : e ∈ stdP A o := List.mem_filterMap.2 ⟨g, (List.mem_filter.1 hg).1, hge⟩
      rw [hA] at this
      cases this
  · have hi : e.1 ∈ inL (A ++ B) o := by rw [← stdP_fst]; exact List.mem_map.2 ⟨e, he, rfl⟩
    have hK := h0.mem.keys o (fun hn => by rw [hn] at hi; cases hi)
    rw [hh] at hi
    exact h0.mem.rin hK hi
end
end Go.Proofs.Ytabakjimlndhcaa
