/-
  What HandlesAll holds in memory: two tables, the values, the counts; and their plain data. No walk, no conditions.
-/
import Derived.Test.YtkligmabgmjojaaHAllData
import Derived.Test.YtkligmabgmjojaaHEach
import Derived.Laws.MakeOwn
namespace Go.Proofs.Ytkligmabgmjojaa
open Go.RowKit

theorem fresh_tab (w : World) (n : Nat) (h : n ≤ 65536) : TableAt (w.alloc (.cells #[.int .i64 n, .slice none 0 0, .slice none 0 0] 72)) w.heap.size (Foot w.heap.size (.slice none 0 0) (.slice none 0 0)) (List.replicate n Pl.none) ∧ ∀ k, Foot w.heap.size (.slice none 0 0) (.slice none 0 0) k → w.heap.size ≤ k := by
  refine ⟨⟨.slice none 0 0, .slice none 0 0, n, [], [], ⟨heap_alloc_new w _, World.ownsRow_nil _ _ _ _, World.ownsRow_nil _ _ _ _⟩, TOK.new n h, rfl, by simp [padL]⟩, ?_⟩
  intro k hk
  rcases hk with rfl | hk | hk
  · exact Nat.le_refl _
  · simp [Value.ownBlock] at hk
  · simp [Value.ownBlock] at hk

def F3 (v c : Value) (j : Nat) : Prop := Blk v j ∨ Blk c j
def P3 (v : Value) (xs : List Int) (c : Value) (cs : List Int) (W : World) : Prop := Ints v xs W ∧ Ints c cs W
theorem pair_own (v : Value) (xs : List Int) (c : Value) (cs : List Int) : Own (F3 v c) (P3 v xs c cs) :=
  ⟨fun _ _ _ h t f => ⟨(own_ints v xs).kept _ _ _ h.1 t (fun k hk => f k (.inl hk)), (own_ints c cs).kept _ _ _ h.2 t (fun k hk => f k (.inr hk))⟩,
   fun W h k hk => by rcases hk with hk | hk; exact (own_ints v xs).lt W h.1 k hk; exact (own_ints c cs).lt W h.2 k hk⟩

structure ASt (w wr : World) (A B : Nat) (Fa Fb : Nat → Prop) (La Lb : List Pl) (v : Value) (xs : List Int) (c : Value) (cs : List Int) : Prop where
  st : St w wr Fa (fun W => TableAt W A Fa La) Fb (fun W => TableAt W B Fb Lb) (F3 v c) (P3 v xs c cs)
  ap : ∀ j, Blk v j → ¬ Blk c j
section
variable {w wr w' : World} {A B : Nat} {Fa Fb F' : Nat → Prop} {La Lb L' : List Pl} {v v' : Value} {xs xs' : List Int} {c : Value} {cs cs' : List Int}
theorem ASt.past (h : ASt w wr A B Fa Fb La Lb v xs c cs) (t : Turn NoBlock wr w') : ASt w w' A B Fa Fb La Lb v xs c cs := ⟨h.st.past t, h.ap⟩
theorem ASt.stepA (h : ASt w wr A B Fa Fb La Lb v xs c cs) (t : Turn Fa wr w') (h' : TableAt w' A F' L') (l : ∀ j, F' j → Fa j ∨ wr.heap.size ≤ j) : ASt w w' A B F' Fb L' Lb v xs c cs :=
  ⟨h.st.step1 (table_own A F' L') h' t l, h.ap⟩
theorem ASt.stepB (h : ASt w wr A B Fa Fb La Lb v xs c cs) (t : Turn Fb wr w') (h' : TableAt w' B F' L') (l : ∀ j, F' j → Fb j ∨ wr.heap.size ≤ j) : ASt w w' A B Fa F' La L' v xs c cs :=
  ⟨h.st.step2 (table_own B F' L') h' t l, h.ap⟩
theorem ASt.vals (h : ASt w wr A B Fa Fb La Lb v xs c cs) (t : Turn (Blk v) wr w') (h' : Ints v' xs' w') (l : ∀ j, Blk v' j → Blk v j ∨ wr.heap.size ≤ j) : ASt w w' A B Fa Fb La Lb v' xs' c cs := by
  have hc := h.st.n3.2
  refine ⟨h.st.step3 (pair_own v' xs' c cs) ⟨h', (own_ints c cs).kept _ _ _ hc t (fun k hk hv => h.ap k hv hk)⟩ (t.mono (fun k hk => .inl (.inl hk))) (fun j hj => ?_), fun j hj hcj => ?_⟩
  · rcases hj with hj | hj
    · rcases l j hj with h1 | h1
      · exact .inl (.inl h1)
      · exact .inr h1
    · exact .inl (.inr hj)
  · rcases l j hj with h1 | h1
    · exact h.ap j h1 hcj
    · have := (own_ints c cs).lt wr hc j hcj
      omega
theorem ASt.cnts (h : ASt w wr A B Fa Fb La Lb v xs c cs) (t : Turn (Blk c) wr w') (h' : Ints c cs' w') : ASt w w' A B Fa Fb La Lb v xs c cs' := by
  have hv := h.st.n3.1
  refine ⟨h.st.step3 (pair_own v xs c cs') ⟨(own_ints v xs).kept _ _ _ hv t (fun k hk hc => h.ap k hk hc), h'⟩ (t.mono (fun k hk => .inl (.inr hk))) (fun j hj => .inl hj), h.ap⟩
/-- The values as numbers that lie apart from a table. -/
theorem ASt.byA (h : ASt w wr A B Fa Fb La Lb v xs c cs) (hf : ∀ z ∈ xs, fit z) : ∃ p cap, v = .slice p xs.length cap ∧ NumsBy Fa wr p xs.length xs := by
  obtain ⟨p, cap, rfl⟩ := ints_slice h.st.n3.1
  refine ⟨p, cap, rfl, rfl, hf, fun h0 => ?_⟩
  obtain ⟨g, c', he, -⟩ := ints_shape h.st.n3.1 h0
  simp at he
  obtain ⟨rfl, rfl⟩ := he
  refine ⟨g, 0, rfl, fun hg => h.st.a13 g hg (.inl rfl), fun j hj => ?_⟩
  rw [Nat.zero_add]
  exact ints_cell h.st.n3.1 j hj
theorem ASt.byB (h : ASt w wr A B Fa Fb La Lb v xs c cs) (hf : ∀ z ∈ xs, fit z) : ∃ p cap, v = .slice p xs.length cap ∧ NumsBy Fb wr p xs.length xs := by
  obtain ⟨p, cap, rfl⟩ := ints_slice h.st.n3.1
  refine ⟨p, cap, rfl, rfl, hf, fun h0 => ?_⟩
  obtain ⟨g, c', he, -⟩ := ints_shape h.st.n3.1 h0
  simp at he
  obtain ⟨rfl, rfl⟩ := he
  refine ⟨g, 0, rfl, fun hg => h.st.a23 g hg (.inl rfl), fun j hj => ?_⟩
  rw [Nat.zero_add]
  exact ints_cell h.st.n3.1 j hj
end

/-- How often each place stands in the list. -/
def cntL (n : Nat) (zs : List Int) : List Int := (List.range n).map fun (k : Nat) => ((zs.count (k : Int) : Nat) : Int)
theorem cntL_len (n : Nat) (zs : List Int) : (cntL n zs).length = n := by simp [cntL]
theorem cntL_at {n : Nat} {zs : List Int} {k : Nat} (h : k < n) : (cntL n zs).getD k 0 = ((zs.count (k : Int) : Nat) : Int) := by simp [cntL, List.getD, h]
theorem cntL_in {n : Nat} {zs : List Int} {k : Nat} : cntL n (zs ++ [(k : Int)]) = (cntL n zs).set k ((zs.count (k : Int) : Nat) + 1) := by
  apply List.ext_getElem
  · simp [cntL]
  · intro i h1 h2
    simp [cntL] at h1
    rw [List.getElem_set]
    simp only [cntL, List.getElem_map, List.getElem_range, List.count_append, List.count_singleton]
    by_cases e : k = i
    · subst e; simp
    · have : ¬ ((k : Int) == (i : Int)) = true := by simp; omega
      simp [e, this]
theorem cntL_out {n : Nat} {zs : List Int} {z : Int} (h : ¬ (0 ≤ z ∧ z < n)) : cntL n (zs ++ [z]) = cntL n zs := by
  unfold cntL
  apply List.map_congr_left
  intro k hk
  rw [List.mem_range] at hk
  have : ¬ (z == (k : Int)) = true := by simp; omega
  simp [List.count_append, List.count_singleton, this]
theorem count_le (zs : List Int) (z : Int) : zs.count z ≤ zs.length := List.count_le_length
theorem whole_in {n : Nat} {zs : List Int} {k : Nat} (h : k < n) : wholeB n (zs ++ [(k : Int)]) = (wholeB n zs && decide (((zs.count (k : Int) : Nat) : Int) + 1 = 1)) := by
  unfold wholeB
  rw [← Bool.decide_and, decide_eq_decide]
  have hc : ((zs.count (k : Int) : Nat) : Int) + 1 = 1 ↔ (k : Int) ∉ zs := by
    rw [← List.count_eq_zero]; omega
  rw [hc, List.nodup_append]
  constructor
  · rintro ⟨h1, h2, h3, h4⟩
    exact ⟨⟨fun z hz => h1 z (by simp [hz]), h2⟩, fun hk => h4 _ hk _ (by simp) rfl⟩
  · rintro ⟨⟨h1, h2⟩, h3⟩
    refine ⟨fun z hz => ?_, h2, by simp, fun a ha b hb => ?_⟩
    · rcases List.mem_append.1 hz with h4 | h4
      · exact h1 z h4
      · simp at h4; subst h4; omega
    · simp at hb; subst hb; intro e; subst e; exact h3 ha
theorem whole_out {n : Nat} {zs : List Int} {z : Int} (h : ¬ (0 ≤ z ∧ z < n)) : wholeB n (zs ++ [z]) = false := by
  unfold wholeB
  rw [decide_eq_false_iff_not]
  rintro ⟨h1, -⟩
  exact h (h1 z (by simp))

theorem allG_fit {n : Nat} (hn : n ≤ 60) {z : Int} (h : fit z) : fit (allG n z) := by
  unfold allG
  split
  · exact valS_fit _ _ (by omega)
  · exact h
theorem made_ints (W : World) (n : Nat) (hn : n ≤ 60) : Ints (.slice (some ⟨W.heap.size, 0, none⟩) n n) (cntL n []) (W.alloc (.cells (madeCells #[Value.int .i64 0] n) 3)) := by
  have e : (madeCells #[Value.int .i64 0] n).toList = (cntL n []).map (Value.int .i64) := by
    apply List.ext_getElem
    · simp [cntL, madeCells]
    · intro i h1 h2
      simp [cntL, madeCells, Nat.mod_one]
  unfold Ints
  rw [cntL_len]
  refine ⟨by simp [cntL], .inr ⟨W.heap.size, n, _, rfl, Nat.zero_le _, heap_alloc_new W _, Nat.le_refl _, by unfold maxLen; omega, by rw [size_madeCells]; omega, ?_⟩⟩
  rw [e, List.take_of_length_le (by simp [cntL])]
theorem all_start (w : World) : ∃ Fa Fb, ASt w ((w.alloc (.cells #[.int .i64 64, .slice none 0 0, .slice none 0 0] 72)).alloc (.cells #[.int .i64 64, .slice none 0 0, .slice none 0 0] 72)) w.heap.size (w.heap.size + 1) Fa Fb (rngL 64 0 allF) (rngL 64 0 allF) (.slice none 0 0) [] (.slice none 0 0) [] := by
  obtain ⟨h1, l1⟩ := fresh_tab w 64 (by omega)
  obtain ⟨h2, l2⟩ := fresh_tab (w.alloc (.cells #[.int .i64 64, .slice none 0 0, .slice none 0 0] 72)) 64 (by omega)
  rw [World.size_alloc] at h2 l2
  have s1 := (St.begin w).step1 (table_own w.heap.size _ (List.replicate 64 Pl.none)) h1 ((Turn.refl NoBlock w).alloc _) (fun j hj => .inr (l1 j hj))
  have s2 := s1.step2 (table_own (w.heap.size + 1) _ (List.replicate 64 Pl.none)) h2 ((Turn.refl NoBlock _).alloc _) (fun j hj => .inr (by rw [World.size_alloc]; exact l2 j hj))
  have s3 := s2.step3 (w' := _) (pair_own (.slice none 0 0) [] (.slice none 0 0) []) ⟨ints_nil _, ints_nil _⟩ (Turn.refl NoBlock _) (fun j hj => by rcases hj with hj | hj; exact (blk_nil j hj).elim; exact (blk_nil j hj).elim)
  rw [rng_zero]
  exact ⟨_, _, s3, fun j hj => (blk_nil j hj).elim⟩
end Go.Proofs.Ytkligmabgmjojaa
