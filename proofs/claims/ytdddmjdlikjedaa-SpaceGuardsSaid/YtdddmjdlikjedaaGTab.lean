/-
  RegionApart's state: three tables of sixteen numbers beside a region; its calls. No conditions.
-/
import Derived.Test.YtdddmjdlikjedaaGProt
import Derived.Test.YtdddmjdlikjedaaLawPlaces
namespace Go.Proofs.Ytdddmjdlikjedaa
open Go.ChangeShapes Go.WideShapes Go.ChangeAt Go.RowKit

section
variable {K K' : Nat → Prop} {W w w' : World} {a : Nat} {size most : Int} {l l' : List Pc}
theorem GT.weak (h : GT K W a size most l w) (hs : ∀ j, K' j → K j) : GT K' W a size most l w := by
  obtain ⟨v, h1, h2⟩ := h.mem
  exact ⟨h.ok, ⟨v, h1, fun j hj => ⟨(h2 j hj).1, fun e => (h2 j hj).2 (hs j e)⟩⟩, fun j hj => h.kb j (hs j hj), h.turn⟩
/-- What was allocated since is left alone, too. -/
theorem GT.since (h : GT K W a size most l w) (t : Turn NoBlock w w') : GT (fun j => K j ∨ (w.heap.size ≤ j ∧ j < w'.heap.size)) W a size most l w' := by
  obtain ⟨v, h1, h2⟩ := h.mem
  refine ⟨h.ok, ⟨v, h1.past t, fun j hj => ⟨(h2 j hj).1, fun e => ?_⟩⟩, fun j hj => ?_, h.turn.trans t (fun _ h => .inl h)⟩
  · have := h1.lt hj
    rcases e with e | e
    · exact (h2 j hj).2 e
    · omega
  · rcases hj with hj | hj
    · exact Nat.lt_of_lt_of_le (h.kb j hj) t.size
    · exact hj.2
theorem GT.list (h : GT K W a size most l w) (hs : size ≤ 65536) :
    Calls Try.prog 35 #[.pointer (some ⟨a, 0, none⟩)] w fun e w' => ∃ v', e = .returned v' ∧ PRow v' l w' ∧ (∀ j, Blk v' j → w.heap.size ≤ j) ∧ Turn NoBlock w w' := by
  obtain ⟨v, h1, h2⟩ := h.mem
  have := gok_len h.ok
  exact list_all h1 (by omega)
/-- What Protect makes of a region's pieces. -/
def ProtV (l : List Pc) (x n pr : Int) (l' : List Pc) : Prop := ∀ y t, Vw l' y t ↔ (¬ (x ≤ y ∧ y < x + n) ∧ Vw l y t) ∨ ((x ≤ y ∧ y < x + n) ∧ ∃ u, Vw l y u ∧ t = (u.1, u.2.1, pr))
theorem protL_len (l : List Pc) (k b : Nat) (x n pr : Int) : (protL l k b x n pr).length ≤ 3 * l.length := by
  unfold protL insL
  have h1 := outL_len l k b x n
  have h2 : (seg l k b).length ≤ l.length := by unfold seg; rw [List.length_drop, List.length_take]; omega
  rw [List.length_append, List.length_map, List.length_map]
  omega
theorem GT.protect (h : GT K W a size most l w) (hs : size ≤ 65536) (hm : 0 ≤ most ∧ most ≤ 65536) (x n pr : Int) (hx : fit x) (hn : fit n) :
    Calls Try.prog 34 #[.pointer (some ⟨a, 0, none⟩), .int .i64 x, .int .i64 n, .int .i64 pr] w fun e w' =>
      (∃ z : Int, z < 0 ∧ e = .returned (.int .i64 z) ∧ Turn NoBlock w w') ∨
      ((isGrid x n ∧ x + n ≤ size) ∧ ∃ l', e = .returned (.int .i64 0) ∧ ProtV l x n pr l' ∧ GT K W a size most l' w' ∧ Turn (fun j => ¬ K j ∧ W.heap.size ≤ j) w w') := by
  obtain ⟨v, h1, h2⟩ := h.mem
  have hl := gok_len h.ok
  by_cases hp : isProt pr
  · by_cases hr : isGrid x n ∧ x + n ≤ size
    · obtain ⟨k, b, hk⟩ := seg_any h.ok x n
      have hx1 : 0 ≤ x ∧ 1 ≤ n := by have := hr.1; unfold isGrid isMul at this; omega
      refine (protect_any h1 h.ok (by omega) (by omega) hm x n pr hr hp k b hk).mono ?_
      rintro e w' (⟨_, g1, g2⟩ | ⟨_, ⟨_, g1, g2⟩ | ⟨_, g1, ⟨v', lo', p1, p2, p3, p4⟩, g3⟩⟩)
      · exact .inl ⟨-25, by omega, g1, g2⟩
      · exact .inl ⟨-4, by omega, g1, g2⟩
      · refine .inr ⟨hr, _, g1, fun y t => vw_prot hk h.ok hx1 p1, ⟨gok_prot hk h.ok hr.1 hp p1 p2, ⟨v', p3, fun j hj => ?_⟩, fun j hj => Nat.lt_of_lt_of_le (h.kb j hj) g3.size, h.turn.trans g3 (fun j hj => .inr (h2 j hj).1)⟩, g3.mono (fun j hj => .inl ⟨(h2 j hj).2, (h2 j hj).1⟩)⟩
        rcases p4 j hj with e | e
        · exact h2 j e
        · exact ⟨Nat.le_trans h.turn.size e, fun hh => by have := h.kb j hh; omega⟩
    · refine (protect_no h1 h.ok x n pr hx hn hp hr).mono ?_
      rintro e w' ⟨z, g1, g2, g3⟩
      exact .inl ⟨z, g1, g2, g3⟩
  · refine (protect_bad a x n pr w hp).mono ?_
    rintro e w' ⟨g1, rfl⟩
    exact .inl ⟨-10, by omega, g1, Turn.refl _ _⟩
end

/-- A table of sixteen numbers at block b. -/
def tabC (T : Nat → Int) : List Value := (List.range 16).map (fun i => .int .i64 (T i))
def Tab (w : World) (b : Nat) (T : Nat → Int) : Prop := w.heap[b]? = some (.cells (tabC T).toArray 59 (0, 0))
theorem tabC_at (T : Nat → Int) {i : Nat} (hi : i < 16) : (tabC T)[i]? = some (.int .i64 (T i)) := by
  unfold tabC
  rw [List.getElem?_map, List.getElem?_range hi]
  rfl
theorem tab_zero : ∀ w, Sem.run Try.prog (zeroValue 59) w = .ok (.agg (tabC (fun _ => 0)).toArray) w := fun w => by kernel_rfl
theorem Tab.cell {w : World} {b : Nat} {T : Nat → Int} (h : Tab w b T) {i : Nat} (hi : i < 16) : w.cell? ⟨b, i, none⟩ = some (.int .i64 (T i)) := by
  rw [cell_at h, List.getElem?_toArray, tabC_at T hi]
theorem Tab.free {w : World} {b : Nat} {T : Nat → Int} (h : Tab w b T) (i : Nat) : w.frozen? ⟨b, i, none⟩ = false := free_at h i
theorem Tab.past {w w' : World} {b : Nat} {T : Nat → Int} {F : Nat → Prop} (h : Tab w b T) (t : Turn F w w') (hF : ¬ F b) : Tab w' b T := t.heap h hF
theorem Tab.set {w : World} {b : Nat} {T : Nat → Int} (h : Tab w b T) {i : Nat} (hi : i < 16) (x : Int) : Tab (w.setCell ⟨b, i, none⟩ (.int .i64 x)) b (fun j => if j = i then x else T j) := by
  have h1 := heap_setCell_same _ b i _ _ (.int .i64 x) h
  unfold Tab
  rw [h1]
  congr 2
  rw [List.setIfInBounds_toArray]
  congr 1
  apply List.ext_getElem?
  intro j
  rw [List.getElem?_set]
  by_cases e : i = j
  · subst e
    rw [if_pos rfl, tabC_at _ hi, if_pos rfl, if_pos (by simp [tabC]; exact hi)]
  · rw [if_neg e]
    by_cases hj : j < 16
    · rw [tabC_at _ hj, tabC_at _ hj, if_neg (fun h => e h.symm)]
    · rw [List.getElem?_eq_none (by simp [tabC]; omega), List.getElem?_eq_none (by simp [tabC]; omega)]
theorem Tab.congr {w : World} {b : Nat} {T T' : Nat → Int} (h : Tab w b T) (he : ∀ i, i < 16 → T i = T' i) : Tab w b T' := by
  have : tabC T = tabC T' := by
    unfold tabC
    apply List.map_congr_left
    intro i hi
    rw [he i (List.mem_range.1 hi)]
  unfold Tab at *
  rw [← this]
  exact h
theorem tab_new (w : World) : Tab (w.alloc (.cells (tabC (fun _ => 0)).toArray 59)) w.heap.size (fun _ => 0) := heap_alloc_new w _
/-- One place more. -/
theorem updR_step {V : Nat → Int} {a m : Nat} {f : Nat → Int} (i : Nat) : (if i = a + m then f (a + m) else updR V a m f i) = updR V a (m + 1) f i := by
  unfold updR
  by_cases h : i = a + m
  · subst h
    rw [if_pos rfl, if_pos (by omega)]
  · rw [if_neg h]
    by_cases h2 : a ≤ i ∧ i < a + m
    · rw [if_pos h2, if_pos (by omega)]
    · rw [if_neg h2, if_neg (by omega)]
theorem updR_zero {V : Nat → Int} {a : Nat} {f : Nat → Int} (i : Nat) : updR V a 0 f i = V i := by
  unfold updR
  rw [if_neg (by omega)]
theorem updR_far {V : Nat → Int} {a m : Nat} {f : Nat → Int} {i : Nat} (h : ¬ (a ≤ i ∧ i < a + m)) : updR V a m f i = V i := by
  unfold updR
  rw [if_neg h]
theorem Tab.step {w : World} {b : Nat} {V : Nat → Int} {a m : Nat} {f : Nat → Int} (h : Tab w b (updR V a m f)) (hi : a + m < 16) : Tab (w.setCell ⟨b, a + m, none⟩ (.int .i64 (f (a + m)))) b (updR V a (m + 1) f) :=
  (h.set hi _).congr (fun i _ => updR_step i)

theorem tab16_d : Try.prog.underlying 59 = some (.array 16 3) := by kernel_rfl
theorem tab_ix (b A i : Nat) (h : A + i < 16) (w : World) :
    (Instr.indexAt 59 (.pointer (some ⟨b, 0, none⟩)) (.int .i64 ((A : Int) + (i : Int)))).run Try.prog w = .ok (.pointer (some ⟨b, A + i, none⟩)) w := by
  have h1 : (0 : Int) ≤ (A : Int) + (i : Int) ∧ (A : Int) + (i : Int) < 16 := by omega
  have h2 : ((A : Int) + (i : Int)).toNat = A + i := by omega
  simp [Instr.indexAt, run_underlying tab16_d, asIntOf, go_sem, h1, h2]
/-- RegionApart's state at the loop over its calls. -/
structure ApS (W : World) (a b4 b5 b6 : Nat) (w : World) : Prop where
  st : ∃ l V F P, GT (fun j => j = b4 ∨ j = b5 ∨ j = b6) W a 1024 100 l w ∧ Tab w b4 V ∧ Tab w b5 F ∧ Tab w b6 P ∧ ApIs (fun v => IntKind.i64.wrap (v + 1)) l V F P
  ge : W.heap.size ≤ b4 ∧ W.heap.size ≤ b5 ∧ W.heap.size ≤ b6
  ne : b4 ≠ b5 ∧ b4 ≠ b6 ∧ b5 ≠ b6
theorem wrap_ne {v : Int} (hf : fit v) (h : v ≠ -1) : IntKind.i64.wrap (v + 1) ≠ 0 := by
  unfold fit at hf
  by_cases e : v = 9223372036854775807
  · subst e; decide
  · rw [wrap_fit (by unfold fit; omega)]
    omega
end Go.Proofs.Ytdddmjdlikjedaa
