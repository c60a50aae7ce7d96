/-
  The reference's table in memory: values and entries behind a pointer; what it holds, as places. No walk, no conditions.
-/
import Derived.Test.YtacdhlhkpdlekaaHEnts
import Derived.Test.YtacdhlhkpdlekaaHRange
import Derived.Test.YtacdhlhkpdlekaaHRoom
namespace Go.Proofs.Ytacdhlhkpdlekaa
open Go.RowKit

/-- Entries of the reference in a slice of the call's own. -/
def REnts (v : Value) (xs : List Ent) (w : World) : Prop := w.ownsRow 0 76 3 v xs.length (entsOf xs)
theorem own_rents (v : Value) (xs : List Ent) : Own (Blk v) (REnts v xs) :=
  ⟨fun _ _ _ h ht hf => ht.own h hf, fun _ h k hk => by obtain ⟨cur, hc⟩ := own_block h hk; exact lt_of_block hc⟩
theorem info76 : (Try.prog.info? 76).map (fun i => (i.zero, i.size, i.bytes)) = some (some (.agg #[.int .i64 0, .int .i64 0, .int .i64 0]), 3, 24) := by kernel_rfl
theorem slice28 : Try.prog.underlying 28 = some (.slice 76) := by kernel_rfl
theorem rents_push {w w1 : World} {o : Obj} {v : Value} {xs : List Ent} {x : Ent} {n g c : Nat} (hn : xs.length = n)
    (hown : w1.ownsRow 0 76 3 (.slice (some ⟨g, 0, none⟩) (n + 1) c) (n + 1) (entsOf xs ++ [.int .i64 x.o, .int .i64 x.k, .int .i64 x.r]))
    (hgrow : (w.alloc o).grownBy w1 v.ownBlock) (hat : v.ownBlock = some g ∨ g = w.heap.size + 1) :
    REnts (.slice (some ⟨g, 0, none⟩) (n + 1) c) (xs ++ [x]) w1 ∧ Turn (Blk v) w w1 ∧ ∀ k, Blk (.slice (some ⟨g, 0, none⟩) (n + 1) c) k → Blk v k ∨ w.heap.size ≤ k := by
  refine ⟨?_, ((Turn.refl _ w).alloc o).grown hgrow (fun k hk => .inl hk), ?_⟩
  · unfold REnts
    rw [entsOf_snoc]
    simpa [hn, Ent.cells] using hown
  · intro k hk
    simp [Blk, Value.ownBlock] at hk
    subst hk
    rcases hat with h | h
    · exact .inl h
    · right; omega

theorem eo_len (l : List Ent) : (entsOf l).length = l.length * 3 := by
  induction l with
  | nil => rfl
  | cons s l ih => simp only [entsOf, List.flatMap_cons, List.length_append, List.length_cons] at ih ⊢; simp only [Ent.cells, List.length_cons, List.length_nil]; omega
theorem eo_cons (p : Ent) (l : List Ent) : entsOf (p :: l) = .int .i64 p.o :: .int .i64 p.k :: .int .i64 p.r :: entsOf l := rfl
theorem eo_at (l : List Ent) (i : Nat) (p : Ent) (h : l[i]? = some p) :
    (entsOf l)[i * 3]? = some (.int .i64 p.o) ∧ (entsOf l)[i * 3 + 1]? = some (.int .i64 p.k) ∧ (entsOf l)[i * 3 + 2]? = some (.int .i64 p.r) := by
  induction l generalizing i with
  | nil => simp at h
  | cons t l ih =>
    cases i with
    | zero => simp at h; subst h; simp [eo_cons]
    | succ i =>
      simp at h
      have h1 := ih i h
      have e : (i + 1) * 3 = i * 3 + 3 := by omega
      rw [e, eo_cons]
      exact h1
theorem eo_set (l : List Ent) (i : Nat) (p : Ent) (h : i < l.length) :
    entsOf (l.set i p) = (((entsOf l).set (i * 3) (.int .i64 p.o)).set (i * 3 + 1) (.int .i64 p.k)).set (i * 3 + 2) (.int .i64 p.r) := by
  induction l generalizing i with
  | nil => simp at h
  | cons t l ih =>
    cases i with
    | zero => simp [eo_cons]
    | succ i =>
      have h1 := ih i (by simpa using h)
      have e : (i + 1) * 3 = i * 3 + 3 := by omega
      rw [List.set_cons_succ, e, eo_cons, eo_cons, h1]
      rfl

/-- The reference's table at block x: values V, entries E. -/
structure RMem (w : World) (x : Nat) (va ea : Value) (cap : Nat) (V : List Int) (E : List Ent) : Prop where
  head : w.heap[x]? = some (.cells #[va, ea, .int .i64 cap] 30 (0, 0))
  vals : Ints va V w
  ents : REnts ea E w
def RFoot (x : Nat) (va ea : Value) (k : Nat) : Prop := k = x ∨ va.ownBlock = some k ∨ ea.ownBlock = some k

section
variable {w w' : World} {x cap : Nat} {va ea : Value} {V : List Int} {E : List Ent}
theorem RMem.xv (h : RMem w x va ea cap V E) : va.ownBlock ≠ some x := ne_own h.vals h.head (by decide)
theorem RMem.xe (h : RMem w x va ea cap V E) : ea.ownBlock ≠ some x := ne_own h.ents h.head (by decide)
theorem RMem.ve (h : RMem w x va ea cap V E) {k : Nat} (hk : va.ownBlock = some k) : ea.ownBlock ≠ some k := ne_own2 h.vals h.ents (by decide) hk
theorem RMem.lt (h : RMem w x va ea cap V E) {j : Nat} (hj : RFoot x va ea j) : j < w.heap.size := by
  rcases hj with rfl | hj | hj
  · exact lt_of_block h.head
  · exact (own_ints _ _).lt w h.vals j hj
  · exact (own_rents _ _).lt w h.ents j hj
theorem RMem.kept {G : Nat → Prop} (h : RMem w x va ea cap V E) (ht : Turn G w w') (hG : ∀ j, RFoot x va ea j → ¬ G j) : RMem w' x va ea cap V E :=
  ⟨ht.heap h.head (hG _ (.inl rfl)), (own_ints _ _).kept w w' G h.vals ht (fun j hj => hG j (.inr (.inl hj))), (own_rents _ _).kept w w' G h.ents ht (fun j hj => hG j (.inr (.inr hj)))⟩
theorem RMem.past (h : RMem w x va ea cap V E) (ht : Turn NoBlock w w') : RMem w' x va ea cap V E := h.kept ht (fun _ _ h => h)
theorem RMem.c0 (h : RMem w x va ea cap V E) : w.cell? ⟨x, 0, none⟩ = some va := by simpa using cell_at h.head 0
theorem RMem.c1 (h : RMem w x va ea cap V E) : w.cell? ⟨x, 1, none⟩ = some ea := by simpa using cell_at h.head 1
theorem RMem.c2 (h : RMem w x va ea cap V E) : w.cell? ⟨x, 2, none⟩ = some (.int .i64 cap) := by simpa using cell_at h.head 2
theorem RMem.f (h : RMem w x va ea cap V E) (j : Nat) : w.frozen? ⟨x, j, none⟩ = false := free_at h.head j

/-- One value's cell. -/
theorem RMem.valAt (h : RMem w x va ea cap V E) {k : Nat} (hk : k < V.length) :
    ∃ g c, va = .slice (some ⟨g, 0, none⟩) V.length c ∧ V.length ≤ c ∧ c ≤ 9223372036854775807 ∧ x ≠ g ∧ ea.ownBlock ≠ some g ∧ w.cell? ⟨g, k, none⟩ = some (.int .i64 (V.getD k 0)) ∧ ∀ j, w.frozen? ⟨g, j, none⟩ = false := by
  obtain ⟨g, c, rfl, hc, hc'⟩ := ints_shape h.vals (by omega)
  exact ⟨g, c, rfl, hc, hc', fun e => h.xv (by simp [Value.ownBlock, e]), h.ve rfl, ints_cell h.vals k hk, fun j => h.vals.frozenAt j⟩
/-- One entry's cells. -/
theorem RMem.entAt (h : RMem w x va ea cap V E) {k : Nat} {e : Ent} (hk : E[k]? = some e) :
    ∃ g c, ea = .slice (some ⟨g, 0, none⟩) E.length c ∧ k < E.length ∧ E.length ≤ c ∧ c ≤ 9223372036854775807 ∧ x ≠ g ∧ va.ownBlock ≠ some g ∧
      w.cell? ⟨g, k * 3, none⟩ = some (.int .i64 e.o) ∧ w.cell? ⟨g, k * 3 + 1, none⟩ = some (.int .i64 e.k) ∧ w.cell? ⟨g, k * 3 + 2, none⟩ = some (.int .i64 e.r) ∧ ∀ j, w.frozen? ⟨g, j, none⟩ = false := by
  have hlt : k < E.length := (List.getElem?_eq_some_iff.1 hk).1
  obtain ⟨g, c, rfl, hc, hc'⟩ := own_shape h.ents (by omega)
  have hx := eo_at _ _ _ hk
  refine ⟨g, c, rfl, hlt, hc, hc', fun e => h.xe (by simp [Value.ownBlock, e]), fun e => h.ve e rfl, ?_, ?_, ?_, fun j => h.ents.frozenAt j⟩
  · exact (h.ents.cellAt (k * 3) (by omega)).trans hx.1
  · exact (h.ents.cellAt (k * 3 + 1) (by omega)).trans hx.2.1
  · exact (h.ents.cellAt (k * 3 + 2) (by omega)).trans hx.2.2
/-- One value is written. -/
theorem RMem.putV {g n c k : Nat} (z : Int) (h : RMem w x (.slice (some ⟨g, 0, none⟩) n c) ea cap V E) (hk : k < V.length) :
    RMem (w.setCell ⟨g, k, none⟩ (.int .i64 z)) x (.slice (some ⟨g, 0, none⟩) n c) ea cap (V.set k z) E ∧ Turn (fun b => b = g) w (w.setCell ⟨g, k, none⟩ (.int .i64 z)) := by
  have hso := h.vals
  unfold Ints at hso
  obtain ⟨_, _, he, _⟩ := own_shape hso (by omega)
  simp at he
  have hn := he.2.1
  rw [← hn] at hso
  have hxg : x ≠ g := fun e => h.xv (by simp [Value.ownBlock, e])
  have hge : ea.ownBlock ≠ some g := h.ve rfl
  have s1 := (hso.stored k (.int .i64 z)).1
  rw [← List.map_set] at s1
  refine ⟨⟨set_past h.head hxg _, ?_, own_past h.ents hge _⟩, (Turn.refl (fun b => b = g) w).setCell (p := ⟨g, _, none⟩) (.inl rfl) _⟩
  unfold Ints
  simpa [hn] using s1
/-- One entry is written. -/
theorem RMem.putE {g n c k : Nat} (e : Ent) (h : RMem w x va (.slice (some ⟨g, 0, none⟩) n c) cap V E) (hk : k < E.length) :
    RMem (((w.setCell ⟨g, k * 3, none⟩ (.int .i64 e.o)).setCell ⟨g, k * 3 + 1, none⟩ (.int .i64 e.k)).setCell ⟨g, k * 3 + 2, none⟩ (.int .i64 e.r)) x va (.slice (some ⟨g, 0, none⟩) n c) cap V (E.set k e) ∧
    Turn (fun b => b = g) w (((w.setCell ⟨g, k * 3, none⟩ (.int .i64 e.o)).setCell ⟨g, k * 3 + 1, none⟩ (.int .i64 e.k)).setCell ⟨g, k * 3 + 2, none⟩ (.int .i64 e.r)) := by
  have hso := h.ents
  unfold REnts at hso
  obtain ⟨_, _, he, _⟩ := own_shape hso (by omega)
  simp at he
  have hn := he.2.1
  rw [← hn] at hso
  have hxg : x ≠ g := fun e => h.xe (by simp [Value.ownBlock, e])
  have hge : va.ownBlock ≠ some g := fun e => h.ve e rfl
  have s1 := (hso.stored (k * 3) (.int .i64 e.o)).1
  have s2 := (s1.stored (k * 3 + 1) (.int .i64 e.k)).1
  have s3 := (s2.stored (k * 3 + 2) (.int .i64 e.r)).1
  rw [← eo_set E k e hk] at s3
  refine ⟨⟨set_past (set_past (set_past h.head hxg _) hxg _) hxg _, own_past (own_past (own_past h.vals hge _) hge _) hge _, ?_⟩, ?_⟩
  · unfold REnts
    simpa [hn] using s3
  · exact (((Turn.refl (fun b => b = g) w).setCell (p := ⟨g, _, none⟩) (.inl rfl) _).setCell (p := ⟨g, _, none⟩) (.inl rfl) _).setCell (p := ⟨g, _, none⟩) (.inl rfl) _
/-- The values are others, in new blocks or the same. -/
theorem RMem.newV {w1 : World} {va' : Value} {V' : List Int} (h : RMem w x va ea cap V E) (hv : Ints va' V' w1) (ht : Turn (Blk va) w w1) :
    RMem (w1.setCell ⟨x, 0, none⟩ va') x va' ea cap V' E ∧ Turn (RFoot x va ea) w (w1.setCell ⟨x, 0, none⟩ va') := by
  have h1 := ht.heap h.head (fun e => h.xv e)
  have hne : va'.ownBlock ≠ some x := ne_own hv h1 (by decide)
  refine ⟨⟨?_, own_past hv hne _, own_past ((own_rents _ _).kept _ _ _ h.ents ht (fun j hj hb => h.ve hb hj)) h.xe _⟩, ?_⟩
  · have := set_at h1 0 va'
    simpa using this
  · exact (ht.mono (fun k hk => .inl (.inr (.inl hk)))).setCell (p := ⟨x, 0, none⟩) (.inl (.inl rfl)) _
theorem RMem.newE {w1 : World} {ea' : Value} {E' : List Ent} (h : RMem w x va ea cap V E) (hv : REnts ea' E' w1) (ht : Turn (Blk ea) w w1) :
    RMem (w1.setCell ⟨x, 1, none⟩ ea') x va ea' cap V E' ∧ Turn (RFoot x va ea) w (w1.setCell ⟨x, 1, none⟩ ea') := by
  have h1 := ht.heap h.head (fun e => h.xe e)
  have hne : ea'.ownBlock ≠ some x := ne_own hv h1 (by decide)
  refine ⟨⟨?_, own_past ((own_ints _ _).kept _ _ _ h.vals ht (fun j hj hb => h.ve hj hb)) h.xv _, own_past hv hne _⟩, ?_⟩
  · have := set_at h1 1 ea'
    simpa using this
  · exact (ht.mono (fun k hk => .inl (.inr (.inr hk)))).setCell (p := ⟨x, 1, none⟩) (.inl (.inl rfl)) _
end

/-- What calls can make of it. -/
structure ROK (cap : Nat) (R : List Pl) : Prop where
  top : cap ≤ 65536
  len : R.length ≤ cap
  vals : ∀ (k : Nat) (p : Pl), R[k]? = some p → p = Pl.none ∨ ∃ d : Int, p.value = valS k d
def valsR (R : List Pl) : List Int := R.map (·.value)
def entsR (R : List Pl) : List Ent := R.map (·.e)
/-- The reference's table at block x: its places L, its blocks G. -/
def RefAt (w : World) (x : Nat) (G : Nat → Prop) (L : List Pl) : Prop := ∃ va ea cap R, RMem w x va ea cap (valsR R) (entsR R) ∧ ROK cap R ∧ G = RFoot x va ea ∧ L = padL cap R
theorem ref_own (x : Nat) (G : Nat → Prop) (L : List Pl) : Own G (fun w => RefAt w x G L) := by
  refine ⟨fun w w' H h ht hf => ?_, fun w h j hj => ?_⟩
  · obtain ⟨va, ea, cap, R, h1, h2, rfl, h4⟩ := h
    exact ⟨va, ea, cap, R, h1.kept ht hf, h2, rfl, h4⟩
  · obtain ⟨va, ea, cap, R, h1, h2, rfl, h4⟩ := h
    exact h1.lt hj
theorem RefAt.past {w w' : World} {x : Nat} {G : Nat → Prop} {L : List Pl} (h : RefAt w x G L) (ht : Turn NoBlock w w') : RefAt w' x G L := (ref_own x G L).kept _ _ _ h ht (fun _ _ h => h)
theorem RefAt.lt {w : World} {x : Nat} {G : Nat → Prop} {L : List Pl} (h : RefAt w x G L) {j : Nat} (hj : G j) : j < w.heap.size := (ref_own x G L).lt _ h j hj

section
variable {cap : Nat} {R : List Pl}
theorem ROK.nil (h : cap ≤ 65536) : ROK cap [] := ⟨h, Nat.zero_le _, by simp⟩
theorem ROK.set (ok : ROK cap R) (k : Nat) (p : Pl) (hp : p = Pl.none ∨ ∃ d : Int, p.value = valS k d) : ROK cap (R.set k p) := by
  refine ⟨ok.top, by simpa using ok.len, fun j q hq => ?_⟩
  by_cases e : k = j
  · subst e
    rw [List.getElem?_set] at hq
    simp at hq
    rw [← hq.2]; exact hp
  · rw [List.getElem?_set_ne e] at hq
    exact ok.vals j q hq
theorem ROK.push (ok : ROK cap R) (hl : R.length < cap) : ROK cap (R ++ [Pl.none]) := by
  refine ⟨ok.top, by simp; omega, fun j q hq => ?_⟩
  by_cases hj : j < R.length
  · rw [List.getElem?_append_left hj] at hq; exact ok.vals j q hq
  · rw [List.getElem?_append_right (by omega)] at hq
    left
    by_cases e : j = R.length
    · subst e; simp at hq; exact hq.symm
    · rw [List.getElem?_eq_none (by simp; omega)] at hq; simp at hq
/-- What is found by going through the values is found by its place. -/
theorem rfind_is (ok : ROK cap R) {k : Nat} {p : Pl} {v : Int} (hk : R[k]? = some p) (hp : p.value = v) (h0 : v ≠ 0) : findL (padL cap R) v = some k := by
  have hlt := (List.getElem?_eq_some_iff.1 hk).1
  have h1 := ok.len
  have h2 := ok.top
  rcases ok.vals k p hk with rfl | ⟨d, hd⟩
  · exact absurd hp.symm h0
  · rw [← hp, hd]
    refine find_is (by omega) ?_
    rw [padL_getD, List.getD_eq_getElem?_getD, hk]; exact hd
theorem rfind_no {v : Int} (h : v ≠ 0 → ∀ (k : Nat) (p : Pl), R[k]? = some p → p.value ≠ v) : findL (padL cap R) v = none := by
  cases hf : findL (padL cap R) v with
  | none => rfl
  | some k =>
    rw [findL_pad] at hf
    obtain ⟨p, h1, h2, h3, -⟩ := findL_some hf
    exact absurd h2 (h h3 k p h1)
theorem rlow_full (ok : ROK cap R) (h : cap ≤ (takenL R).length) : lowOf (padL cap R) = cap := by
  have h1 := ok.len
  have h2 : (takenL R).length ≤ R.length := List.length_filter_le _ _
  have h3 : R.length = cap := by omega
  have h4 : ∀ p ∈ R, isTaken p = true := by
    have : (R.filter isTaken).length = R.length := by unfold takenL at h h2; omega
    exact List.length_filter_eq_length_iff.1 this
  have h5 : lowOf (padL cap R) = (padL cap R).length := lowOf_not (fun j q hj h0 => by
    have hlt := (List.getElem?_eq_some_iff.1 hj).1
    rw [padL_len h1] at hlt
    rw [padL_low (by omega)] at hj
    have := h4 q (List.mem_of_getElem? hj)
    simp [isTaken, h0] at this)
  rw [h5, padL_len h1]
theorem rlow_some (ok : ROK cap R) (h : (takenL R).length < cap) : ∃ m, lowOf (padL cap R) = m ∧ m ≤ R.length ∧ m < cap ∧ (∀ (k : Nat) (p : Pl), k < m → R[k]? = some p → p.value ≠ 0) ∧ ∀ p, R[m]? = some p → p.value = 0 := by
  have h1 := ok.len
  refine ⟨_, rfl, ?_⟩
  have hex : ∃ m, m ≤ R.length ∧ m < cap ∧ (∀ (k : Nat) (p : Pl), k < m → R[k]? = some p → p.value ≠ 0) ∧ ∀ p, R[m]? = some p → p.value = 0 := by
    refine ⟨R.findIdx isFree, List.findIdx_le_length, ?_, fun k p hk hp h0 => ?_, fun p hp => ?_⟩
    · rcases Nat.lt_or_ge (R.findIdx isFree) R.length with h2 | h2
      · omega
      · have h3 : R.findIdx isFree = R.length := Nat.le_antisymm List.findIdx_le_length h2
        rw [h3]
        rw [List.findIdx_eq_length] at h3
        have h4 : takenL R = R := List.filter_eq_self.2 (fun p hp => by have := h3 p hp; simpa [isFree, isTaken] using this)
        rw [h4] at h
        exact h
    · have h2 := List.not_of_lt_findIdx hk
      have h3 : R[k]? = some (R[k]'(by have : R.findIdx isFree ≤ R.length := List.findIdx_le_length; omega)) := List.getElem?_eq_getElem _
      rw [hp] at h3
      simp at h3
      rw [← h3] at h2
      simp [isFree, h0] at h2
    · have hlt := (List.getElem?_eq_some_iff.1 hp).1
      have h2 := List.findIdx_getElem (w := hlt)
      have h3 := (List.getElem?_eq_some_iff.1 hp).2
      rw [h3] at h2
      simpa [isFree] using h2
  obtain ⟨m, g1, g2, g3, g4⟩ := hex
  have hlow : lowOf (padL cap R) = m := by
    rcases Nat.lt_or_ge m R.length with h2 | h2
    · refine lowOf_is (p := R[m]) (by rw [padL_low h2]; exact List.getElem?_eq_getElem _) (g4 _ (List.getElem?_eq_getElem _)) (fun j q hj hq => ?_)
      rw [padL_low (by omega)] at hq
      exact g3 j q hj hq
    · have h3 : m = R.length := by omega
      refine lowOf_is (p := Pl.none) (padL_high h2 g2) rfl (fun j q hj hq => ?_)
      rw [padL_low (by omega)] at hq
      exact g3 j q hj hq
  rw [hlow]
  exact ⟨g1, g2, g3, g4⟩
end
end Go.Proofs.Ytacdhlhkpdlekaa
