/-
  Rows of pieces in blocks of the call's own: what copies, clears and slices make of them. No walk, no conditions.
-/
import Derived.Test.YtdddmjdlikjedaaGNum
import Derived.Test.YtdddmjdlikjedaaGPc
import Derived.Laws.IdiomCopy
import Derived.Lib.AppendZerosOnto
import Derived.Lib.Overlaps
import Derived.Deep.AppendLies
namespace Go.Proofs.Ytdddmjdlikjedaa
open Go.ChangeShapes Go.WideShapes Go.ChangeAt Go.RowKit

theorem pieces_s : Try.prog.underlying 65 = some (.slice 61) := by kernel_rfl
theorem infoP : (Try.prog.info? 61).map (fun i => (i.zero, i.size, i.bytes)) = some (some Pc.zero.agg, 5, 40) := by kernel_rfl
theorem sizeP : ∀ w, (Go.sizeOf 61).run Try.prog w = .ok 5 w := fun w => by kernel_rfl
theorem elemP : Try.prog.elem 65 = 61 := by kernel_rfl

/-- Some cells of a list are others. -/
def gputAt (l : List Value) (o : Nat) (vs : List Value) : List Value := l.take o ++ (vs ++ l.drop (o + vs.length))
theorem gputAt_len {l : List Value} {o : Nat} {vs : List Value} (h : o + vs.length ≤ l.length) : (gputAt l o vs).length = l.length := by simp [gputAt]; omega
theorem gput_take {l : List Value} {o t : Nat} {vs : List Value} (h : o ≤ l.length) (ht : o + vs.length = t) : (gputAt l o vs).take t = l.take o ++ vs := by
  unfold gputAt
  subst ht
  rw [← List.append_assoc, List.take_append_of_le_length (by rw [List.length_append, List.length_take]; omega), List.take_of_length_le (by rw [List.length_append, List.length_take]; omega)]
theorem put_take_low {l : List Value} {o t : Nat} {vs : List Value} (h : o ≤ l.length) (ht : t ≤ o) : (gputAt l o vs).take t = l.take t := by
  unfold gputAt
  rw [List.take_append_of_le_length (by rw [List.length_take]; omega), List.take_take, Nat.min_eq_left ht]
theorem put_drop {l : List Value} {o : Nat} {vs : List Value} (h : o ≤ l.length) : (gputAt l o vs).drop o = vs ++ l.drop (o + vs.length) := by
  unfold gputAt
  have h1 : (l.take o).length = o := by rw [List.length_take]; omega
  rw [List.drop_append_of_le_length (by omega), List.drop_of_length_le (by omega), List.nil_append]
theorem put_take_high {l : List Value} {o t : Nat} {vs : List Value} (h : o ≤ l.length) (ht : o + vs.length ≤ t) : (gputAt l o vs).take t = l.take o ++ (vs ++ (l.drop (o + vs.length)).take (t - (o + vs.length))) := by
  unfold gputAt
  have h1 : (l.take o).length = o := by rw [List.length_take]; omega
  have e1 : (l.take o).take t = l.take o := List.take_of_length_le (by omega)
  have e2 : vs.take (t - o) = vs := List.take_of_length_le (by omega)
  rw [List.take_append, h1, e1, List.take_append, e2, show t - o - vs.length = t - (o + vs.length) by omega]
theorem gown_putAt {g n c e size : Nat} : ∀ (vs : List Value) (o : Nat) (w : World) (xs : List Value), w.ownsRow 0 e size (.slice (some ⟨g, 0, none⟩) n c) n xs → o + vs.length ≤ xs.length → (w.setCells g o vs).ownsRow 0 e size (.slice (some ⟨g, 0, none⟩) n c) n (gputAt xs o vs)
  | [], o, w, xs, h, _ => by
    have e : gputAt xs o [] = xs := by simp [gputAt]
    rw [e]
    exact h
  | v :: r, o, w, xs, h, hl => by
    simp only [List.length_cons] at hl
    have h1 := (h.stored o v).1
    have h2 := gown_putAt r (o + 1) _ _ h1 (by simp; omega)
    have e : gputAt (xs.set o v) (o + 1) r = gputAt xs o (v :: r) := by
      unfold gputAt
      rw [List.take_add_one, List.take_set_of_le (by omega), List.getElem?_set_self (by omega), List.drop_set_of_lt (by omega)]
      simp [show o + 1 + r.length = o + (r.length + 1) by omega]
    rw [e] at h2
    exact h2
theorem gturn_setCells {g : Nat} {F : Nat → Prop} (hF : F g) : ∀ (vs : List Value) (o : Nat) (a w : World), Turn F a w → Turn F a (w.setCells g o vs)
  | [], _, _, _, h => h
  | v :: r, o, a, _, h => gturn_setCells hF r (o + 1) a _ (h.setCell (p := ⟨g, o, none⟩) (.inl hF) v)

/-- All the cells of a block, whatever they are. -/
def GFull (g c : Nat) (zs : List Value) (w : World) : Prop := w.ownsRow 0 61 5 (.slice (some ⟨g, 0, none⟩) c c) c zs
theorem GFull.len {w : World} {g c : Nat} {zs : List Value} (h : GFull g c zs w) : zs.length = c * 5 := h.1
theorem GFull.of {w : World} {g n c : Nat} {l : List Pc} (h : PRow (.slice (some ⟨g, 0, none⟩) n c) l w) (hn : l.length = n) : n ≤ c ∧ c ≤ maxLen ∧ ∃ zs, zs.take (n * 5) = pcs l ∧ GFull g c zs w := by
  unfold PRow at h
  rw [hn] at h
  rcases h.2 with ⟨h1, _⟩ | ⟨g', c', cur, h1, hb, hg, hnc, hcm, hcs, ht⟩
  · cases h1
  · simp only [Value.slice.injEq, Option.some.injEq, Addr.mk.injEq, true_and, and_true] at h1
    obtain ⟨rfl, rfl⟩ := h1
    refine ⟨hnc, hcm, cur.toList, ht, by rw [Array.length_toList, hcs], .inr ⟨g, c, cur, rfl, hb, hg, Nat.le_refl _, hcm, hcs, ?_⟩⟩
    rw [List.take_of_length_le (by rw [Array.length_toList, hcs]; exact Nat.le_refl _)]
theorem GFull.prow {w : World} {g n c : Nat} {l : List Pc} {zs : List Value} (h : GFull g c zs w) (hn : l.length = n) (hc : n ≤ c) (hz : zs.take (n * 5) = pcs l) : PRow (.slice (some ⟨g, 0, none⟩) n c) l w := by
  unfold PRow
  rw [hn, ← hz]
  exact own_head h hc
theorem GFull.put {w : World} {g c o : Nat} {zs vs : List Value} (h : GFull g c zs w) (ho : o + vs.length ≤ c * 5) : GFull g c (gputAt zs o vs) (w.setCells g o vs) ∧ Turn (fun k => k = g) w (w.setCells g o vs) :=
  ⟨gown_putAt vs o w zs h (by rw [h.len]; exact ho), gturn_setCells (F := fun k => k = g) rfl _ _ _ _ (Turn.refl _ _)⟩
theorem GFull.cell {w : World} {g c : Nat} {zs : List Value} (h : GFull g c zs w) (j : Nat) (hj : j < c * 5) : w.cell? ⟨g, j, none⟩ = zs[j]? := h.cellAt j hj
theorem GFull.free {w : World} {g c : Nat} {zs : List Value} (h : GFull g c zs w) (j : Nat) : w.frozen? ⟨g, j, none⟩ = false := h.frozenAt j
theorem GFull.there {w : World} {g c : Nat} {zs : List Value} (h : GFull g c zs w) (j : Nat) (hj : j < c * 5) : (w.cell? ⟨g, j, none⟩).isSome = true := by
  rw [h.cell j hj, List.getElem?_eq_getElem (by rw [h.len]; exact hj)]; rfl

theorem GFull.drew {w : World} {g c : Nat} {zs : List Value} (h : GFull g c zs w) : GFull g c zs w.drew := h
theorem GFull.past {w w' : World} {g c : Nat} {zs : List Value} {F : Nat → Prop} (h : GFull g c zs w) (t : Turn F w w') (hF : ¬ F g) : GFull g c zs w' := t.own h (fun k hk => by simp [Value.ownBlock] at hk; subst hk; exact hF)

/-- What a slice's cells hold, wherever they lie. -/
def Cls (w : World) (D : Option Addr) (m : Nat) (vs : List Value) : Prop := vs.length = m * 5 ∧ (∀ v ∈ vs, v.oneCell' = true) ∧ (0 < m → ∃ a, D = some a ∧ ∀ j v, vs[j]? = some v → w.cell? (a.add j) = some v)
theorem Cls.past {w w' : World} {D : Option Addr} {m : Nat} {vs : List Value} {F : Nat → Prop} (h : Cls w D m vs) (t : Turn F w w') (hF : ∀ a, D = some a → ¬ F a.block) (hD : ∀ a, D = some a → a.spot = none) : Cls w' D m vs := by
  refine ⟨h.1, h.2.1, fun h0 => ?_⟩
  obtain ⟨a, rfl, hc⟩ := h.2.2 h0
  refine ⟨a, rfl, fun j v hv => t.cell (hc j v hv) ?_⟩
  have := hF a rfl
  obtain ⟨b, o, s⟩ := a
  have hs := hD _ rfl
  simp at hs
  subst hs
  unfold Addr.add
  split
  · exact this
  · exact this

/-- copy(d, s) of pieces into a block of the call's own: all is read ahead. -/
theorem copy5m {w : World} {g c o k dLen dCap sLen sCap : Nat} {zs vs : List Value} {D S : Option Addr} (h : GFull g c zs w) (hk : Nat.min sLen dLen = k) (hD : 0 < k → D = some ⟨g, o * 5, none⟩) (ho : o + k ≤ c) (hS : Cls w S k vs) :
    ∃ W, (∀ ty, (Builtin.copy_ #[65, 65] ty #[.slice D dLen dCap, .slice S sLen sCap]).run Try.prog w = .ok (goInt k) W) ∧ GFull g c (gputAt zs (o * 5) vs) W ∧ Turn (fun k => k = g) w W := by
  obtain ⟨i, hi, hz0, hz1, hz2⟩ := info_parts infoP
  obtain ⟨p1, p2⟩ := h.put (o := o * 5) (vs := vs) (by rw [hS.1]; omega)
  refine ⟨w.setCells g (o * 5) vs, fun ty => ?_, p1, p2⟩
  rcases Nat.eq_zero_or_pos k with h0 | h0
  · subst h0
    have hv : vs = [] := List.eq_nil_of_length_eq_zero (by rw [hS.1])
    subst hv
    have hl : ∀ (x : Addr), (loadCells x 0).run Try.prog w = .ok #[] w := fun x => by simpa using run_loadCells_list (P := Try.prog) w x [] (by simp)
    cases D <;> cases S <;> simp [Builtin.copy_, run_underlying pieces_s, Builtin.lenOf, Builtin.firstCells, sizeOf, typeInfo, hi, storeCells, hl, World.setCells, hk]
  · obtain ⟨a, rfl, hc⟩ := hS.2.2 h0
    rw [hD h0]
    have hl1 := run_loadCells_list (P := Try.prog) w a vs hc
    have hst := run_storeCells_cells (P := Try.prog) g (o * 5) vs 0 w (fun j hj => by rw [hS.1] at hj; exact h.there _ (by omega)) (fun j hj => h.free _) hS.2.1
    rw [hS.1] at hl1
    simp [Builtin.copy_, run_underlying pieces_s, Builtin.lenOf, Builtin.firstCells, sizeOf, typeInfo, hi, hz1, hk, hl1, hst]
theorem copy5 {w : World} {g c o dLen dCap sLen sCap : Nat} {zs vs : List Value} {D S : Option Addr} (h : GFull g c zs w) (hD : 0 < sLen → D = some ⟨g, o * 5, none⟩) (hl : sLen ≤ dLen) (ho : o + sLen ≤ c) (hS : Cls w S sLen vs) :
    ∃ W, (∀ ty, (Builtin.copy_ #[65, 65] ty #[.slice D dLen dCap, .slice S sLen sCap]).run Try.prog w = .ok (goInt sLen) W) ∧ GFull g c (gputAt zs (o * 5) vs) W ∧ Turn (fun k => k = g) w W :=
  copy5m h (Nat.min_eq_left hl) hD ho hS

/-- The slices of a row of the call's own. -/
theorem slice_lo (g n c l : Nat) (hl : l ≤ n) (hc : n ≤ c) : ∃ D : Option Addr, (∀ w, Sem.run Try.prog (Instr.slice 65 (.slice (some ⟨g, 0, none⟩) n c) (some (.int .i64 (l : Int))) none none) w = .ok (.slice D (n - l) (c - l)) w) ∧ (l < c → D = some ⟨g, l * 5, none⟩) ∧ ∀ a, D = some a → a.block = g ∧ a.spot = none := by
  have ht : Try.prog.underlying 65 = some (.slice (Try.prog.elem 65)) := by kernel_rfl
  refine ⟨if c = l then some ⟨g, 0, none⟩ else some ⟨g, l * 5, none⟩, fun w => ?_, fun h0 => by rw [if_neg (by omega)], fun a ha => ?_⟩
  · have := run_slice_l (P := Try.prog) w 65 (some ⟨g, 0, none⟩) n c ht .i64 (l : Int) (by omega) (by omega)
    rw [elemP, sizeP w] at this
    simp only [Result.andThen, Int.toNat_natCast] at this
    rw [this]
    by_cases h0 : c = l
    · subst h0
      have hn : n = c := by omega
      subst hn
      simp [sliced]
    · simp [sliced, h0, Addr.add]
      try omega
  · split at ha <;> (cases ha; exact ⟨rfl, rfl⟩)
theorem slice_hi (g n c h : Nat) (hc : h ≤ c) : ∀ w, Sem.run Try.prog (Instr.slice 65 (.slice (some ⟨g, 0, none⟩) n c) none (some (.int .i64 (h : Int))) none) w = .ok (.slice (some ⟨g, 0, none⟩) h c) w := by
  have ht : Try.prog.underlying 65 = some (.slice (Try.prog.elem 65)) := by kernel_rfl
  intro w
  have := run_slice_h (P := Try.prog) w 65 (some ⟨g, 0, none⟩) n c ht .i64 (h : Int) (by omega) (by omega)
  rw [elemP, sizeP w] at this
  simp only [Result.andThen, Int.toNat_natCast] at this
  rw [this]
  by_cases h0 : c = 0
  · subst h0; simp [sliced]
  · simp [sliced, h0, Addr.add]
    try omega
theorem slice_lh (g n c l h : Nat) (hl : l ≤ h) (hc : h ≤ c) : ∃ D : Option Addr, (∀ w, Sem.run Try.prog (Instr.slice 65 (.slice (some ⟨g, 0, none⟩) n c) (some (.int .i64 (l : Int))) (some (.int .i64 (h : Int))) none) w = .ok (.slice D (h - l) (c - l)) w) := by
  have ht : Try.prog.underlying 65 = some (.slice (Try.prog.elem 65)) := by kernel_rfl
  refine ⟨if c = l then some ⟨g, 0, none⟩ else some ⟨g, l * 5, none⟩, fun w => ?_⟩
  have := run_slice_lh (P := Try.prog) w 65 (some ⟨g, 0, none⟩) n c ht .i64 .i64 (l : Int) (h : Int) (by omega) (by omega) (by omega)
  rw [elemP, sizeP w] at this
  simp only [Result.andThen, Int.toNat_natCast] at this
  rw [this]
  by_cases h0 : c = l
  · subst h0
    simp [sliced]
  · simp [sliced, h0, Addr.add]
    try omega
/-- A row that has grown into a block of its own, zeros behind. -/
theorem full_new (w : World) (xs ys : List Value) (c : Nat) (A : Array Value) (hA : A.toList = xs ++ ys) (hl : xs.length + ys.length = c * 5) (hc : c ≤ maxLen) : GFull w.heap.size c (xs ++ ys) (w.alloc (.cells A 61)) := by
  refine ⟨by rw [List.length_append]; exact hl, .inr ⟨w.heap.size, c, A, rfl, Nat.zero_le _, heap_alloc_new w _, Nat.le_refl _, hc, ?_, ?_⟩⟩
  · rw [← Array.length_toList, hA, List.length_append]; exact hl
  · rw [hA, List.take_of_length_le (by rw [List.length_append]; omega)]
theorem zeroCells_len (k : Nat) : (Builtin.zeroCells Pc.zero.agg.cells k).toList.length = k * 5 := by
  simp [Builtin.zeroCells, Value.cells, Pc.agg]
/-- 'append(s[:i], make([]Piece, k)...)' where there is no room: a new block. -/
theorem append_make {w : World} {g n c : Nat} {l : List Pc} (h : PRow (.slice (some ⟨g, 0, none⟩) n c) l w) (hn : l.length = n) (i k : Nat) (hi : i ≤ n) (h0 : 0 < k) (hg : c < i + k) (hb : i + k ≤ 2097152) :
    ∃ c' zs W, (∀ ty, (Builtin.append_ #[65, 3] ty #[.slice (some ⟨g, 0, none⟩) i c, .int .i64 (k : Int)]).run Try.prog w = .ok (.slice (some ⟨w.heap.size, 0, none⟩) (i + k) c') W) ∧ i + k ≤ c' ∧ c' ≤ maxLen ∧ GFull w.heap.size c' zs W ∧ zs.take (i * 5) = pcs (l.take i) ∧ Turn NoBlock w W := by
  obtain ⟨iv, hiv, hz0, hz1, hz2⟩ := info_parts infoP
  have hold : (Builtin.firstCells iv.size i (.slice (some ⟨g, 0, none⟩) i c)).run Try.prog w.drew = .ok (pcs (l.take i)).toArray w.drew := by
    rw [hz1]
    refine run_firstCells_some (P := Try.prog) w.drew 5 i ⟨g, 0, none⟩ i c (pcs (l.take i)) (by rw [pcs_len, List.length_take]; omega) (fun j v hv => ?_)
    have hlt := (List.getElem?_eq_some_iff.1 hv).1
    rw [pcs_len, List.length_take] at hlt
    rw [← pcs_take, List.getElem?_take, if_pos (by omega)] at hv
    unfold PRow at h
    rw [hn] at h
    rw [Addr.add_lit, Nat.zero_add]
    exact (h.cellAt j (by omega)).trans hv
  have hfit : Builtin.nextslicecap (i + k) c * iv.bytes ≤ 281474976710656 := by
    rw [hz2]
    have := nextslicecap_le (need := i + k) (old := c) hg
    omega
  have hr := fun ty => Lib.run_append_grow_zeros (P := Try.prog) w 65 3 ty 61 iv Pc.zero.agg .i64 .i64 pieces_s (by kernel_rfl) hiv hz0 (some ⟨g, 0, none⟩) i c (pcs (l.take i)) hold k h0 (by rw [hz1]; decide) hg (by omega) (by rw [hz2]; omega) hfit
  have hge := grownCap_ge w (i + k) c 61
  have hle := grownCap_le_maxLen w (i + k) c 61 (by unfold maxLen; omega)
  refine ⟨_, pcs (l.take i) ++ ((Builtin.zeroCells Pc.zero.agg.cells k).toList ++ (Builtin.zeroCells Pc.zero.agg.cells (grownCap w (i + k) c 61 - (i + k))).toList), _, hr, hge, hle, full_new w.drew _ _ _ _ ?_ ?_ hle, ?_, (Turn.refl NoBlock w).drew.alloc _⟩
  · simp
  · rw [pcs_len, List.length_append, zeroCells_len, zeroCells_len, List.length_take, Nat.min_eq_left (by omega)]
    omega
  · rw [List.take_append_of_le_length (by rw [pcs_len, List.length_take]; omega), List.take_of_length_le (by rw [pcs_len, List.length_take]; omega)]
end Go.Proofs.Ytdddmjdlikjedaa
