/-
  Rows of cells anywhere in a block of the call's own: what append, slices and stores make of them. No walk, no conditions.
-/
import Derived.Test.YtabakjimlndhcaaPThings
import Derived.Test.YtabakjimlndhcaaPVal
import Derived.Deep.Upon
import Derived.Laws.IdiomCopy
import Derived.Lib.AppendZeros
namespace Go.Proofs.Ytabakjimlndhcaa
open Go.RowKit

/-- A block of cells of type e, whole. -/
def TBlk (w : World) (g : Nat) (e : TypeId) : Prop := ∃ cur, w.heap[g]? = some (.cells cur e (0, 0))
theorem TBlk.lt {w : World} {g : Nat} {e : TypeId} (h : TBlk w g e) : g < w.heap.size := by obtain ⟨cur, hc⟩ := h; exact lt_of_block hc
theorem TBlk.free {w : World} {g : Nat} {e : TypeId} (h : TBlk w g e) (j : Nat) : w.frozen? ⟨g, j, none⟩ = false := by obtain ⟨cur, hc⟩ := h; exact free_at hc j
theorem TBlk.kept {w w' : World} {g : Nat} {e : TypeId} {F : Nat → Prop} (h : TBlk w g e) (t : Turn F w w') (hF : ¬ F g) : TBlk w' g e := by obtain ⟨cur, hc⟩ := h; exact ⟨cur, t.heap hc hF⟩
theorem TBlk.set {w : World} {g : Nat} {e : TypeId} (h : TBlk w g e) (j : Nat) (u : Value) (k : Nat) : TBlk (w.setCell ⟨k, j, none⟩ u) g e := by
  obtain ⟨cur, hc⟩ := h
  by_cases hk : g = k
  · subst hk; exact ⟨_, set_at hc j u⟩
  · exact ⟨cur, set_past hc (p := ⟨k, j, none⟩) hk u⟩
theorem TBlk.sets {g : Nat} {e : TypeId} (k : Nat) : ∀ (vs : List Value) (o : Nat) (w : World), TBlk w g e → TBlk (w.setCells k o vs) g e
  | [], _, _, h => h
  | v :: r, o, _, h => TBlk.sets k r (o + 1) _ (h.set o v k)
theorem TBlk.unlike {w : World} {a b : Nat} {s t : TypeId} (ha : TBlk w a s) (hb : TBlk w b t) (h : s ≠ t) : a ≠ b := by
  obtain ⟨c, hc⟩ := ha
  obtain ⟨d, hd⟩ := hb
  exact Proofs.Ytabakjimlndhcaa.unlike hc hd h

theorem wturn_sets {g : Nat} {F : Nat → Prop} (hF : F g) : ∀ (vs : List Value) (o : Nat) (a w : World), Turn F a w → Turn F a (w.setCells g o vs)
  | [], _, _, _, h => h
  | v :: r, o, a, _, h => wturn_sets hF r (o + 1) a _ (h.setCell (p := ⟨g, o, none⟩) (.inl hF) v)

/-- n elements of size cells each, somewhere in a block of their own; or nil. -/
structure WRow (w : World) (e : TypeId) (size : Nat) (v : Value) (n : Nat) (xs : List Value) : Prop where
  len : xs.length = n * size
  form : (v = .slice none 0 0 ∧ n = 0) ∨ ∃ g o cap, v = .slice (some ⟨g, o, none⟩) n cap ∧ n ≤ cap ∧ cap ≤ maxLen ∧ TBlk w g e ∧ (∀ j, j < n * size → w.cell? ⟨g, o + j, none⟩ = xs[j]?) ∧ ∀ j, j < cap * size → (w.cell? ⟨g, o + j, none⟩).isSome = true

section
variable {w w' : World} {e : TypeId} {size : Nat} {v : Value} {n : Nat} {xs : List Value}
theorem wrow_nil (w : World) (e : TypeId) (size : Nat) : WRow w e size (.slice none 0 0) 0 [] := ⟨by simp, .inl ⟨rfl, rfl⟩⟩
theorem WRow.sl (h : WRow w e size v n xs) : ∃ p cap, v = .slice p n cap := by
  rcases h.form with ⟨rfl, rfl⟩ | ⟨g, o, cap, rfl, _⟩
  · exact ⟨none, 0, rfl⟩
  · exact ⟨_, cap, rfl⟩
theorem WRow.shape (h : WRow w e size v n xs) (hn : 0 < n) : ∃ g o cap, v = .slice (some ⟨g, o, none⟩) n cap ∧ n ≤ cap ∧ cap ≤ maxLen ∧ TBlk w g e ∧ (∀ j, j < n * size → w.cell? ⟨g, o + j, none⟩ = xs[j]?) ∧ ∀ j, j < cap * size → (w.cell? ⟨g, o + j, none⟩).isSome = true := by
  rcases h.form with ⟨_, h0⟩ | h1
  · omega
  · exact h1
theorem WRow.lt (h : WRow w e size v n xs) {k : Nat} (hk : Blk v k) : k < w.heap.size := by
  rcases h.form with ⟨rfl, _⟩ | ⟨g, o, cap, rfl, _, _, ht, _⟩
  · exact (blk_nil k hk).elim
  · simp [Blk, Value.ownBlock] at hk; subst hk; exact ht.lt
theorem WRow.typed (h : WRow w e size v n xs) {k : Nat} (hk : Blk v k) : TBlk w k e := by
  rcases h.form with ⟨rfl, _⟩ | ⟨g, o, cap, rfl, _, _, ht, _⟩
  · exact (blk_nil k hk).elim
  · simp [Blk, Value.ownBlock] at hk; subst hk; exact ht
theorem WRow.kept {F : Nat → Prop} (h : WRow w e size v n xs) (t : Turn F w w') (hF : ∀ k, Blk v k → ¬ F k) : WRow w' e size v n xs := by
  refine ⟨h.len, ?_⟩
  rcases h.form with h1 | ⟨g, o, cap, rfl, h1, h2, h3, h4, h5⟩
  · exact .inl h1
  · have hg : ¬ F g := hF g (by simp [Blk, Value.ownBlock])
    have hb := t.block g h3.lt hg
    have hc : ∀ j, w'.cell? ⟨g, j, none⟩ = w.cell? ⟨g, j, none⟩ := fun j => World.cell?_of_block (a := ⟨g, j, none⟩) hb
    exact .inr ⟨g, o, cap, rfl, h1, h2, h3.kept t hg, fun j hj => (hc _).trans (h4 j hj), fun j hj => by rw [hc]; exact h5 j hj⟩
theorem WRow.past (h : WRow w e size v n xs) (t : Turn NoBlock w w') : WRow w' e size v n xs := h.kept t (fun _ _ h => h)
theorem WRow.drew (h : WRow w e size v n xs) : WRow w.drew e size v n xs := h.past (Turn.refl _ w).drew
theorem WRow.of_own (h : w.ownsRow 0 e size v n xs) : WRow w e size v n xs := by
  refine ⟨h.1, ?_⟩
  rcases h.2 with h1 | ⟨g, cap, cur, rfl, hb, hg, hnc, hcm, hcs, ht⟩
  · exact .inl h1
  · refine .inr ⟨g, 0, cap, rfl, hnc, hcm, ⟨cur, hg⟩, fun j hj => ?_, fun j hj => ?_⟩
    · rw [Nat.zero_add, cell_at hg, ← ht, List.getElem?_take, if_pos hj]; simp
    · rw [Nat.zero_add, cell_at hg, Array.getElem?_eq_getElem (by rw [hcs]; exact hj)]; rfl

/-- What it holds, as a source of an append. -/
theorem WRow.src (h : WRow w e size v n xs) (tx : TypeId) (hk : Try.prog.underlying tx = some (.slice e)) (h1 : ∀ u ∈ xs, u.oneCell' = true) : Src Try.prog size tx v n xs w := by
  rcases h.form with ⟨rfl, rfl⟩ | ⟨g, o, cap, rfl, hnc, hcm, ht, hc, hs⟩
  · have : xs = [] := List.eq_nil_of_length_eq_zero (by rw [h.len]; simp)
    subst this
    exact Src.ofNil w hk 0
  · refine Src.ofSlice w hk ⟨g, o, none⟩ n cap xs h.len (fun j u hu => ?_) h1
    have hj := (List.getElem?_eq_some_iff.1 hu).1
    rw [h.len] at hj
    rw [Addr.add_lit, hc j hj, hu]

/-- One more append. -/
theorem WRow.append (h : WRow w e size v n xs) (t tx : TypeId) (i : TypeInfo) (z : Value) (bytes : Nat) (ht : Try.prog.underlying t = some (.slice e)) (hi : Try.prog.info? e = some i) (hz : i.zero = some z) (hsize : i.size = size) (hby : i.bytes = bytes) (hzs : z.cells.size = size)
    {x : Value} {m : Nat} {news : List Value} (hs : Src Try.prog size tx x m news w) (h63 : n + m ≤ maxLen) (hbytes : (n + m) * bytes ≤ 140737488355328) :
    ∃ v' W, (∀ ty, (Builtin.append_ #[t, tx] ty #[v, x]).run Try.prog w = .ok v' W) ∧ WRow W e size v' (n + m) (xs ++ news) ∧ Turn (Blk v) w W ∧ (∀ k, Blk v' k → Blk v k ∨ (k = w.heap.size ∧ k < W.heap.size)) := by
  subst hsize
  subst hby
  have hl : (xs ++ news).length = (n + m) * i.size := by rw [List.length_append, h.len, hs.newsLen, Nat.add_mul]
  have h63' : ((n + m : Nat) : Int) ≤ 9223372036854775807 := by simp only [maxLen] at h63; omega
  have grow : ∀ (p : Option Addr) (cap : Nat), v = .slice p n cap → cap < n + m → (Builtin.firstCells i.size n (.slice p n cap)).run Try.prog w.drew = .ok xs.toArray w.drew →
      ∃ v' W, (∀ ty, (Builtin.append_ #[t, tx] ty #[v, x]).run Try.prog w = .ok v' W) ∧ WRow W e i.size v' (n + m) (xs ++ news) ∧ Turn (Blk v) w W ∧ (∀ k, Blk v' k → Blk v k ∨ (k = w.heap.size ∧ k < W.heap.size)) := by
    rintro p cap rfl hc hold
    have hrun := fun ty => run_append_grow_src (P := Try.prog) w t tx ty e i z ht hi hz p n cap xs hold x m news hs hc h63' (growslice_fits hc hbytes)
    have hge := grownCap_ge w (n + m) cap e
    have hle := grownCap_le_maxLen w (n + m) cap e h63
    refine ⟨_, _, hrun, ⟨hl, .inr ⟨w.heap.size, 0, _, rfl, hge, hle, ⟨_, heap_alloc_new w.drew _⟩, fun j hj => ?_, fun j hj => ?_⟩⟩, (Turn.refl _ w).drew.alloc _, fun k hk => .inr ?_⟩
    · have e1 : (w.drew.alloc (.cells ((xs ++ news).toArray ++ Builtin.zeroCells z.cells (grownCap w (n + m) cap e - (n + m))) e)).cell? ⟨w.heap.size, 0 + j, none⟩ = _ := World.cell?_alloc_new w.drew _ _ (0 + j)
      rw [e1, Nat.zero_add, Array.getElem?_append_left (by simp only [List.size_toArray]; rw [hl]; exact hj), List.getElem?_toArray]
    · have e1 : (w.drew.alloc (.cells ((xs ++ news).toArray ++ Builtin.zeroCells z.cells (grownCap w (n + m) cap e - (n + m))) e)).cell? ⟨w.heap.size, 0 + j, none⟩ = _ := World.cell?_alloc_new w.drew _ _ (0 + j)
      rw [e1, Nat.zero_add]
      have hsz : ((xs ++ news).toArray ++ Builtin.zeroCells z.cells (grownCap w (n + m) cap e - (n + m))).size = grownCap w (n + m) cap e * i.size := by
        rw [Array.size_append, List.size_toArray, hl, size_zeroCells, hzs, ← Nat.add_mul]
        rw [show n + m + (grownCap w (n + m) cap e - (n + m)) = grownCap w (n + m) cap e by omega]
      rw [Array.getElem?_eq_getElem (by rw [hsz]; exact hj)]
      rfl
    · simp [Blk, Value.ownBlock] at hk
      subst hk
      exact ⟨rfl, by simp⟩
  rcases h.form with ⟨rfl, rfl⟩ | ⟨g, o, cap, rfl, hnc, hcm, hb, hc, hso⟩
  · have hx : xs = [] := List.eq_nil_of_length_eq_zero (by rw [h.len]; simp)
    subst hx
    rcases Nat.eq_zero_or_pos m with h0 | h0
    · subst h0
      have hn : news = [] := List.eq_nil_of_length_eq_zero (by rw [hs.newsLen]; simp)
      subst hn
      exact ⟨_, _, fun ty => run_append_nothing (P := Try.prog) w t tx ty e i ht hi none 0 0 (Nat.le_refl _) x hs, wrow_nil _ _ _, Turn.refl _ _, fun k hk => .inl hk⟩
    · exact grow none 0 rfl (by omega) (run_firstCells_none w.drew i.size 0 0 0)
  · by_cases hr : n + m ≤ cap
    · have hmul : (n + m) * i.size ≤ cap * i.size := Nat.mul_le_mul_right _ hr
      rw [Nat.add_mul] at hmul
      have hnl := hs.newsLen
      have hsome : ∀ j, j < news.length → (w.cell? ⟨g, o + n * i.size + j, none⟩).isSome = true := fun j hj => by
        rw [Nat.add_assoc]
        exact hso _ (by omega)
      have hrun := fun ty => run_append_room_src (P := Try.prog) w t tx ty e i ht hi g o n cap x m news hs hr hsome (fun j _ => hb.free _)
      have hmn : (n + m) * i.size = n * i.size + m * i.size := Nat.add_mul _ _ _
      refine ⟨_, _, hrun, ⟨hl, .inr ⟨g, o, cap, rfl, hr, hcm, TBlk.sets g news _ _ hb, fun j hj => ?_, fun j hj => ?_⟩⟩, wturn_sets (F := Blk _) (by simp [Blk, Value.ownBlock]) _ _ _ _ (Turn.refl _ _), fun k hk => .inl (by simpa [Blk, Value.ownBlock] using hk)⟩
      · by_cases hjo : j < n * i.size
        · rw [World.cell?_setCells_out g _ _ _ _ (fun _ _ => Or.inl (by show o + j < o + n * i.size; omega)), List.getElem?_append_left (by rw [h.len]; exact hjo)]
          exact hc j hjo
        · have := World.cell?_setCells_in g news (o + n * i.size) w hsome (j - n * i.size) (by omega)
          rw [show o + n * i.size + (j - n * i.size) = o + j by omega] at this
          rw [this, List.getElem?_append_right (by rw [h.len]; omega), h.len, List.getElem?_eq_getElem (by omega)]
      · by_cases hin : n * i.size ≤ j ∧ j < n * i.size + news.length
        · have := World.cell?_setCells_in g news (o + n * i.size) w hsome (j - n * i.size) (by omega)
          rw [show o + n * i.size + (j - n * i.size) = o + j by omega] at this
          rw [this]; rfl
        · rw [World.cell?_setCells_out g _ _ _ _ (fun _ _ => by show o + j < o + n * i.size ∨ o + n * i.size + news.length ≤ o + j; omega)]
          exact hso j hj
    · refine grow (Option.some ⟨g, o, none⟩) cap rfl (by omega) ?_
      refine run_firstCells_some (P := Try.prog) w.drew i.size n ⟨g, o, none⟩ n cap xs h.len (fun j u hu => ?_)
      have hj := (List.getElem?_eq_some_iff.1 hu).1
      rw [h.len] at hj
      rw [Addr.add_lit]
      exact (hc j hj).trans hu
end
end Go.Proofs.Ytabakjimlndhcaa
