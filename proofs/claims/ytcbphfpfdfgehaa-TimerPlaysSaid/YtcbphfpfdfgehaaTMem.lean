/-
  Timers in memory: a heap of entries in a row of its own, and a map of its places. No walk, no conditions.
-/
import Derived.Test.YtcbphfpfdfgehaaTOrd
import Derived.Test.YtcbphfpfdfgehaaKBase
namespace Go.Proofs.Ytcbphfpfdfgehaa
open Go.ChangeShapes Go.WideShapes Go.ChangeAt Go.RowKit

def En.cells (e : En) : List Value := [.int .i64 e.k, .int .i64 e.d]
def En.agg (e : En) : Value := .agg #[.int .i64 e.k, .int .i64 e.d]
def ecells (l : List En) : List Value := l.flatMap En.cells
theorem ecells_app (l m : List En) : ecells (l ++ m) = ecells l ++ ecells m := by simp [ecells]
theorem ecells_cons (q : En) (l : List En) : ecells (q :: l) = q.cells ++ ecells l := rfl
theorem ecells_len (l : List En) : (ecells l).length = l.length * 2 := by
  induction l with
  | nil => rfl
  | cons p l ih => rw [ecells_cons, List.length_append, ih, List.length_cons]; show 2 + _ = _; omega
theorem ecells_at (l : List En) (i : Nat) (q : En) (hq : l[i]? = some q) (j : Nat) (hj : j < 2) : (ecells l)[i * 2 + j]? = q.cells[j]? := by
  induction l generalizing i with
  | nil => simp at hq
  | cons p l ih =>
    have ht : p.cells.length = 2 := rfl
    cases i with
    | zero =>
      simp only [List.getElem?_cons_zero, Option.some.injEq] at hq
      subst hq
      rw [ecells_cons, Nat.zero_mul, Nat.zero_add, List.getElem?_append_left (by rw [ht]; exact hj)]
    | succ i =>
      simp only [List.getElem?_cons_succ] at hq
      rw [← ih i hq]
      rw [ecells_cons, List.getElem?_append_right (by rw [ht]; omega), ht, show (i + 1) * 2 + j - 2 = i * 2 + j by omega]
theorem ecells_one (l : List En) : ∀ u ∈ ecells l, u.oneCell' = true := by
  intro u hu
  obtain ⟨b, _, hb⟩ := List.mem_flatMap.1 hu
  simp [En.cells] at hb
  rcases hb with rfl | rfl <;> rfl
theorem ecells_set (l : List En) (i : Nat) (hi : i < l.length) (e : En) : ((ecells l).set (i * 2) (.int .i64 e.k)).set (i * 2 + 1) (.int .i64 e.d) = ecells (l.set i e) := by
  apply List.ext_getElem?
  intro t
  by_cases ht : t < l.length * 2
  · have hs : (l.set i e)[t / 2]? = some (if t / 2 = i then e else l[t / 2]) := by
      rw [List.getElem?_set]
      by_cases h : i = t / 2
      · subst h; simp [hi]
      · rw [if_neg h, if_neg (fun e => h e.symm), List.getElem?_eq_getElem (by omega)]
    have h1 := ecells_at (l.set i e) (t / 2) _ hs (t % 2) (by omega)
    rw [show t / 2 * 2 + t % 2 = t by omega] at h1
    have h2 := ecells_at l (t / 2) _ (List.getElem?_eq_getElem (show t / 2 < l.length by omega)) (t % 2) (by omega)
    rw [show t / 2 * 2 + t % 2 = t by omega] at h2
    rw [h1]
    rw [List.getElem?_set, List.getElem?_set, List.length_set, ecells_len]
    have h3 : t % 2 = 0 ∨ t % 2 = 1 := by omega
    by_cases h : t / 2 = i
    · rw [if_pos h]
      rcases h3 with h3 | h3
      · rw [if_neg (by omega), if_pos (by omega), if_pos (by omega), h3]; rfl
      · rw [if_pos (by omega), if_pos (by omega), h3]; rfl
    · rw [if_neg h, if_neg (by omega), if_neg (by omega), h2]
  · rw [List.getElem?_eq_none (by rw [List.length_set, List.length_set, ecells_len]; omega), List.getElem?_eq_none (by rw [ecells_len, List.length_set]; omega)]
theorem ecells_take (l : List En) (k : Nat) : (ecells l).take (k * 2) = ecells (l.take k) := by
  induction l generalizing k with
  | nil => simp [ecells]
  | cons p l ih =>
    have ht : p.cells.length = 2 := rfl
    cases k with
    | zero => simp [ecells]
    | succ k => rw [ecells_cons, List.take_succ_cons, ecells_cons, List.take_append, ht, show (k + 1) * 2 - 2 = k * 2 by omega, ih, List.take_of_length_le (by rw [ht]; omega)]

theorem entriesT : Try.prog.underlying 114 = some (.slice 118) := by kernel_rfl
theorem infoE : (Try.prog.info? 118).map (fun i => (i.zero, i.size, i.bytes)) = some (some (.agg #[.int .i64 0, .int .i64 0]), 2, 16) := by kernel_rfl

/-- A row of entries. -/
def ERow (v : Value) (H : List En) (w : World) : Prop := WRow w 118 2 v H.length (ecells H)
theorem ERow.kept {w w' : World} {F : Nat → Prop} {v : Value} {H : List En} (h : ERow v H w) (t : Turn F w w') (hF : ∀ k, Blk v k → ¬ F k) : ERow v H w' := WRow.kept h t hF
theorem ERow.past {w w' : World} {v : Value} {H : List En} (h : ERow v H w) (t : Turn NoBlock w w') : ERow v H w' := h.kept t (fun _ _ h => h)
theorem ERow.two {w : World} {g o n c : Nat} {H : List En} (h : ERow (.slice (some ⟨g, o, none⟩) n c) H w) {j : Nat} (hj : j < H.length) :
    w.cell? ⟨g, o + j * 2, none⟩ = some (.int .i64 (eAt H j).k) ∧ w.cell? ⟨g, o + j * 2 + 1, none⟩ = some (.int .i64 (eAt H j).d) := by
  obtain ⟨g', o', c', he, -, -, -, hc, -⟩ := WRow.shape h (by omega)
  simp only [Value.slice.injEq, Option.some.injEq, Addr.mk.injEq, and_true] at he
  obtain ⟨⟨rfl, rfl⟩, -, rfl⟩ := he
  have ht := eAt_some hj
  refine ⟨?_, ?_⟩
  · rw [hc (j * 2) (by omega)]
    exact ecells_at H j _ ht 0 (by omega)
  · rw [Nat.add_assoc, hc (j * 2 + 1) (by omega)]
    exact ecells_at H j _ ht 1 (by omega)
theorem WRow.setc {w : World} {e size g o n c : Nat} {xs : List Value} (h : WRow w e size (.slice (some ⟨g, o, none⟩) n c) n xs) {j : Nat} (hj : j < n * size) (u : Value) :
    WRow (w.setCell ⟨g, o + j, none⟩ u) e size (.slice (some ⟨g, o, none⟩) n c) n (xs.set j u) := by
  refine ⟨by rw [List.length_set]; exact h.len, ?_⟩
  rcases h.form with ⟨h1, _⟩ | ⟨g', o', c', he, hnc, hcm, ht, hc, hs⟩
  · cases h1
  simp only [Value.slice.injEq, Option.some.injEq, Addr.mk.injEq, and_true, true_and] at he
  obtain ⟨⟨rfl, rfl⟩, rfl⟩ := he
  have hl := h.len
  have hsame : ∀ k, (w.setCell ⟨g, o + j, none⟩ u).cell? ⟨g, o + k, none⟩ = if k = j then (w.cell? ⟨g, o + j, none⟩).map (fun _ => u) else w.cell? ⟨g, o + k, none⟩ := by
    intro k
    by_cases hk : k = j
    · subst hk
      rw [if_pos rfl]
      obtain ⟨cur, hcur⟩ := ht
      rw [cell_at (set_at hcur (o + k) u), cell_at hcur]
      by_cases hb : o + k < cur.size
      · simp [hb]
      · simp [hb]
    · rw [if_neg hk]
      exact World.cell?_setCell_other _ _ _ _ (fun e => hk (by (try simp at e) <;> omega))
  refine .inr ⟨g, o, c, rfl, hnc, hcm, ht.set _ u g, fun k hk => ?_, fun k hk => ?_⟩
  · rw [hsame, List.getElem?_set]
    by_cases h1 : k = j
    · subst h1
      rw [if_pos rfl, if_pos rfl, if_pos (by rw [hl]; exact hk), hc k hk, List.getElem?_eq_getElem (by rw [hl]; exact hk)]
      rfl
    · rw [if_neg h1, if_neg (fun e => h1 e.symm)]
      exact hc k hk
  · rw [hsame]
    by_cases h1 : k = j
    · subst h1
      rw [if_pos rfl, Option.isSome_map]
      exact hs k hk
    · rw [if_neg h1]
      exact hs k hk
theorem ERow.set {w : World} {g o n c : Nat} {H : List En} (h : ERow (.slice (some ⟨g, o, none⟩) n c) H w) {i : Nat} (hi : i < H.length) (e : En) :
    ERow (.slice (some ⟨g, o, none⟩) n c) (H.set i e) ((w.setCell ⟨g, o + i * 2, none⟩ (.int .i64 e.k)).setCell ⟨g, o + i * 2 + 1, none⟩ (.int .i64 e.d)) := by
  unfold ERow at h ⊢
  obtain ⟨p, cc, he⟩ := h.sl
  simp only [Value.slice.injEq] at he
  obtain ⟨rfl, rfl, rfl⟩ := he
  rw [List.length_set, ← ecells_set H i hi e]
  have h1 := h.setc (j := i * 2) (by omega) (.int .i64 e.k)
  have h2 := h1.setc (j := i * 2 + 1) (by omega) (.int .i64 e.d)
  rw [← Nat.add_assoc] at h2
  exact h2
theorem ERow.set1 {w : World} {g o n c : Nat} {H : List En} (h : ERow (.slice (some ⟨g, o, none⟩) n c) H w) {i : Nat} (hi : i < H.length) (d : Int) :
    ERow (.slice (some ⟨g, o, none⟩) n c) (reD H i d) (w.setCell ⟨g, o + i * 2 + 1, none⟩ (.int .i64 d)) := by
  unfold ERow at h ⊢
  obtain ⟨p, cc, he⟩ := h.sl
  simp only [Value.slice.injEq] at he
  obtain ⟨rfl, rfl, rfl⟩ := he
  unfold reD
  have hx := ecells_set H i hi ⟨(eAt H i).k, d⟩
  have hself : (ecells H).set (i * 2) (.int .i64 (eAt H i).k) = ecells H := by
    apply List.ext_getElem?
    intro t
    rw [List.getElem?_set]
    by_cases ht : i * 2 = t
    · subst ht
      rw [if_pos rfl, if_pos (by rw [ecells_len]; omega)]
      exact (ecells_at H i _ (eAt_some hi) 0 (by omega)).symm
    · rw [if_neg ht]
  simp only at hx
  rw [hself] at hx
  rw [List.length_set, ← hx]
  have h2 := h.setc (j := i * 2 + 1) (by omega) (.int .i64 d)
  rw [← Nat.add_assoc] at h2
  exact h2
/-- The head of a row. -/
theorem ERow.head {w : World} {p : Option Addr} {n c m : Nat} {H : List En} (h : ERow (.slice p n c) H w) (hm : m ≤ H.length) : ERow (.slice p m c) (H.take m) w := by
  unfold ERow at h ⊢
  obtain ⟨p', cc, he⟩ := h.sl
  simp only [Value.slice.injEq] at he
  obtain ⟨rfl, rfl, rfl⟩ := he
  have hl : (H.take m).length = m := by rw [List.length_take]; omega
  rw [hl, ← ecells_take]
  refine ⟨by rw [List.length_take, ecells_len]; omega, ?_⟩
  rcases h.form with ⟨h1, h2⟩ | ⟨g', o', c', he, hnc, hcm, ht, hc, hs⟩
  · simp only [Value.slice.injEq] at h1
    obtain ⟨rfl, -, rfl⟩ := h1
    have : m = 0 := by omega
    subst this
    exact .inl ⟨rfl, rfl⟩
  · simp only [Value.slice.injEq, true_and] at he
    obtain ⟨rfl, rfl⟩ := he
    refine .inr ⟨g', o', c, rfl, by omega, hcm, ht, fun j hj => ?_, hs⟩
    rw [List.getElem?_take, if_pos hj]
    exact hc j (by omega)

theorem PMap.past {w w' : World} {b s : Nat} {L : Int → Option Int} {G : Nat → Prop} (h : PMap w b L s) (t : Turn G w w') (hG : ¬ G b) : PMap w' b L s := IMap.past h t hG
theorem PMap.drew {w : World} {b s : Nat} {L : Int → Option Int} (h : PMap w b L s) : PMap w.drew b L s := h.past (Turn.refl NoBlock w).drew (fun h => h)
/-- Timers: the block c, the row v, the map at b. -/
structure TM (w : World) (c : Nat) (most now : Int) (v : Value) (b : Nat) (H : List En) (P : Int → Option Int) : Prop where
  c0 : w.cell? ⟨c, 0, none⟩ = some (.int .i64 most)
  c1 : w.cell? ⟨c, 1, none⟩ = some (.int .i64 now)
  c2 : w.cell? ⟨c, 2, none⟩ = some v
  c3 : w.cell? ⟨c, 3, none⟩ = some (.map (some b))
  typ : TBlk w c 116
  row : ERow v H w
  map : PMap w b P H.length
  pos : PosOK H P
  fits : ∀ e ∈ H, fitE e
  len : H.length ≤ 65536
def TFoot (c : Nat) (v : Value) (b : Nat) (k : Nat) : Prop := k = c ∨ k = b ∨ Blk v k
section
variable {w w' : World} {c b : Nat} {most now : Int} {v : Value} {H : List En} {P : Int → Option Int}
theorem TM.cb (h : TM w c most now v b H P) : c ≠ b := by
  obtain ⟨cur, hc⟩ := h.typ
  obtain ⟨es, clock, hb⟩ := h.map.isMap
  intro e
  subst e
  rw [hc] at hb
  cases hb
theorem TM.vc (h : TM w c most now v b H P) {k : Nat} (hk : Blk v k) : k ≠ c ∧ k ≠ b := by
  have ht := WRow.typed h.row hk
  refine ⟨ht.unlike h.typ (by decide), fun e => ?_⟩
  obtain ⟨cur, hc⟩ := ht
  obtain ⟨es, clock, hb⟩ := h.map.isMap
  subst e
  rw [hc] at hb
  cases hb
theorem TM.lt (h : TM w c most now v b H P) {k : Nat} (hk : TFoot c v b k) : k < w.heap.size := by
  rcases hk with rfl | rfl | hk
  · exact h.typ.lt
  · exact h.map.lt
  · exact WRow.lt h.row hk
theorem TM.kept (h : TM w c most now v b H P) {F : Nat → Prop} (t : Turn F w w') (hF : ∀ k, TFoot c v b k → ¬ F k) : TM w' c most now v b H P := by
  have hc := hF c (.inl rfl)
  exact ⟨t.cell h.c0 hc, t.cell h.c1 hc, t.cell h.c2 hc, t.cell h.c3 hc, h.typ.kept t hc, h.row.kept t (fun k hk => hF k (.inr (.inr hk))), PMap.past h.map t (hF b (.inr (.inl rfl))), h.pos, h.fits, h.len⟩
theorem TM.past (h : TM w c most now v b H P) (t : Turn NoBlock w w') : TM w' c most now v b H P := h.kept t (fun _ _ h => h)
/-- The row's entries are others. -/
theorem TM.row' (h : TM w c most now v b H P) {H' : List En} (t : Turn (Blk v) w w') (hr : ERow v H' w') (hl : H'.length = H.length) (hp : PosOK H' P) (hf : ∀ e ∈ H', fitE e) : TM w' c most now v b H' P := by
  have hc : ¬ Blk v c := fun hk => (h.vc hk).1 rfl
  have hb : ¬ Blk v b := fun hk => (h.vc hk).2 rfl
  exact ⟨t.cell h.c0 hc, t.cell h.c1 hc, t.cell h.c2 hc, t.cell h.c3 hc, h.typ.kept t hc, hr, by rw [hl]; exact PMap.past h.map t hb, hp, hf, by rw [hl]; exact h.len⟩
end
end Go.Proofs.Ytcbphfpfdfgehaa
