/-
  One more place in a line, one more in a row of places, one more who waits: what that comes to. No walk, no conditions.
-/
import Derived.Test.YtabakjimlndhcaaBStep
namespace Go.Proofs.Ytabakjimlndhcaa
open Go.ChangeShapes Go.WideShapes Go.ChangeAt Go.RowKit

theorem look_snoc {l : List (Int × Nat)} {n : Int} {p : Nat} (hn : n ∉ l.map Prod.fst) (m : Int) : (l ++ [(n, p)]).lookup m = if m = n then some p else l.lookup m := by
  induction l with
  | nil =>
    rw [List.nil_append, List.lookup_cons]
    by_cases h : m = n
    · simp [h]
    · have : (m == n) = false := by simpa using h
      rw [this, if_neg h]
  | cons y l ih =>
    obtain ⟨a, b⟩ := y
    simp only [List.map_cons, List.mem_cons, not_or] at hn
    rw [List.cons_append, List.lookup_cons, List.lookup_cons]
    by_cases h : m = a
    · subst h
      rw [if_neg (fun e => hn.1 e.symm)]
      simp
    · have : (m == a) = false := by simpa using h
      rw [this]
      exact ih hn.2
section
variable {w w' w1 : World} {c tm lm nT : Nat} {most : Int} {T : Int → Option Nat} {G A B : List Gw} {r : Int → Nat} {K : List Int} {g : Gw}
theorem GMem.linkin (h : GMem w c most tm lm T nT (A ++ [g]) r K) {n : Int} (hK : n ∈ K) (hn : n ∉ g.pl.map Prod.fst) :
    ∃ q, w.cell? ⟨r n, 2, none⟩ = some (ptr q) ∧ TBlk w q 149 ∧ TBlk w (r n) 149 ∧ (∃ u, w.cell? ⟨q, 3, none⟩ = some u) ∧ GFoot c tm lm (A ++ [g]) r K q ∧ GFoot c tm lm (A ++ [g]) r K (r n) ∧
      ∀ w1 W, w1 = w.alloc (.cells #[.int .i64 n, ptr g.x, ptr q, ptr (r n)] 149) → (W = (w1.setCell ⟨q, 3, none⟩ (ptr w.heap.size)).setCell ⟨r n, 2, none⟩ (ptr w.heap.size) ∨ W = (w1.setCell ⟨r n, 2, none⟩ (ptr w.heap.size)).setCell ⟨q, 3, none⟩ (ptr w.heap.size)) →
        Turn (fun k => k = q ∨ k = r n) w W ∧ GMem W c most tm lm T nT (A ++ [{ g with pl := g.pl ++ [(n, w.heap.size)] }]) r K := by
  have hR := h.ring n hK
  have hLo : inL (A ++ [g]) n = inL A n := by
    rw [inL_app, inL_cons]
    have : g.at n = none := by unfold Gw.at; exact look_none.2 hn
    rw [this]
    simp [inL]
  have hRn := h.rnod hK
  obtain ⟨p, hp⟩ : ∃ p, w.heap.size = p := ⟨_, rfl⟩
  have hpl : ∀ k, k = r n ∨ k ∈ inL (A ++ [g]) n → k ≠ p := fun k hk e => by have := h.lt (gfoot_in (c := c) (tm := tm) (lm := lm) hK hk); omega
  obtain ⟨q, c2, hq, -, hw⟩ := Proofs.Ytabakjimlndhcaa.linkin hR.chain hRn (p := p) ⟨fun e => hpl _ (.inl rfl) e.symm, fun e => hpl _ (.inr e) rfl⟩
  have tq := h.ptyp hK hq
  have ts := h.ptyp hK (k := r n) (.inl rfl)
  refine ⟨q, c2, tq, ts, ?_, gfoot_in hK hq, gfoot_in hK (.inl rfl), ?_⟩
  · rcases hq with rfl | hq
    · exact ⟨_, hR.chain.front⟩
    · obtain ⟨l1, l2, he⟩ := List.append_of_mem hq
      have := hR.chain
      rw [he] at this
      exact ⟨_, ((chain_app _ _ _ _ _).1 this).2.front⟩
  rw [hp]
  intro w1 W hw1 hWs
  have t1 : Turn NoBlock w w1 := by rw [hw1]; exact (Turn.refl _ w).alloc _
  have h1 := h.past t1
  have hpb : w1.heap[p]? = some (.cells #[.int .i64 n, ptr g.x, ptr q, ptr (r n)] 149 (0, 0)) := by rw [hw1, ← hp]; exact heap_alloc_new w _
  have tq1 := tq.kept t1 (fun h => h)
  have ts1 := ts.kept t1 (fun h => h)
  have hS : Stored w1 W (fun k => k = q ∨ k = r n) := by
    rcases hWs with rfl | rfl
    · exact stored_two tq1 ts1 (ptr p) (ptr p)
    · exact stored_two' tq1 ts1 (ptr p) (ptr p)
  have hqp : p ≠ q := fun e => hpl q hq e.symm
  have hrp : p ≠ r n := fun e => hpl (r n) (.inl rfl) e.symm
  have hall : ∀ (l : List Nat) (a b : Nat), Chain w1 a l b → ∀ k, k = a ∨ k ∈ l → (w1.cell? ⟨k, 3, none⟩).isSome = true := by
    intro l
    induction l with
    | nil =>
      intro a b hc k hk
      have h1 : Link w1 a b := hc
      rcases hk with rfl | hk
      · rw [h1.1]; rfl
      · cases hk
    | cons y l ih =>
      rintro a b ⟨h1, h2⟩ k hk
      rcases hk with rfl | hk
      · rw [h1.1]; rfl
      · exact ih y b h2 k (List.mem_cons.1 hk)
  have hqc := hall _ _ _ (h1.ring n hK).chain q hq
  have hsc : (w1.cell? ⟨r n, 2, none⟩).isSome = true := by rw [(h1.ring n hK).chain.back]; rfl
  have e1 : W.cell? ⟨q, 3, none⟩ = some (ptr p) := by
    rcases hWs with rfl | rfl
    · rw [World.cell?_setCell_other _ _ _ _ (by simp)]
      exact sets_cell tq1 hqc _
    · exact sets_cell (tq1.set 2 _ _) (by rw [World.cell?_setCell_other _ _ _ _ (by simp)]; exact hqc) _
  have e2 : W.cell? ⟨r n, 2, none⟩ = some (ptr p) := by
    rcases hWs with rfl | rfl
    · exact sets_cell (ts1.set 3 _ q) (by rw [World.cell?_setCell_other _ _ _ _ (by simp)]; exact hsc) _
    · rw [World.cell?_setCell_other _ _ _ _ (by simp)]
      exact sets_cell ts1 hsc _
  have e3 : ∀ k, k ≠ q → W.cell? ⟨k, 3, none⟩ = w1.cell? ⟨k, 3, none⟩ := fun k hk => by
    rcases hWs with rfl | rfl
    · rw [World.cell?_setCell_other _ _ _ _ (by simp), World.cell?_setCell_other _ _ _ _ (by simp)]
    · rw [World.cell?_setCell_other _ _ _ _ (by simp), World.cell?_setCell_other _ _ _ _ (by simp)]
  have e4 : ∀ k, k ≠ r n → W.cell? ⟨k, 2, none⟩ = w1.cell? ⟨k, 2, none⟩ := fun k hk => by
    rcases hWs with rfl | rfl
    · rw [World.cell?_setCell_other _ _ _ _ (by simp), World.cell?_setCell_other _ _ _ _ (by simp)]
    · rw [World.cell?_setCell_other _ _ _ _ (by simp), World.cell?_setCell_other _ _ _ _ (by simp)]
  have hold : ∀ k j, k < p → w1.cell? ⟨k, j, none⟩ = w.cell? ⟨k, j, none⟩ := fun k j hk => World.cell?_of_block (t1.block k (by omega) (fun h => h))
  have e5 : W.cell? ⟨p, 2, none⟩ = some (ptr q) := by rw [e4 p hrp]; simpa using cell_at hpb 2
  have e6 : W.cell? ⟨p, 3, none⟩ = some (ptr (r n)) := by rw [e3 p hqp]; simpa using cell_at hpb 3
  have hP : PlM W p n g.x := hS.pl ⟨⟨_, hpb⟩, by simpa using cell_at hpb 0, by simpa using cell_at hpb 1⟩
  have hch : Chain W (r n) (inL (A ++ [g]) n ++ [p]) (r n) := (Proofs.Ytabakjimlndhcaa.linkin (h1.ring n hK).chain hRn (p := p) ⟨hrp, fun e => hpl _ (.inr e) rfl⟩).elim fun q' hq' => by
    obtain ⟨d2, -, -, hw'⟩ := hq'
    have c2' := (hold (r n) 2 (by have := ts.lt; omega)).trans c2
    rw [d2] at c2'
    have : q' = q := ptr_inj (by simpa using c2')
    subst this
    exact hw' W e1 e2 e5 e6 (fun k hk _ => e3 k hk) (fun k hk _ => e4 k hk)
  obtain ⟨s1, s2, s3⟩ := hS.head h1
  have hLn : inL (A ++ [{ g with pl := g.pl ++ [(n, p)] }]) n = inL (A ++ [g]) n ++ [p] := by
    rw [hLo, inL_app, inL_cons]
    have : ({ g with pl := g.pl ++ [(n, p)] } : Gw).at n = some p := by unfold Gw.at; rw [look_snoc hn]; simp
    rw [this]
    simp [inL]
  have hLm : ∀ m, m ≠ n → inL (A ++ [{ g with pl := g.pl ++ [(n, p)] }]) m = inL (A ++ [g]) m := fun m hm => by
    rw [inL_app, inL_cons, inL_app, inL_cons]
    have : ({ g with pl := g.pl ++ [(n, p)] } : Gw).at m = g.at m := by unfold Gw.at; rw [look_snoc hn, if_neg hm]
    rw [this]
  have hgo := h1.obj g (by simp)
  refine ⟨(hS.turn.trans (G := NoBlock) (Turn.refl _ _) (fun _ h => h.elim) |> fun t => (TU t1).trans t (fun k hk => .inl hk)), s1, s2, s3, h.tl, h.nod, fun m hm => ?_, fun y hy => ?_, fun m hm => ?_, h.rinj, by have := h.xs; simp only [List.map_append, List.map_cons] at this ⊢; exact this, by have := h.pvs; simp only [List.map_append, List.map_cons] at this ⊢; exact this, fun y hy => ?_⟩
  · by_cases hmn : m = n
    · exact hmn ▸ hK
    · rw [hLm m hmn] at hm
      exact h.keys m hm
  · rcases List.mem_append.1 hy with h2 | h2
    · exact hS.ob (h1.obj y (List.mem_append_left _ h2))
    · rw [List.mem_singleton] at h2
      subst h2
      have := hS.ob hgo
      refine ⟨this.xb, this.items, this.places, fun n' p' hp' => ?_⟩
      rcases List.mem_append.1 hp' with h3 | h3
      · exact this.pls n' p' h3
      · rw [List.mem_singleton] at h3
        cases h3
        exact hP
  · by_cases hmn : m = n
    · subst hmn
      rw [hLn]
      exact hS.root (h1.ring m hm) hch
    · rw [hLm m hmn]
      refine hS.rt (h1.ring m hm) (fun k hk => ⟨h1.lt (gfoot_in hm hk), ?_⟩)
      rintro (rfl | rfl)
      · exact h.apart hm hK hmn hk hq rfl
      · exact h.apart hm hK hmn hk (.inl rfl) rfl
  · rcases List.mem_append.1 hy with h2 | h2
    · exact h.pnod y (List.mem_append_left _ h2)
    · rw [List.mem_singleton] at h2
      subst h2
      show ((g.pl ++ [(n, p)]).map Prod.fst).Nodup
      rw [List.map_append, List.nodup_append]
      refine ⟨h.pnod g (by simp), by simp, fun a ha b hb => ?_⟩
      simp at hb
      subst hb
      exact fun e => hn (e ▸ ha)
/-- The row of places is another. -/
theorem GMem.placed (h : GMem w c most tm lm T nT (A ++ [g]) r K) {v : Value} {l : List Nat} {W : World} (t0 : Turn (Blk g.pv) w W) (hr : PRow v l W) (hb : ∀ k, Blk v k → Blk g.pv k ∨ w.heap.size ≤ k) :
    GMem (W.setCell ⟨g.x, 3, none⟩ v) c most tm lm T nT (A ++ [{ g with pv := v, pr := l }]) r K ∧ Turn (fun k => k = g.x ∨ Blk g.pv k) w (W.setCell ⟨g.x, 3, none⟩ v) := by
  have hgo := h.obj g (by simp)
  have hx : ∀ k e, TBlk w k e → e ≠ 145 → ¬ Blk g.pv k := fun k e hk he hk2 => blk_typed hgo.places hk he hk2
  have tt : Turn (fun k => k = g.x ∨ Blk g.pv k) w (W.setCell ⟨g.x, 3, none⟩ v) := (t0.mono (fun k hk => .inl (.inr hk))).setCell (p := ⟨g.x, 3, none⟩) (.inl (.inl rfl)) v
  have hF : ∀ k e, TBlk w k e → e ≠ 145 → k ≠ g.x → ¬ (k = g.x ∨ Blk g.pv k) := fun k e hk he hne hh => hh.elim hne (hx k e hk he)
  have hxg : ∀ k e, TBlk w k e → e ≠ 106 → k ≠ g.x := fun k e hk he => hk.unlike hgo.xt he
  have hmap : ∀ {b s : Nat} {L : Int → Option Nat}, OMap w b L s → ¬ (b = g.x ∨ Blk g.pv b) := fun hm hh => by
    rcases hh with rfl | hh
    · exact hm.no_cells hgo.xt
    · exact hm.no_cells (WRow.typed hgo.places hh)
  have hLs : ∀ m, inL (A ++ [{ g with pv := v, pr := l }]) m = inL (A ++ [g]) m := fun m => by rw [inL_app, inL_cons, inL_app, inL_cons]; rfl
  have hv1 := List.pairwise_append.1 (by have := h.pvs; rw [List.map_append] at this; exact this)
  have hx1 := List.pairwise_append.1 (by have := h.xs; unfold List.Nodup at this; rw [List.map_append] at this; exact this)
  have hxB : W.heap[g.x]? = some (.cells #[.int .i64 g.a.t, .int .i64 g.a.d, g.iv, g.pv] 106 (0, 0)) := t0.heap hgo.xb (hx _ _ hgo.xt (by decide))
  refine ⟨⟨tt.heap h.head (hF _ _ h.ct (by decide) (hxg _ _ h.ct (by decide))), h.tmap.kept tt (hmap h.tmap), h.lmap.kept tt (hmap h.lmap), h.tl, h.nod, fun n hn => h.keys n (by rw [← hLs]; exact hn), fun y hy => ?_, fun n hn => ?_, h.rinj, ?_, ?_, fun y hy => ?_⟩, tt⟩
  · rcases List.mem_append.1 hy with h2 | h2
    · have hyo := h.obj y (List.mem_append_left _ h2)
      have hyx : y.x ≠ g.x := hx1.2.2 y.x (List.mem_map.2 ⟨y, h2, rfl⟩) g.x (by simp)
      refine hyo.kept tt ?_
      rintro k (rfl | hk | hk | ⟨n, p, hp, rfl⟩)
      · exact hF _ _ hyo.xt (by decide) hyx
      · exact hF _ _ (WRow.typed hyo.items hk) (by decide) (hxg _ _ (WRow.typed hyo.items hk) (by decide))
      · rintro (e | e)
        · exact hxg _ _ (WRow.typed hyo.places hk) (by decide) e
        · exact hv1.2.2 y.pv (List.mem_map.2 ⟨y, h2, rfl⟩) g.pv (by simp) k hk e
      · exact hF _ _ (hyo.pls n k hp).typ (by decide) (hxg _ _ (hyo.pls n k hp).typ (by decide))
    · rw [List.mem_singleton] at h2
      subst h2
      refine ⟨set_at hxB 3 v, ?_, ?_, fun n p hp => (hgo.pls n p hp).kept tt (hF _ _ (hgo.pls n p hp).typ (by decide) (hxg _ _ (hgo.pls n p hp).typ (by decide)))⟩
      · exact IRow.kept hgo.items tt (fun k hk => hF _ _ (WRow.typed hgo.items hk) (by decide) (hxg _ _ (WRow.typed hgo.items hk) (by decide)))
      · exact PRow.kept hr ((Turn.refl (fun k => k = g.x) W).setCell (p := ⟨g.x, 3, none⟩) (.inl rfl) v) (fun k hk e => ((WRow.typed hr hk).unlike (⟨_, hxB⟩ : TBlk W g.x 106) (by decide)) e)
  · show RtM (W.setCell ⟨g.x, 3, none⟩ v) (r n) (inL (A ++ [{ g with pv := v, pr := l }]) n)
    rw [hLs]
    exact (h.ring n hn).kept tt (fun k hk => ⟨h.lt (gfoot_in hn hk), hF _ _ (h.ptyp hn hk) (by decide) (hxg _ _ (h.ptyp hn hk) (by decide))⟩)
  · have := h.xs; simp only [List.map_append, List.map_cons] at this ⊢; exact this
  · rw [List.map_append]
    refine List.pairwise_append.2 ⟨hv1.1, by simp, fun u hu u' hu' k hk hk' => ?_⟩
    simp at hu'
    subst hu'
    obtain ⟨y, hy, rfl⟩ := List.mem_map.1 hu
    rcases hb k hk' with h3 | h3
    · exact hv1.2.2 y.pv hu g.pv (by simp) k hk h3
    · have := WRow.lt (h.obj y (List.mem_append_left _ hy)).places hk
      omega
  · rcases List.mem_append.1 hy with h2 | h2
    · exact h.pnod y (List.mem_append_left _ h2)
    · rw [List.mem_singleton] at h2
      subst h2
      exact h.pnod g (by simp)
/-- One more waits, and stands in no line yet. -/
theorem GMem.more (h : GMem w c most tm lm T nT G r K) {W : World} (t0 : Turn NoBlock w W) {a : Wt} {x : Nat} {iv : Value} (hx : w.heap.size ≤ x) (hxb : W.heap[x]? = some (.cells #[.int .i64 a.t, .int .i64 a.d, iv, .slice none 0 0] 106 (0, 0))) (hi : IRow iv a.its W) :
    GMem W c most tm lm T nT (G ++ [⟨x, a, iv, .slice none 0 0, [], []⟩]) r K := by
  have h1 := h.past t0
  have hL : ∀ n, inL (G ++ [⟨x, a, iv, .slice none 0 0, [], []⟩]) n = inL G n := fun n => by
    rw [inL_app, inL_cons]
    have : (⟨x, a, iv, .slice none 0 0, [], []⟩ : Gw).at n = none := rfl
    rw [this]
    simp [inL]
  refine ⟨h1.head, h1.tmap, h1.lmap, h.tl, h.nod, fun n hn => h.keys n (by rw [← hL]; exact hn), fun y hy => ?_, fun n hn => by rw [hL]; exact h1.ring n hn, h.rinj, ?_, ?_, fun y hy => ?_⟩
  · rcases List.mem_append.1 hy with h2 | h2
    · exact h1.obj y h2
    · rw [List.mem_singleton] at h2
      subst h2
      exact ⟨hxb, hi, wrow_nil _ _ _, fun n p hp => by cases hp⟩
  · rw [List.map_append]
    refine List.nodup_append.2 ⟨h.xs, by simp, fun u hu u' hu' e => ?_⟩
    simp at hu'
    obtain ⟨y, hy, rfl⟩ := List.mem_map.1 hu
    have := (h.obj y hy).xt.lt
    omega
  · rw [List.map_append]
    refine List.pairwise_append.2 ⟨h.pvs, by simp, fun u hu u' hu' k hk hk' => ?_⟩
    simp at hu'
    subst hu'
    exact blk_nil k hk'
  · rcases List.mem_append.1 hy with h2 | h2
    · exact h.pnod y h2
    · rw [List.mem_singleton] at h2
      subst h2
      exact List.nodup_nil
end
end Go.Proofs.Ytabakjimlndhcaa
