/-
  A place is taken out of its ring, a place is put in last, a ring is made: what that comes to. No walk, no conditions.
-/
import Derived.Test.YtabakjimlndhcaaBMem
namespace Go.Proofs.Ytabakjimlndhcaa
open Go.ChangeShapes Go.WideShapes Go.ChangeAt Go.RowKit

section
variable {w w' w1 : World} {c tm lm nT : Nat} {most : Int} {T : Int → Option Nat} {G A B : List Gw} {r : Int → Nat} {K : List Int} {g : Gw}
/-- What two stores into places come to, in whatever order. -/
theorem stored_two {q s : Nat} (hq : TBlk w q 149) (hs : TBlk w s 149) (u v : Value) :
    Stored w ((w.setCell ⟨q, 3, none⟩ u).setCell ⟨s, 2, none⟩ v) (fun k => k = q ∨ k = s) := by
  refine ⟨((Turn.refl _ w).setCell (p := ⟨q, 3, none⟩) (.inl (.inl rfl)) u).setCell (p := ⟨s, 2, none⟩) (.inl (.inr rfl)) v, fun k hk => ?_, fun k => .inl ?_, fun k => .inl ?_⟩
  · rcases hk with rfl | rfl
    · exact ⟨hq, (hq.set 3 u k).set 2 v s⟩
    · exact ⟨hs, (hs.set 3 u q).set 2 v k⟩
  · rw [World.cell?_setCell_other _ _ _ _ (by simp), World.cell?_setCell_other _ _ _ _ (by simp)]
  · rw [World.cell?_setCell_other _ _ _ _ (by simp), World.cell?_setCell_other _ _ _ _ (by simp)]
theorem stored_two' {q s : Nat} (hq : TBlk w q 149) (hs : TBlk w s 149) (u v : Value) :
    Stored w ((w.setCell ⟨s, 2, none⟩ v).setCell ⟨q, 3, none⟩ u) (fun k => k = q ∨ k = s) := by
  refine ⟨((Turn.refl _ w).setCell (p := ⟨s, 2, none⟩) (.inl (.inr rfl)) v).setCell (p := ⟨q, 3, none⟩) (.inl (.inl rfl)) u, fun k hk => ?_, fun k => .inl ?_, fun k => .inl ?_⟩
  · rcases hk with rfl | rfl
    · exact ⟨hq, (hq.set 2 v s).set 3 u k⟩
    · exact ⟨hs, (hs.set 2 v k).set 3 u q⟩
  · rw [World.cell?_setCell_other _ _ _ _ (by simp), World.cell?_setCell_other _ _ _ _ (by simp)]
  · rw [World.cell?_setCell_other _ _ _ _ (by simp), World.cell?_setCell_other _ _ _ _ (by simp)]
theorem sets_cell {a j : Nat} {e : TypeId} (h : TBlk w a e) (hc : (w.cell? ⟨a, j, none⟩).isSome = true) (u : Value) : (w.setCell ⟨a, j, none⟩ u).cell? ⟨a, j, none⟩ = some u := by
  obtain ⟨cur, hcur⟩ := h
  rw [cell_at hcur] at hc
  rw [cell_at (set_at hcur j u)]
  have hj : j < cur.size := by
    rcases Nat.lt_or_ge j cur.size with h1 | h1
    · exact h1
    · rw [Array.getElem?_eq_none h1] at hc; cases hc
  simp [hj]
theorem inL_part {g' : Gw} (m : Int) (h : g'.at m = g.at m) : inL (A ++ g' :: B) m = inL (A ++ g :: B) m := by
  rw [inL_app, inL_cons, inL_app, inL_cons, h]
/-- The first of the lines where g stands is left. -/
theorem GMem.unlink (h : GMem w c most tm lm T nT (A ++ g :: B) r K) {n : Int} {p : Nat} {rest : List (Int × Nat)} (hg : g.pl = (n, p) :: rest) :
    ∃ q s, n ∈ K ∧ w.cell? ⟨p, 0, none⟩ = some (.int .i64 n) ∧ w.cell? ⟨p, 2, none⟩ = some (ptr q) ∧ w.cell? ⟨p, 3, none⟩ = some (ptr s) ∧ TBlk w p 149 ∧ TBlk w q 149 ∧ TBlk w s 149 ∧ p ≠ q ∧ p ≠ s ∧
      (∃ u, w.cell? ⟨q, 3, none⟩ = some u) ∧ (∃ u, w.cell? ⟨s, 2, none⟩ = some u) ∧ GFoot c tm lm (A ++ g :: B) r K q ∧ GFoot c tm lm (A ++ g :: B) r K s ∧ (q = s ↔ inL (A ++ { g with pl := rest } :: B) n = []) ∧
      ∀ W, (W = (w.setCell ⟨q, 3, none⟩ (ptr s)).setCell ⟨s, 2, none⟩ (ptr q) ∨ W = (w.setCell ⟨s, 2, none⟩ (ptr q)).setCell ⟨q, 3, none⟩ (ptr s)) →
        Stored w W (fun k => k = q ∨ k = s) ∧ GMem W c most tm lm T nT (A ++ { g with pl := rest } :: B) r K := by
  have hgm : g ∈ A ++ g :: B := by simp
  have hgo := h.obj g hgm
  have hP := hgo.pls n p (by rw [hg]; exact List.mem_cons_self)
  have hnd := h.pnod g hgm
  rw [hg, List.map_cons] at hnd
  obtain ⟨hn1, hn2⟩ := List.nodup_cons.1 hnd
  have ha : g.at n = some p := by unfold Gw.at; rw [hg]; simp
  have ha' : ({ g with pl := rest } : Gw).at n = none := by unfold Gw.at; exact look_none.2 hn1
  have hao : ∀ m, m ≠ n → ({ g with pl := rest } : Gw).at m = g.at m := fun m hm => by
    unfold Gw.at
    rw [hg, List.lookup_cons]
    have : (m == n) = false := by simpa using hm
    rw [this]
  have hLo : inL (A ++ g :: B) n = inL A n ++ p :: inL B n := by rw [inL_app, inL_cons, ha]; rfl
  have hLn : inL (A ++ { g with pl := rest } :: B) n = inL A n ++ inL B n := by rw [inL_app, inL_cons, ha']; rfl
  have hK : n ∈ K := h.keys n (by rw [hLo]; simp)
  have hR := h.ring n hK
  have hRn := h.rnod hK
  rw [hLo] at hR hRn
  obtain ⟨q, s, c2, c3, hq, hs, hqs, hw⟩ := Proofs.Ytabakjimlndhcaa.unlink hR.chain hRn
  obtain ⟨hr, hN⟩ := List.nodup_cons.1 hRn
  have hqi : q = r n ∨ q ∈ inL (A ++ g :: B) n := hq.imp id (fun e => by rw [hLo]; exact List.mem_append_left _ e)
  have hsi : s = r n ∨ s ∈ inL (A ++ g :: B) n := hs.imp id (fun e => by rw [hLo]; exact List.mem_append_right _ (List.mem_cons_of_mem _ e))
  have tq := h.ptyp hK hqi
  have ts := h.ptyp hK hsi
  have hpq : p ≠ q := by
    rintro rfl
    rcases hq with e | e
    · exact hr (by rw [← e]; simp)
    · exact (List.nodup_append.1 hN).2.2 p e p List.mem_cons_self rfl
  have hps : p ≠ s := by
    rintro rfl
    rcases hs with e | e
    · exact hr (by rw [← e]; simp)
    · exact (List.nodup_cons.1 (List.nodup_append.1 hN).2.1).1 e
  have hcell : ∀ k, (k = r n ∨ k ∈ inL A n ++ p :: inL B n) → (w.cell? ⟨k, 3, none⟩).isSome = true ∧ (w.cell? ⟨k, 2, none⟩).isSome = true := by
    have hall : ∀ (l : List Nat) (a b : Nat), Chain w a l b → (∀ k, k = a ∨ k ∈ l → (w.cell? ⟨k, 3, none⟩).isSome = true) ∧ ∀ k, k ∈ l ∨ k = b → (w.cell? ⟨k, 2, none⟩).isSome = true := by
      intro l
      induction l with
      | nil =>
        intro a b hc
        have h1 : Link w a b := hc
        refine ⟨fun k hk => ?_, fun k hk => ?_⟩
        · rcases hk with rfl | hk
          · rw [h1.1]; rfl
          · cases hk
        · rcases hk with hk | rfl
          · cases hk
          · rw [h1.2]; rfl
      | cons y l ih =>
        rintro a b ⟨h1, h2⟩
        obtain ⟨i1, i2⟩ := ih y b h2
        refine ⟨fun k hk => ?_, fun k hk => ?_⟩
        · rcases hk with rfl | hk
          · rw [h1.1]; rfl
          · exact i1 k (List.mem_cons.1 hk)
        · rcases hk with hk | rfl
          · rcases List.mem_cons.1 hk with rfl | hk
            · rw [h1.2]; rfl
            · exact i2 k (.inl hk)
          · exact i2 k (.inr rfl)
    obtain ⟨i1, i2⟩ := hall _ _ _ hR.chain
    exact fun k hk => ⟨i1 k hk, i2 k (hk.symm)⟩
  have hqc := (hcell q (hq.imp id (List.mem_append_left _))).1
  have hsc := (hcell s (hs.imp id (fun e => List.mem_append_right _ (List.mem_cons_of_mem _ e)))).2
  refine ⟨q, s, hK, hP.line, c2, c3, hP.typ, tq, ts, hpq, hps, Option.isSome_iff_exists.1 hqc, Option.isSome_iff_exists.1 hsc, gfoot_in hK hqi, gfoot_in hK hsi, by rw [hLn]; exact hqs, ?_⟩
  intro W hWs
  have hS : Stored w W (fun k => k = q ∨ k = s) := by
    rcases hWs with rfl | rfl
    · exact stored_two tq ts (ptr s) (ptr q)
    · exact stored_two' tq ts (ptr s) (ptr q)
  have e1 : W.cell? ⟨q, 3, none⟩ = some (ptr s) := by
    rcases hWs with rfl | rfl
    · rw [World.cell?_setCell_other _ _ _ _ (by simp)]
      exact sets_cell tq hqc _
    · exact sets_cell (tq.set 2 _ s) (by rw [World.cell?_setCell_other _ _ _ _ (by simp)]; exact hqc) _
  have e2 : W.cell? ⟨s, 2, none⟩ = some (ptr q) := by
    rcases hWs with rfl | rfl
    · exact sets_cell (ts.set 3 _ q) (by rw [World.cell?_setCell_other _ _ _ _ (by simp)]; exact hsc) _
    · rw [World.cell?_setCell_other _ _ _ _ (by simp)]
      exact sets_cell ts hsc _
  have e3 : ∀ k, k ≠ q → W.cell? ⟨k, 3, none⟩ = w.cell? ⟨k, 3, none⟩ := fun k hk => by
    rcases hWs with rfl | rfl
    · rw [World.cell?_setCell_other _ _ _ _ (by simp), World.cell?_setCell_other _ _ _ _ (by simp)]
    · rw [World.cell?_setCell_other _ _ _ _ (by simp), World.cell?_setCell_other _ _ _ _ (by simp)]
  have e4 : ∀ k, k ≠ s → W.cell? ⟨k, 2, none⟩ = w.cell? ⟨k, 2, none⟩ := fun k hk => by
    rcases hWs with rfl | rfl
    · rw [World.cell?_setCell_other _ _ _ _ (by simp), World.cell?_setCell_other _ _ _ _ (by simp)]
    · rw [World.cell?_setCell_other _ _ _ _ (by simp), World.cell?_setCell_other _ _ _ _ (by simp)]
  refine ⟨hS, ?_⟩
  obtain ⟨s1, s2, s3⟩ := hS.head h
  have hin : ∀ y ∈ A ++ { g with pl := rest } :: B, y ∈ A ++ g :: B ∨ y = { g with pl := rest } := fun y hy => by
    rcases List.mem_append.1 hy with h1 | h1
    · exact .inl (List.mem_append_left _ h1)
    · rcases List.mem_cons.1 h1 with rfl | h1
      · exact .inr rfl
      · exact .inl (List.mem_append_right _ (List.mem_cons_of_mem _ h1))
  refine ⟨s1, s2, s3, h.tl, h.nod, fun m hm => ?_, fun y hy => ?_, fun m hm => ?_, h.rinj, by have := h.xs; simp only [List.map_append, List.map_cons] at this ⊢; exact this, by have := h.pvs; simp only [List.map_append, List.map_cons] at this ⊢; exact this, fun y hy => ?_⟩
  · by_cases hmn : m = n
    · exact hmn ▸ hK
    · rw [inL_part m (hao m hmn)] at hm
      exact h.keys m hm
  · rcases hin y hy with h1 | rfl
    · exact hS.ob (h.obj y h1)
    · have := hS.ob hgo
      exact ⟨this.xb, this.items, this.places, fun n' p' hp' => this.pls n' p' (by rw [hg]; exact List.mem_cons_of_mem _ hp')⟩
  · by_cases hmn : m = n
    · subst hmn
      rw [hLn]
      exact hS.root hR (hw W e1 e2 e3 e4)
    · rw [inL_part m (hao m hmn)]
      refine hS.rt (h.ring m hm) (fun k hk => ⟨h.lt (gfoot_in hm hk), ?_⟩)
      rintro (rfl | rfl)
      · exact h.apart hm hK hmn hk hqi rfl
      · exact h.apart hm hK hmn hk hsi rfl
  · rcases hin y hy with h1 | rfl
    · exact h.pnod y h1
    · exact hn2
/-- A ring of nobody is made. -/
theorem GMem.root (h : GMem w c most tm lm T nT G r K) {n : Int} (hn : n ∉ K) {b : Nat} (t0 : Turn NoBlock w w1) (hb : w.heap.size ≤ b) (hbl : b < w1.heap.size) (hR : RtM w1 b []) (t : Turn (fun k => k = lm) w1 w') (hm : OMap w' lm (updI (LK r K) n (some b)) (K.length + 1)) :
    GMem w' c most tm lm T nT G (fun m => if m = n then b else r m) (n :: K) := by
  have h1 := h.past t0
  have hx : ∀ k e, TBlk w1 k e → ¬ k = lm := fun k e hk he => h1.lmap.no_cells (he ▸ hk)
  have hK : ∀ m ∈ K, m ≠ n := fun m hm e => hn (e ▸ hm)
  have hrb : ∀ m ∈ K, r m ≠ b := fun m hm e => by have := h.lt (k := r m) (.inr (.inr (.inr (.inr ⟨m, hm, rfl⟩)))); omega
  have hLn : inL G n = [] := by
    cases hl : inL G n with
    | nil => rfl
    | cons p l => exact absurd (h.keys n (by rw [hl]; simp)) hn
  refine ⟨t.heap h1.head (hx _ _ h1.ct), h1.tmap.kept t h1.tl, ?_, h.tl, List.nodup_cons.2 ⟨hn, h.nod⟩, fun m hm => List.mem_cons_of_mem _ (h.keys m hm), fun g hg => (h1.obj g hg).kept t ?_, fun m hm => ?_, fun a ha b' hb' e => ?_, h.xs, h.pvs, h.pnod⟩
  · have e : LK (fun m => if m = n then b else r m) (n :: K) = updI (LK r K) n (some b) := by
      funext m
      unfold updI
      show (if m ∈ n :: K then some (if m = n then b else r m) else none) = if m = n then some b else (if m ∈ K then some (r m) else none)
      by_cases h1 : m = n
      · rw [if_pos h1, if_pos h1, if_pos (h1 ▸ List.mem_cons_self)]
      · rw [if_neg h1, if_neg h1]
        by_cases h2 : m ∈ K
        · rw [if_pos h2, if_pos (List.mem_cons_of_mem _ h2)]
        · rw [if_neg h2, if_neg (fun h3 => (List.mem_cons.1 h3).elim h1 h2)]
    rw [e]
    exact hm
  · rintro k (rfl | hk | hk | ⟨n', p, hp, rfl⟩)
    · exact hx _ _ (h1.obj g hg).xt
    · exact hx _ _ (WRow.typed (h1.obj g hg).items hk)
    · exact hx _ _ (WRow.typed (h1.obj g hg).places hk)
    · exact hx _ _ ((h1.obj g hg).pls n' k hp).typ
  · show RtM w' (if m = n then b else r m) (inL G m)
    by_cases hmn : m = n
    · rw [if_pos hmn, hmn, hLn]
      exact hR.kept t (fun k hk => by
        rcases hk with rfl | hk
        · exact ⟨hR.typ.lt, hx _ _ hR.typ⟩
        · cases hk)
    · have hmK : m ∈ K := (List.mem_cons.1 hm).resolve_left hmn
      rw [if_neg hmn]
      exact (h1.ring m hmK).kept t (fun k hk => ⟨h1.lt (gfoot_in hmK hk), hx _ _ (h1.ptyp hmK hk)⟩)
  · replace e : (if a = n then b else r a) = (if b' = n then b else r b') := e
    by_cases h2 : a = n
    · by_cases h3 : b' = n
      · rw [h2, h3]
      · rw [if_pos h2, if_neg h3] at e
        exact absurd e.symm (hrb b' ((List.mem_cons.1 hb').resolve_left h3))
    · have ha' := (List.mem_cons.1 ha).resolve_left h2
      by_cases h3 : b' = n
      · rw [if_neg h2, if_pos h3] at e
        exact absurd e (hrb a ha')
      · rw [if_neg h2, if_neg h3] at e
        exact h.rinj a ha' b' ((List.mem_cons.1 hb').resolve_left h3) e
/-- Who is last is asked: whether the last of the line is g, the last of all. -/
theorem GMem.lastIs (h : GMem w c most tm lm T nT (A ++ [g]) r K) {n : Int} (hK : n ∈ K) :
    ∃ q v, w.cell? ⟨r n, 2, none⟩ = some (ptr q) ∧ w.cell? ⟨q, 1, none⟩ = some v ∧ (v = .pointer none ∨ ∃ y, v = ptr y ∧ (y = g.x ↔ n ∈ g.pl.map Prod.fst)) ∧ (v = .pointer none → n ∉ g.pl.map Prod.fst) := by
  have hR := h.ring n hK
  have hb := hR.chain.back
  have hL : inL (A ++ [g]) n = inL A n ++ (g.at n).toList := by rw [inL_app, inL_cons]; simp [inL]
  cases hg : g.at n with
  | some p =>
    have hin : n ∈ g.pl.map Prod.fst := by
      by_cases hh : n ∈ g.pl.map Prod.fst
      · exact hh
      · have := look_none.2 hh
        unfold Gw.at at hg
        rw [this] at hg
        cases hg
    rw [hL, hg] at hb
    simp at hb
    have hP := (h.obj g (by simp)).pls n p (look_mem hg)
    exact ⟨p, _, hb, hP.who, .inr ⟨g.x, rfl, by simp [hin]⟩, fun e => absurd e.symm (ptr_ne _)⟩
  | none =>
    have hin : n ∉ g.pl.map Prod.fst := look_none.1 hg
    rw [hL, hg] at hb
    simp only [Option.toList_none, List.append_nil] at hb
    rcases List.eq_nil_or_concat (inL A n) with h1 | ⟨l', q, h1⟩
    · rw [h1] at hb
      exact ⟨r n, _, by simpa using hb, hR.who, .inl rfl, fun _ => hin⟩
    · rw [List.concat_eq_append] at h1
      have hq : q ∈ inL A n := by rw [h1]; simp
      rw [h1] at hb
      simp at hb
      obtain ⟨y, hy, hp⟩ := inL_mem hq
      have hyG : y ∈ A ++ [g] := List.mem_append_left _ hy
      have hP := (h.obj y hyG).pls n q hp
      refine ⟨q, _, hb, hP.who, .inr ⟨y.x, rfl, fun e => ?_, fun e => absurd e hin⟩, fun e => absurd e.symm (ptr_ne _)⟩
      have := nodup_x h.xs
      rw [List.pairwise_append] at this
      exact absurd e (this.2.2 y hy g (by simp))
end
end Go.Proofs.Ytabakjimlndhcaa
