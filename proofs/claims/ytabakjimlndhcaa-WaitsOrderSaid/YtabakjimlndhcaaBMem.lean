/-
  Waits in memory: a map of who waits, a map of rings, in each ring the places of who stands there. No walk, no conditions.
-/
import Derived.Test.YtabakjimlndhcaaBRing
namespace Go.Proofs.Ytabakjimlndhcaa
open Go.ChangeShapes Go.WideShapes Go.ChangeAt Go.RowKit

/-- A wait, and where it lies: its block, the rows of its items and places, what the row of places holds, and where it stands. -/
structure Gw where
  x : Nat
  a : Wt
  iv : Value
  pv : Value
  pr : List Nat
  pl : List (Int × Nat)
def Gw.at (g : Gw) (n : Int) : Option Nat := g.pl.lookup n
/-- Who stands in line n. -/
def inL (G : List Gw) (n : Int) : List Nat := G.filterMap (fun g => g.at n)
theorem look_mem {l : List (Int × Nat)} {n : Int} {p : Nat} (h : l.lookup n = some p) : (n, p) ∈ l := by
  induction l with
  | nil => cases h
  | cons y l ih =>
    obtain ⟨m, q⟩ := y
    rw [List.lookup_cons] at h
    by_cases hm : n = m
    · subst hm
      simp at h
      subst h
      exact List.mem_cons_self
    · have : (n == m) = false := by simpa using hm
      rw [this] at h
      exact List.mem_cons_of_mem _ (ih h)
theorem look_none {l : List (Int × Nat)} {n : Int} : l.lookup n = none ↔ n ∉ l.map Prod.fst := by
  induction l with
  | nil => simp
  | cons y l ih =>
    obtain ⟨m, q⟩ := y
    rw [List.lookup_cons]
    by_cases hm : n = m
    · subst hm; simp
    · have : (n == m) = false := by simpa using hm
      rw [this]
      simp only [List.map_cons, List.mem_cons, not_or]
      exact ih.trans ⟨fun h => ⟨hm, h⟩, fun h => h.2⟩
theorem inL_mem {G : List Gw} {n : Int} {p : Nat} (h : p ∈ inL G n) : ∃ g ∈ G, (n, p) ∈ g.pl := by
  obtain ⟨g, hg, hp⟩ := List.mem_filterMap.1 h
  exact ⟨g, hg, look_mem hp⟩
theorem inL_app (A B : List Gw) (n : Int) : inL (A ++ B) n = inL A n ++ inL B n := by simp [inL]
theorem inL_cons (g : Gw) (B : List Gw) (n : Int) : inL (g :: B) n = (g.at n).toList ++ inL B n := by
  unfold inL
  rw [List.filterMap_cons]
  cases g.at n <;> rfl

structure PlM (w : World) (p : Nat) (n : Int) (x : Nat) : Prop where
  typ : TBlk w p 149
  line : w.cell? ⟨p, 0, none⟩ = some (.int .i64 n)
  who : w.cell? ⟨p, 1, none⟩ = some (ptr x)
structure ObM (w : World) (g : Gw) : Prop where
  xb : w.heap[g.x]? = some (.cells #[.int .i64 g.a.t, .int .i64 g.a.d, g.iv, g.pv] 106 (0, 0))
  items : IRow g.iv g.a.its w
  places : PRow g.pv g.pr w
  pls : ∀ n p, (n, p) ∈ g.pl → PlM w p n g.x
structure RtM (w : World) (r : Nat) (l : List Nat) : Prop where
  typ : TBlk w r 149
  who : w.cell? ⟨r, 1, none⟩ = some (.pointer none)
  chain : Chain w r l r
def LK (r : Int → Nat) (K : List Int) (n : Int) : Option Nat := if n ∈ K then some (r n) else none
structure GMem (w : World) (c : Nat) (most : Int) (tm lm : Nat) (T : Int → Option Nat) (nT : Nat) (G : List Gw) (r : Int → Nat) (K : List Int) : Prop where
  head : w.heap[c]? = some (.cells #[.int .i64 most, .map (some tm), .map (some lm)] 98 (0, 0))
  tmap : OMap w tm T nT
  lmap : OMap w lm (LK r K) K.length
  tl : tm ≠ lm
  nod : K.Nodup
  keys : ∀ n, inL G n ≠ [] → n ∈ K
  obj : ∀ g ∈ G, ObM w g
  ring : ∀ n ∈ K, RtM w (r n) (inL G n)
  rinj : ∀ n ∈ K, ∀ m ∈ K, r n = r m → n = m
  xs : (G.map Gw.x).Nodup
  pvs : (G.map Gw.pv).Pairwise (fun v v' => ∀ k, Blk v k → ¬ Blk v' k)
  pnod : ∀ g ∈ G, (g.pl.map Prod.fst).Nodup
/-- What an object owns. -/
def OFoot (g : Gw) (k : Nat) : Prop := k = g.x ∨ Blk g.iv k ∨ Blk g.pv k ∨ ∃ n p, (n, p) ∈ g.pl ∧ k = p
def GFoot (c tm lm : Nat) (G : List Gw) (r : Int → Nat) (K : List Int) (k : Nat) : Prop := k = c ∨ k = tm ∨ k = lm ∨ (∃ g ∈ G, OFoot g k) ∨ ∃ n ∈ K, k = r n
section
variable {w w' : World} {c tm lm nT : Nat} {most : Int} {T : Int → Option Nat} {G : List Gw} {r : Int → Nat} {K : List Int} {g : Gw}
theorem ObM.xt (h : ObM w g) : TBlk w g.x 106 := ⟨_, h.xb⟩
theorem ObM.lt (h : ObM w g) {k : Nat} (hk : OFoot g k) : k < w.heap.size := by
  rcases hk with rfl | hk | hk | ⟨n, p, hp, rfl⟩
  · exact h.xt.lt
  · exact WRow.lt h.items hk
  · exact WRow.lt h.places hk
  · exact (h.pls n _ hp).typ.lt
theorem PlM.kept {F : Nat → Prop} {p x : Nat} {n : Int} (h : PlM w p n x) (t : Turn F w w') (hF : ¬ F p) : PlM w' p n x :=
  ⟨h.typ.kept t hF, t.cell h.line hF, t.cell h.who hF⟩
theorem ObM.kept {F : Nat → Prop} (h : ObM w g) (t : Turn F w w') (hF : ∀ k, OFoot g k → ¬ F k) : ObM w' g :=
  ⟨t.heap h.xb (hF _ (.inl rfl)), h.items.kept t (fun k hk => hF k (.inr (.inl hk))), h.places.kept t (fun k hk => hF k (.inr (.inr (.inl hk)))), fun n p hp => (h.pls n p hp).kept t (hF p (.inr (.inr (.inr ⟨n, p, hp, rfl⟩))))⟩
theorem Chain.turn {F : Nat → Prop} {a b : Nat} {l : List Nat} (h : Chain w a l b) (t : Turn F w w') (hl : ∀ k, k = a ∨ k ∈ l ∨ k = b → k < w.heap.size ∧ ¬ F k) : Chain w' a l b :=
  h.kept (fun q hq => World.cell?_of_block (t.block q (hl q (hq.imp id .inl)).1 (hl q (hq.imp id .inl)).2)) (fun q hq => World.cell?_of_block (t.block q (hl q (.inr hq)).1 (hl q (.inr hq)).2))
theorem GMem.lt (h : GMem w c most tm lm T nT G r K) {k : Nat} (hk : GFoot c tm lm G r K k) : k < w.heap.size := by
  rcases hk with rfl | rfl | rfl | ⟨g, hg, hk⟩ | ⟨n, hn, rfl⟩
  · exact lt_of_block h.head
  · exact h.tmap.lt
  · exact h.lmap.lt
  · exact (h.obj g hg).lt hk
  · exact (h.ring n hn).typ.lt
theorem gfoot_in {n : Int} (hn : n ∈ K) {k : Nat} (hk : k = r n ∨ k ∈ inL G n) : GFoot c tm lm G r K k := by
  rcases hk with rfl | hk
  · exact .inr (.inr (.inr (.inr ⟨n, hn, rfl⟩)))
  · obtain ⟨g, hg, hp⟩ := inL_mem hk
    exact .inr (.inr (.inr (.inl ⟨g, hg, .inr (.inr (.inr ⟨n, k, hp, rfl⟩))⟩)))
theorem RtM.kept {F : Nat → Prop} {a : Nat} {l : List Nat} (h : RtM w a l) (t : Turn F w w') (hl : ∀ k, k = a ∨ k ∈ l → k < w.heap.size ∧ ¬ F k) : RtM w' a l :=
  ⟨h.typ.kept t (hl a (.inl rfl)).2, t.cell h.who (hl a (.inl rfl)).2, h.chain.turn t (fun k hk => hl k (by rcases hk with h1 | h1 | h1; exact .inl h1; exact .inr h1; exact .inl h1))⟩
theorem GMem.kept {F : Nat → Prop} (h : GMem w c most tm lm T nT G r K) (t : Turn F w w') (hF : ∀ k, GFoot c tm lm G r K k → ¬ F k) : GMem w' c most tm lm T nT G r K :=
  ⟨t.heap h.head (hF _ (.inl rfl)), h.tmap.kept t (hF _ (.inr (.inl rfl))), h.lmap.kept t (hF _ (.inr (.inr (.inl rfl)))), h.tl, h.nod, h.keys, fun g hg => (h.obj g hg).kept t (fun k hk => hF k (.inr (.inr (.inr (.inl ⟨g, hg, hk⟩))))),
    fun n hn => (h.ring n hn).kept t (fun k hk => ⟨h.lt (gfoot_in hn hk), hF k (gfoot_in hn hk)⟩), h.rinj, h.xs, h.pvs, h.pnod⟩
theorem GMem.past (h : GMem w c most tm lm T nT G r K) (t : Turn NoBlock w w') : GMem w' c most tm lm T nT G r K := h.kept t (fun _ _ h => h)
theorem GMem.c0 (h : GMem w c most tm lm T nT G r K) : w.cell? ⟨c, 0, none⟩ = some (.int .i64 most) := by simpa using cell_at h.head 0
theorem GMem.c1 (h : GMem w c most tm lm T nT G r K) : w.cell? ⟨c, 1, none⟩ = some (.map (some tm)) := by simpa using cell_at h.head 1
theorem GMem.c2 (h : GMem w c most tm lm T nT G r K) : w.cell? ⟨c, 2, none⟩ = some (.map (some lm)) := by simpa using cell_at h.head 2
theorem GMem.ct (h : GMem w c most tm lm T nT G r K) : TBlk w c 98 := ⟨_, h.head⟩
theorem ObM.x0 (h : ObM w g) : w.cell? ⟨g.x, 0, none⟩ = some (.int .i64 g.a.t) := by simpa using cell_at h.xb 0
theorem ObM.x1 (h : ObM w g) : w.cell? ⟨g.x, 1, none⟩ = some (.int .i64 g.a.d) := by simpa using cell_at h.xb 1
theorem ObM.x2 (h : ObM w g) : w.cell? ⟨g.x, 2, none⟩ = some g.iv := by simpa using cell_at h.xb 2
theorem ObM.x3 (h : ObM w g) : w.cell? ⟨g.x, 3, none⟩ = some g.pv := by simpa using cell_at h.xb 3
/-- What stands in a line: its number and who it is. -/
theorem GMem.inl (h : GMem w c most tm lm T nT G r K) {n : Int} {p : Nat} (hp : p ∈ inL G n) : ∃ g ∈ G, (n, p) ∈ g.pl ∧ PlM w p n g.x := by
  obtain ⟨g, hg, h1⟩ := inL_mem hp
  exact ⟨g, hg, h1, (h.obj g hg).pls n p h1⟩
theorem GMem.rin (h : GMem w c most tm lm T nT G r K) {n m : Int} (hn : n ∈ K) (hm : r n ∈ inL G m) : False := by
  obtain ⟨g, _, _, h1⟩ := h.inl hm
  have h2 := (h.ring n hn).who
  rw [h1.who] at h2
  exact absurd h2 (by unfold ptr; simp)
theorem nodup_x {G : List Gw} (h : (G.map Gw.x).Nodup) : G.Pairwise (fun g g' => g.x ≠ g'.x) := List.pairwise_map.1 h
theorem same_x {G : List Gw} (h : (G.map Gw.x).Nodup) {g g' : Gw} (hg : g ∈ G) (hg' : g' ∈ G) (he : g.x = g'.x) : g = g' := by
  induction G with
  | nil => cases hg
  | cons y G ih =>
    obtain ⟨h1, h2⟩ := List.nodup_cons.1 h
    rcases List.mem_cons.1 hg with rfl | hg
    · rcases List.mem_cons.1 hg' with rfl | hg'
      · rfl
      · exact absurd (List.mem_map.2 ⟨g', hg', he.symm⟩) h1
    · rcases List.mem_cons.1 hg' with hy | hg'
      · exact absurd (List.mem_map.2 ⟨g, hg, he.trans (congrArg Gw.x hy)⟩) h1
      · exact ih h2 hg hg'
theorem GMem.lnod (h : GMem w c most tm lm T nT G r K) (n : Int) : (inL G n).Nodup := by
  have h1 : ∀ {a b : Gw}, [a, b].Sublist G → a.x ≠ b.x := List.pairwise_iff_forall_sublist.1 (nodup_x h.xs)
  unfold inL List.Nodup
  rw [List.pairwise_filterMap]
  refine List.pairwise_iff_forall_sublist.2 (fun {g g'} hs p hp p' hp' e => h1 hs ?_)
  have m1 : g ∈ G := hs.subset (by simp)
  have m2 : g' ∈ G := hs.subset (by simp)
  have e1 := ((h.obj g m1).pls n p (look_mem hp)).who
  have e2 := ((h.obj g' m2).pls n p' (look_mem hp')).who
  subst e
  rw [e1] at e2
  exact ptr_inj (by simpa using e2)
theorem GMem.rnod (h : GMem w c most tm lm T nT G r K) {n : Int} (hn : n ∈ K) : (r n :: inL G n).Nodup := List.nodup_cons.2 ⟨fun hh => h.rin hn hh, h.lnod n⟩
/-- Places of unlike lines are unlike. -/
theorem GMem.apart (h : GMem w c most tm lm T nT G r K) {n m : Int} (hn : n ∈ K) (hm : m ∈ K) (hne : n ≠ m) {k j : Nat} (hk : k = r n ∨ k ∈ inL G n) (hj : j = r m ∨ j ∈ inL G m) : k ≠ j := by
  rintro rfl
  rcases hk with rfl | hk
  · rcases hj with hj | hj
    · exact hne (h.rinj n hn m hm hj)
    · exact h.rin hn hj
  · rcases hj with rfl | hj
    · exact h.rin hm hk
    · obtain ⟨g, _, _, h1⟩ := h.inl hk
      obtain ⟨g', _, _, h2⟩ := h.inl hj
      have e1 := h1.line
      rw [h2.line] at e1
      simp at e1
      exact hne e1.symm
theorem GMem.ptyp (h : GMem w c most tm lm T nT G r K) {n : Int} (hn : n ∈ K) {k : Nat} (hk : k = r n ∨ k ∈ inL G n) : TBlk w k 149 := by
  rcases hk with rfl | hk
  · exact (h.ring n hn).typ
  · obtain ⟨g, _, _, h1⟩ := h.inl hk
    exact h1.typ
/-- Some places of rings are stored into, ahead and behind alone. -/
structure Stored (w w' : World) (F : Nat → Prop) : Prop where
  turn : Turn F w w'
  typ : ∀ k, F k → TBlk w k 149 ∧ TBlk w' k 149
  c0 : ∀ k, w'.cell? ⟨k, 0, none⟩ = w.cell? ⟨k, 0, none⟩ ∨ w.heap.size ≤ k
  c1 : ∀ k, w'.cell? ⟨k, 1, none⟩ = w.cell? ⟨k, 1, none⟩ ∨ w.heap.size ≤ k
theorem Stored.pl {F : Nat → Prop} (s : Stored w w' F) {p x : Nat} {n : Int} (h : PlM w p n x) : PlM w' p n x := by
  have hl := h.typ.lt
  refine ⟨?_, ?_, ?_⟩
  · by_cases hF : F p
    · exact (s.typ p hF).2
    · exact h.typ.kept s.turn hF
  · exact ((s.c0 p).resolve_right (by omega)).trans h.line
  · exact ((s.c1 p).resolve_right (by omega)).trans h.who
theorem Stored.ob {F : Nat → Prop} (s : Stored w w' F) (h : ObM w g) : ObM w' g :=
  ⟨s.turn.heap h.xb (fun hF => (h.xt.unlike (s.typ _ hF).1 (by decide)) rfl), h.items.kept s.turn (fun k hk hF => blk_typed h.items (s.typ k hF).1 (by decide) hk), h.places.kept s.turn (fun k hk hF => blk_typed h.places (s.typ k hF).1 (by decide) hk), fun n p hp => s.pl (h.pls n p hp)⟩
theorem Stored.head {F : Nat → Prop} (s : Stored w w' F) (h : GMem w c most tm lm T nT G r K) :
    w'.heap[c]? = some (.cells #[.int .i64 most, .map (some tm), .map (some lm)] 98 (0, 0)) ∧ OMap w' tm T nT ∧ OMap w' lm (LK r K) K.length :=
  ⟨s.turn.heap h.head (fun hF => (h.ct.unlike (s.typ _ hF).1 (by decide)) rfl), h.tmap.kept s.turn (fun hF => h.tmap.no_cells (s.typ _ hF).1), h.lmap.kept s.turn (fun hF => h.lmap.no_cells (s.typ _ hF).1)⟩
theorem Stored.rt {F : Nat → Prop} (s : Stored w w' F) {a : Nat} {l : List Nat} (h : RtM w a l) (hl : ∀ k, k = a ∨ k ∈ l → k < w.heap.size ∧ ¬ F k) : RtM w' a l := h.kept s.turn hl
theorem Stored.root {F : Nat → Prop} (s : Stored w w' F) {a : Nat} {l : List Nat} (h : RtM w a l) {l' : List Nat} (hc : Chain w' a l' a) : RtM w' a l' := by
  have hl := h.typ.lt
  refine ⟨?_, ((s.c1 a).resolve_right (by omega)).trans h.who, hc⟩
  by_cases hF : F a
  · exact (s.typ a hF).2
  · exact h.typ.kept s.turn hF
/-- One who stands in no line any more is not seen. -/
theorem GMem.gone {A B : List Gw} (h : GMem w c most tm lm T nT (A ++ g :: B) r K) (he : g.pl = []) : GMem w c most tm lm T nT (A ++ B) r K := by
  have hL : ∀ n, inL (A ++ g :: B) n = inL (A ++ B) n := fun n => by
    rw [inL_app, inL_cons, inL_app]
    unfold Gw.at
    rw [he]
    rfl
  refine ⟨h.head, h.tmap, h.lmap, h.tl, h.nod, fun n hn => h.keys n (by rw [hL]; exact hn), fun y hy => h.obj y ?_, fun n hn => by rw [← hL]; exact h.ring n hn, h.rinj, ?_, ?_, fun y hy => h.pnod y ?_⟩
  · rcases List.mem_append.1 hy with h1 | h1
    · exact List.mem_append_left _ h1
    · exact List.mem_append_right _ (List.mem_cons_of_mem _ h1)
  · refine h.xs.sublist (List.Sublist.map _ ?_)
    exact List.Sublist.append_left (List.sublist_cons_self _ _) _
  · refine h.pvs.sublist (List.Sublist.map _ ?_)
    exact List.Sublist.append_left (List.sublist_cons_self _ _) _
  · rcases List.mem_append.1 hy with h1 | h1
    · exact List.mem_append_left _ h1
    · exact List.mem_append_right _ (List.mem_cons_of_mem _ h1)
/-- The map of who waits is another. -/
theorem GMem.who (h : GMem w c most tm lm T nT G r K) {T' : Int → Option Nat} {nT' : Nat} (t : Turn (fun k => k = tm) w w') (hm : OMap w' tm T' nT') : GMem w' c most tm lm T' nT' G r K := by
  have hx : ∀ k e, TBlk w k e → ¬ k = tm := fun k e hk he => h.tmap.no_cells (he ▸ hk)
  refine ⟨t.heap h.head (hx _ _ h.ct), hm, h.lmap.kept t (fun e => h.tl e.symm), h.tl, h.nod, h.keys, fun g hg => (h.obj g hg).kept t ?_, fun n hn => (h.ring n hn).kept t (fun k hk => ⟨h.lt (gfoot_in hn hk), hx _ _ (h.ptyp hn hk)⟩), h.rinj, h.xs, h.pvs, h.pnod⟩
  rintro k (rfl | hk | hk | ⟨n, p, hp, rfl⟩)
  · exact hx _ _ (h.obj g hg).xt
  · exact hx _ _ (WRow.typed (h.obj g hg).items hk)
  · exact hx _ _ (WRow.typed (h.obj g hg).places hk)
  · exact hx _ _ ((h.obj g hg).pls n k hp).typ
/-- A line in which nobody stands is not there any more. -/
theorem GMem.less (h : GMem w c most tm lm T nT G r K) {n : Int} (hn : n ∈ K) (he : inL G n = []) (t : Turn (fun k => k = lm) w w') (hm : OMap w' lm (updI (LK r K) n none) (K.length - 1)) : GMem w' c most tm lm T nT G r (K.erase n) := by
  have hx : ∀ k e, TBlk w k e → ¬ k = lm := fun k e hk he => h.lmap.no_cells (he ▸ hk)
  have hme : ∀ m, m ∈ K.erase n ↔ m ≠ n ∧ m ∈ K := fun m => h.nod.mem_erase_iff
  refine ⟨t.heap h.head (hx _ _ h.ct), h.tmap.kept t h.tl, ?_, h.tl, h.nod.erase _, fun m hm2 => (hme m).2 ⟨fun e => hm2 (e ▸ he), h.keys m hm2⟩, fun g hg => (h.obj g hg).kept t ?_, fun m hm2 => (h.ring m ((hme m).1 hm2).2).kept t (fun k hk => ⟨h.lt (gfoot_in ((hme m).1 hm2).2 hk), hx _ _ (h.ptyp ((hme m).1 hm2).2 hk)⟩), fun a ha b hb => h.rinj a ((hme a).1 ha).2 b ((hme b).1 hb).2, h.xs, h.pvs, h.pnod⟩
  · rw [List.length_erase_of_mem hn]
    have e : LK r (K.erase n) = updI (LK r K) n none := by
      funext m
      unfold updI
      show (if m ∈ K.erase n then some (r m) else none) = if m = n then none else (if m ∈ K then some (r m) else none)
      by_cases h1 : m = n
      · rw [if_pos h1, if_neg (fun h2 => ((hme m).1 h2).1 h1)]
      · rw [if_neg h1]
        by_cases h2 : m ∈ K
        · rw [if_pos h2, if_pos ((hme m).2 ⟨h1, h2⟩)]
        · rw [if_neg h2, if_neg (fun h3 => h2 ((hme m).1 h3).2)]
    rw [e]
    exact hm
  · rintro k (rfl | hk | hk | ⟨n, p, hp, rfl⟩)
    · exact hx _ _ (h.obj g hg).xt
    · exact hx _ _ (WRow.typed (h.obj g hg).items hk)
    · exact hx _ _ (WRow.typed (h.obj g hg).places hk)
    · exact hx _ _ ((h.obj g hg).pls n k hp).typ
end
end Go.Proofs.Ytabakjimlndhcaa
