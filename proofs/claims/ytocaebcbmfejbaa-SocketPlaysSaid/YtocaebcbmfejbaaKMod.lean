/-
  A socket as plain data, and in memory; what a change of one end makes of it. No walk, no conditions.
-/
import Derived.Test.YtocaebcbmfejbaaKBase
namespace Go.Proofs.Ytocaebcbmfejbaa
open Go.RowKit

/-- An end: is it open, shut for writing, for reading; the bytes that wait, and how many each piece has. -/
structure En where
  op : Bool
  nw : Bool
  nr : Bool
  b : List UInt8
  p : List Nat
def En.cl : En := ⟨false, false, false, [], []⟩
def En.new : En := ⟨true, false, false, [], []⟩
structure EV where
  b : Value
  p : Value
def EV.cl : EV := ⟨.slice none 0 0, .slice none 0 0⟩
def EV.F (v : EV) (k : Nat) : Prop := Blk v.b k ∨ Blk v.p k
def pints (l : List Nat) : List Int := l.map (fun n : Nat => (n : Int))
theorem pints_len (l : List Nat) : (pints l).length = l.length := by simp [pints]
/-- An end in memory, at place o of the socket's block c. -/
structure EAt (w : World) (c o : Nat) (s : En) (v : EV) : Prop where
  typ : TBlk w c 125
  c0 : w.cell? ⟨c, o, none⟩ = some (.bool s.op)
  c1 : w.cell? ⟨c, o + 1, none⟩ = some (.bool s.nw)
  c2 : w.cell? ⟨c, o + 2, none⟩ = some (.bool s.nr)
  c3 : w.cell? ⟨c, o + 3, none⟩ = some v.b
  c4 : w.cell? ⟨c, o + 4, none⟩ = some v.p
  rowB : Byts v.b s.b w
  rowP : Nums v.p (pints s.p) w
section
variable {w w' : World} {c o : Nat} {s : En} {v : EV}
theorem EAt.f (h : EAt w c o s v) (j : Nat) : w.frozen? ⟨c, j, none⟩ = false := h.typ.free j
theorem EAt.lt (h : EAt w c o s v) {k : Nat} (hk : k = c ∨ v.F k) : k < w.heap.size := by
  rcases hk with rfl | hk | hk
  · exact h.typ.lt
  · exact WRow.lt h.rowB hk
  · exact WRow.lt h.rowP hk
theorem EAt.kept {F : Nat → Prop} (h : EAt w c o s v) (t : Turn F w w') (hF : ∀ k, k = c ∨ v.F k → ¬ F k) : EAt w' c o s v :=
  ⟨h.typ.kept t (hF c (.inl rfl)), t.cell h.c0 (hF c (.inl rfl)), t.cell h.c1 (hF c (.inl rfl)), t.cell h.c2 (hF c (.inl rfl)), t.cell h.c3 (hF c (.inl rfl)), t.cell h.c4 (hF c (.inl rfl)),
    h.rowB.kept t (fun k hk => hF k (.inr (.inl hk))), h.rowP.kept t (fun k hk => hF k (.inr (.inr hk)))⟩
theorem EAt.nb (h : EAt w c o s v) : ¬ Blk v.b c := blk_typed h.rowB h.typ (by decide)
theorem EAt.np (h : EAt w c o s v) : ¬ Blk v.p c := blk_typed h.rowP h.typ (by decide)
theorem EAt.bp (h : EAt w c o s v) : ∀ k, Blk v.b k → ¬ Blk v.p k := blks_typed h.rowB h.rowP (by decide)
end
/-- One end has changed. -/
structure EStep (w w' : World) (c o : Nat) (v : EV) (s' : En) (v' : EV) : Prop where
  turn : Turn (fun k => k = c ∨ v.F k) w w'
  cells : ∀ j, ¬ (o ≤ j ∧ j < o + 5) → w'.cell? ⟨c, j, none⟩ = w.cell? ⟨c, j, none⟩
  at' : EAt w' c o s' v'
  bb : ∀ k, Blk v'.b k → Blk v.b k ∨ w.heap.size ≤ k
  bp : ∀ k, Blk v'.p k → Blk v.p k ∨ w.heap.size ≤ k
theorem EStep.trans {w w1 w2 : World} {c o : Nat} {v v1 v2 : EV} {s1 s2 : En} (h : EStep w w1 c o v s1 v1) (k : EStep w1 w2 c o v1 s2 v2) : EStep w w2 c o v s2 v2 := by
  have hs := h.turn.size
  refine ⟨h.turn.trans k.turn (fun i hi => ?_), fun j hj => (k.cells j hj).trans (h.cells j hj), k.at', fun i hi => ?_, fun i hi => ?_⟩
  · rcases hi with rfl | hi | hi
    · exact .inl (.inl rfl)
    · rcases h.bb i hi with h1 | h1
      · exact .inl (.inr (.inl h1))
      · exact .inr h1
    · rcases h.bp i hi with h1 | h1
      · exact .inl (.inr (.inr h1))
      · exact .inr h1
  · rcases k.bb i hi with h1 | h1
    · exact h.bb i h1
    · right; omega
  · rcases k.bp i hi with h1 | h1
    · exact h.bp i h1
    · right; omega
section
variable {w w1 : World} {c o : Nat} {s : En} {v : EV}
theorem EAt.cellB (h : EAt w c o s v) (t : Turn (Blk v.b) w w1) (j : Nat) : w1.cell? ⟨c, j, none⟩ = w.cell? ⟨c, j, none⟩ := World.cell?_of_block (a := ⟨c, j, none⟩) (t.block c h.typ.lt h.nb)
theorem EAt.cellP (h : EAt w c o s v) (t : Turn (Blk v.p) w w1) (j : Nat) : w1.cell? ⟨c, j, none⟩ = w.cell? ⟨c, j, none⟩ := World.cell?_of_block (a := ⟨c, j, none⟩) (t.block c h.typ.lt h.np)
/-- The bytes' slice is another one. -/
theorem EAt.putB (h : EAt w c o s v) (t : Turn (Blk v.b) w w1) {vb : Value} {b : List UInt8} (hrow : Byts vb b w1) (hb : ∀ k, Blk vb k → Blk v.b k ∨ w.heap.size ≤ k) :
    EStep w (w1.setCell ⟨c, o + 3, none⟩ vb) c o v { s with b := b } { v with b := vb } := by
  have ty := h.typ.kept t h.nb
  refine ⟨?_, fun j hj => ?_, ⟨ty.set _ _ _, ?_, ?_, ?_, ?_, ?_, WRow.setC hrow ty (by decide), ?_⟩, hb, fun k hk => .inl hk⟩
  · exact (t.mono (G := fun k => k = c ∨ v.F k) (fun k hk => .inl (.inr (.inl hk)))).setCell (p := ⟨c, o + 3, none⟩) (.inl (.inl rfl)) _
  · rw [cell_set_other (by omega)]; exact h.cellB t j
  · rw [cell_set_other (by omega), h.cellB t]; exact h.c0
  · rw [cell_set_other (by omega), h.cellB t]; exact h.c1
  · rw [cell_set_other (by omega), h.cellB t]; exact h.c2
  · exact World.cell?_setCell_same' _ _ _ (by rw [h.cellB t, h.c3]; rfl)
  · rw [cell_set_other (by omega), h.cellB t]; exact h.c4
  · exact WRow.setC (h.rowP.kept t (fun k hk hk' => h.bp k hk' hk)) ty (by decide)
/-- The pieces' slice is another one. -/
theorem EAt.putP (h : EAt w c o s v) (t : Turn (Blk v.p) w w1) {vp : Value} {p : List Nat} (hrow : Nums vp (pints p) w1) (hb : ∀ k, Blk vp k → Blk v.p k ∨ w.heap.size ≤ k) :
    EStep w (w1.setCell ⟨c, o + 4, none⟩ vp) c o v { s with p := p } { v with p := vp } := by
  have ty := h.typ.kept t h.np
  refine ⟨?_, fun j hj => ?_, ⟨ty.set _ _ _, ?_, ?_, ?_, ?_, ?_, ?_, WRow.setC hrow ty (by decide)⟩, fun k hk => .inl hk, hb⟩
  · exact (t.mono (G := fun k => k = c ∨ v.F k) (fun k hk => .inl (.inr (.inr hk)))).setCell (p := ⟨c, o + 4, none⟩) (.inl (.inl rfl)) _
  · rw [cell_set_other (by omega)]; exact h.cellP t j
  · rw [cell_set_other (by omega), h.cellP t]; exact h.c0
  · rw [cell_set_other (by omega), h.cellP t]; exact h.c1
  · rw [cell_set_other (by omega), h.cellP t]; exact h.c2
  · rw [cell_set_other (by omega), h.cellP t]; exact h.c3
  · exact World.cell?_setCell_same' _ _ _ (by rw [h.cellP t, h.c4]; rfl)
  · exact WRow.setC (h.rowB.kept t (fun k hk hk' => h.bp k hk hk')) ty (by decide)
/-- A row of cells set one by one. -/
theorem EAt.setOp (h : EAt w c o s v) (x : Bool) : EStep w (w.setCell ⟨c, o, none⟩ (.bool x)) c o v { s with op := x } v := by
  refine ⟨(Turn.refl _ w).setCell (p := ⟨c, o, none⟩) (.inl (.inl rfl)) _, fun j hj => cell_set_other (by omega), ⟨h.typ.set _ _ _, ?_, ?_, ?_, ?_, ?_, WRow.setC h.rowB h.typ (by decide), WRow.setC h.rowP h.typ (by decide)⟩, fun k hk => .inl hk, fun k hk => .inl hk⟩
  · exact World.cell?_setCell_same' _ _ _ (by rw [h.c0]; rfl)
  · rw [cell_set_other (by omega)]; exact h.c1
  · rw [cell_set_other (by omega)]; exact h.c2
  · rw [cell_set_other (by omega)]; exact h.c3
  · rw [cell_set_other (by omega)]; exact h.c4
theorem EAt.setNw (h : EAt w c o s v) (x : Bool) : EStep w (w.setCell ⟨c, o + 1, none⟩ (.bool x)) c o v { s with nw := x } v := by
  refine ⟨(Turn.refl _ w).setCell (p := ⟨c, o + 1, none⟩) (.inl (.inl rfl)) _, fun j hj => cell_set_other (by omega), ⟨h.typ.set _ _ _, ?_, ?_, ?_, ?_, ?_, WRow.setC h.rowB h.typ (by decide), WRow.setC h.rowP h.typ (by decide)⟩, fun k hk => .inl hk, fun k hk => .inl hk⟩
  · rw [cell_set_other (by omega)]; exact h.c0
  · exact World.cell?_setCell_same' _ _ _ (by rw [h.c1]; rfl)
  · rw [cell_set_other (by omega)]; exact h.c2
  · rw [cell_set_other (by omega)]; exact h.c3
  · rw [cell_set_other (by omega)]; exact h.c4
theorem EAt.setNr (h : EAt w c o s v) (x : Bool) : EStep w (w.setCell ⟨c, o + 2, none⟩ (.bool x)) c o v { s with nr := x } v := by
  refine ⟨(Turn.refl _ w).setCell (p := ⟨c, o + 2, none⟩) (.inl (.inl rfl)) _, fun j hj => cell_set_other (by omega), ⟨h.typ.set _ _ _, ?_, ?_, ?_, ?_, ?_, WRow.setC h.rowB h.typ (by decide), WRow.setC h.rowP h.typ (by decide)⟩, fun k hk => .inl hk, fun k hk => .inl hk⟩
  · rw [cell_set_other (by omega)]; exact h.c0
  · rw [cell_set_other (by omega)]; exact h.c1
  · exact World.cell?_setCell_same' _ _ _ (by rw [h.c2]; rfl)
  · rw [cell_set_other (by omega)]; exact h.c3
  · rw [cell_set_other (by omega)]; exact h.c4
end
theorem byts_nil (w : World) : Byts (.slice none 0 0) [] w := wrow_nil _ _ _
theorem nums_nil (w : World) : Nums (.slice none 0 0) (pints []) w := wrow_nil _ _ _

def kpl (e : Nat) : Nat := 2 + e * 5
/-- What calls keep of an end. -/
structure EOK (dg : Bool) (room : Nat) (s : En) : Prop where
  len : s.b.length ≤ room
  sum : dg = true → s.p.sum = s.b.length
  pos : dg = true → ∀ x ∈ s.p, 1 ≤ x
  no : dg = false → s.p = []
  cl : s.op = false → s = En.cl
theorem sum_len {l : List Nat} (h : ∀ x ∈ l, 1 ≤ x) : l.length ≤ l.sum := by
  induction l with
  | nil => simp
  | cons a l ih =>
    have h1 := h a (by simp)
    have h2 := ih (fun x hx => h x (by simp [hx]))
    simp
    omega
theorem EOK.plen {dg : Bool} {room : Nat} {s : En} (h : EOK dg room s) : s.p.length ≤ room := by
  cases dg with
  | true => have h1 := sum_len (h.pos rfl); have h2 := h.sum rfl; have h3 := h.len; omega
  | false => rw [h.no rfl]; simp
/-- A socket in memory. -/
structure KMem (w : World) (c : Nat) (dg : Bool) (room : Nat) (S : Nat → En) (V : Nat → EV) : Prop where
  c0 : w.cell? ⟨c, 0, none⟩ = some (.bool dg)
  c1 : w.cell? ⟨c, 1, none⟩ = some (.int .i64 room)
  s : ∀ e, e < 2 → EAt w c (kpl e) (S e) (V e)
  db : ∀ k, Blk (V 0).b k → ¬ Blk (V 1).b k
  dp : ∀ k, Blk (V 0).p k → ¬ Blk (V 1).p k
  r1 : 1 ≤ room
  r2 : room ≤ 1048576
  ok : ∀ e, e < 2 → EOK dg room (S e)
def KFoot (c : Nat) (V : Nat → EV) (k : Nat) : Prop := k = c ∨ ∃ e, e < 2 ∧ (V e).F k
section
variable {w w' : World} {c room : Nat} {dg : Bool} {S : Nat → En} {V : Nat → EV}
theorem KMem.lt (h : KMem w c dg room S V) {k : Nat} (hk : KFoot c V k) : k < w.heap.size := by
  rcases hk with rfl | ⟨e, he, hk⟩
  · exact (h.s 0 (by omega)).typ.lt
  · exact (h.s e he).lt (.inr hk)
theorem KMem.kept {F : Nat → Prop} (h : KMem w c dg room S V) (t : Turn F w w') (hF : ∀ k, KFoot c V k → ¬ F k) : KMem w' c dg room S V :=
  ⟨t.cell h.c0 (hF c (.inl rfl)), t.cell h.c1 (hF c (.inl rfl)), fun e he => (h.s e he).kept t (fun k hk => hF k (by
    rcases hk with h1 | h1
    · exact .inl h1
    · exact .inr ⟨e, he, h1⟩)), h.db, h.dp, h.r1, h.r2, h.ok⟩
theorem KMem.past (h : KMem w c dg room S V) (t : Turn NoBlock w w') : KMem w' c dg room S V := h.kept t (fun _ _ h => h)
/-- A socket that a call has made of another one. -/
def KMade (w w' : World) (c : Nat) (dg : Bool) (room : Nat) (V : Nat → EV) (K' : Nat → En) : Prop :=
  ∃ V', KMem w' c dg room K' V' ∧ Turn (KFoot c V) w w' ∧ ∀ k, KFoot c V' k → KFoot c V k ∨ w.heap.size ≤ k
theorem KMem.same (h : KMem w c dg room S V) (t : Turn NoBlock w w') : KMade w w' c dg room V S := ⟨V, h.past t, TU t, fun _ hk => .inl hk⟩
/-- One end's change makes a socket again. -/
theorem KMem.step (h : KMem w c dg room S V) {e : Nat} (he : e < 2) {s' : En} {v' : EV} (t : EStep w w' c (kpl e) (V e) s' v') (hok : EOK dg room s') : KMade w w' c dg room V (updN S e s') := by
  have hex : e = 0 ∨ e = 1 := by omega
  have hse := h.s e he
  have hap : ∀ i, i < 2 → i ≠ e → ∀ k, k = c ∨ (V i).F k → ¬ (V e).F k := fun i hi hne k hk hk' => by
    have hsi := h.s i hi
    have hij : (i = 0 ∧ e = 1) ∨ (i = 1 ∧ e = 0) := by omega
    rcases hk with rfl | hk | hk
    · exact hk'.elim hse.nb hse.np
    · rcases hk' with hk' | hk'
      · rcases hij with ⟨rfl, rfl⟩ | ⟨rfl, rfl⟩
        · exact h.db k hk hk'
        · exact h.db k hk' hk
      · exact blks_typed hsi.rowB hse.rowP (by decide) k hk hk'
    · rcases hk' with hk' | hk'
      · exact blks_typed hsi.rowP hse.rowB (by decide) k hk hk'
      · rcases hij with ⟨rfl, rfl⟩ | ⟨rfl, rfl⟩
        · exact h.dp k hk hk'
        · exact h.dp k hk' hk
  have hother : ∀ i, i < 2 → i ≠ e → EAt w' c (kpl i) (S i) (V i) := fun i hi hne => by
    have hsi := h.s i hi
    have hcell : ∀ j, j < 5 → w'.cell? ⟨c, kpl i + j, none⟩ = w.cell? ⟨c, kpl i + j, none⟩ := fun j hj => t.cells _ (by unfold kpl; omega)
    have hF : ∀ k, (V i).F k → ¬ (k = c ∨ (V e).F k) := fun k hk hk' => by
      rcases hk' with rfl | hk'
      · exact hk.elim hsi.nb hsi.np
      · exact hap i hi hne k (.inr hk) hk'
    exact ⟨t.at'.typ, (hcell 0 (by omega)).trans hsi.c0, (hcell 1 (by omega)).trans hsi.c1, (hcell 2 (by omega)).trans hsi.c2, (hcell 3 (by omega)).trans hsi.c3, (hcell 4 (by omega)).trans hsi.c4,
      hsi.rowB.kept t.turn (fun k hk => hF k (.inl hk)), hsi.rowP.kept t.turn (fun k hk => hF k (.inr hk))⟩
  have hlt : ∀ i, i < 2 → ∀ k, (V i).F k → k < w.heap.size := fun i hi k hk => (h.s i hi).lt (.inr hk)
  refine ⟨updN V e v', ⟨(t.cells 0 (by unfold kpl; omega)).trans h.c0, (t.cells 1 (by unfold kpl; omega)).trans h.c1, fun i hi => ?_, fun k hk hk' => ?_, fun k hk hk' => ?_, h.r1, h.r2, fun i hi => ?_⟩, t.turn.mono (fun k hk => .inl ?_), fun k hk => ?_⟩
  · by_cases hie : i = e
    · subst hie; rw [updN_same, updN_same]; exact t.at'
    · rw [updN_other _ _ hie, updN_other _ _ hie]; exact hother i hi hie
  · rcases hex with rfl | rfl
    · rw [updN_same] at hk
      rw [updN_other _ _ (by omega)] at hk'
      rcases t.bb k hk with h1 | h1
      · exact h.db k h1 hk'
      · have := hlt 1 (by omega) k (.inl hk'); omega
    · rw [updN_same] at hk'
      rw [updN_other _ _ (by omega)] at hk
      rcases t.bb k hk' with h1 | h1
      · exact h.db k hk h1
      · have := hlt 0 (by omega) k (.inl hk); omega
  · rcases hex with rfl | rfl
    · rw [updN_same] at hk
      rw [updN_other _ _ (by omega)] at hk'
      rcases t.bp k hk with h1 | h1
      · exact h.dp k h1 hk'
      · have := hlt 1 (by omega) k (.inr hk'); omega
    · rw [updN_same] at hk'
      rw [updN_other _ _ (by omega)] at hk
      rcases t.bp k hk' with h1 | h1
      · exact h.dp k hk h1
      · have := hlt 0 (by omega) k (.inr hk); omega
  · by_cases hie : i = e
    · subst hie; rw [updN_same]; exact hok
    · rw [updN_other _ _ hie]; exact h.ok i hi
  · rcases hk with rfl | hk
    · exact .inl rfl
    · exact .inr ⟨e, he, hk⟩
  · rcases hk with rfl | ⟨i, hi, hk⟩
    · exact .inl (.inl rfl)
    · by_cases hie : i = e
      · subst hie
        rw [updN_same] at hk
        rcases hk with hk | hk
        · rcases t.bb k hk with h1 | h1
          · exact .inl (.inr ⟨i, hi, .inl h1⟩)
          · exact .inr h1
        · rcases t.bp k hk with h1 | h1
          · exact .inl (.inr ⟨i, hi, .inr h1⟩)
          · exact .inr h1
      · rw [updN_other _ _ hie] at hk
        exact .inl (.inr ⟨i, hi, hk⟩)
end
/-- A law's state: behind w0 a socket of the ends K in blocks that came behind w0; the blocks of X lie beside it. -/
def KSt (w0 w : World) (c : Nat) (dg : Bool) (room : Nat) (K : Nat → En) (X : Nat → Prop) : Prop :=
  ∃ V, KMem w c dg room K V ∧ Turn NoBlock w0 w ∧ (∀ k, KFoot c V k → w0.heap.size ≤ k) ∧ ∀ k, X k → k < w.heap.size ∧ ¬ KFoot c V k
/-- The blocks of X are as they were. -/
def Kp (X : Nat → Prop) (w w' : World) : Prop := ∃ F, Turn F w w' ∧ ∀ k, X k → ¬ F k
theorem Kp.row {X : Nat → Prop} {w w' : World} {e size n : Nat} {v : Value} {xs : List Value} (h : Kp X w w') (hr : WRow w e size v n xs) (hv : ∀ k, Blk v k → X k) : WRow w' e size v n xs := by
  obtain ⟨F, t, hF⟩ := h
  exact hr.kept t (fun k hk => hF k (hv k hk))
theorem Kp.heap {X : Nat → Prop} {w w' : World} {k : Nat} {o : Obj} (h : Kp X w w') (hk : w.heap[k]? = some o) (hx : X k) : w'.heap[k]? = some o := by
  obtain ⟨F, t, hF⟩ := h
  exact t.heap hk (hF k hx)
theorem Kp.of_past {X : Nat → Prop} {w w' : World} (t : Turn NoBlock w w') : Kp X w w' := ⟨_, t, fun _ _ h => h⟩
section
variable {w0 w w' : World} {c room : Nat} {dg : Bool} {K K' : Nat → En} {X Y : Nat → Prop}
theorem KSt.turn (h : KSt w0 w c dg room K X) : Turn NoBlock w0 w := by
  obtain ⟨V, h1, h3, h4, h5⟩ := h
  exact h3
theorem KSt.past (h : KSt w0 w c dg room K X) (t : Turn NoBlock w w') : KSt w0 w' c dg room K X := by
  obtain ⟨V, h1, h3, h4, h5⟩ := h
  exact ⟨V, h1.past t, h3.trans t (fun _ h => .inl h), h4, fun k hk => ⟨Nat.lt_of_lt_of_le (h5 k hk).1 t.size, (h5 k hk).2⟩⟩
theorem KSt.fewer (h : KSt w0 w c dg room K X) (hY : ∀ k, Y k → X k) : KSt w0 w c dg room K Y := by
  obtain ⟨V, h1, h3, h4, h5⟩ := h
  exact ⟨V, h1, h3, h4, fun k hk => h5 k (hY k hk)⟩
theorem KSt.more (h : KSt w0 w c dg room K X) (t : Turn X w w') (hY : ∀ k, Y k → X k ∨ (w.heap.size ≤ k ∧ k < w'.heap.size)) (hX : ∀ k, X k → w0.heap.size ≤ k) : KSt w0 w' c dg room K Y := by
  obtain ⟨V, h1, h3, h4, h5⟩ := h
  refine ⟨V, h1.kept t (fun k hk hx => (h5 k hx).2 hk), h3.trans t (fun k hk => .inr (hX k hk)), h4, fun k hk => ?_⟩
  rcases hY k hk with h6 | h6
  · exact ⟨Nat.lt_of_lt_of_le (h5 k h6).1 t.size, (h5 k h6).2⟩
  · exact ⟨h6.2, fun hh => by have := h1.lt hh; omega⟩
theorem kst_made {V : Nat → EV} (ht : Turn NoBlock w0 w) (hf : ∀ k, KFoot c V k → w0.heap.size ≤ k) (hx : ∀ k, X k → k < w.heap.size ∧ ¬ KFoot c V k) (h : KMade w w' c dg room V K') : KSt w0 w' c dg room K' X ∧ Kp X w w' := by
  obtain ⟨V', h1, h3, h4⟩ := h
  refine ⟨⟨V', h1, ht.trans h3 (fun k hk => .inr (hf k hk)), fun k hk => ?_, fun k hk => ⟨Nat.lt_of_lt_of_le (hx k hk).1 h3.size, fun hh => ?_⟩⟩, _, h3, fun k hk => (hx k hk).2⟩
  · rcases h4 k hk with h | h
    · exact hf k h
    · have := ht.size; omega
  · rcases h4 k hh with h | h
    · exact (hx k hk).2 h
    · have := (hx k hk).1; omega
theorem KSt.ok (h : KSt w0 w c dg room K X) {e : Nat} (he : e < 2) : EOK dg room (K e) := by
  obtain ⟨V, h1, h3, h4, h5⟩ := h
  exact h1.ok e he
end
end Go.Proofs.Ytocaebcbmfejbaa
