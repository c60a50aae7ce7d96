/-
  A port in memory: a row of packets, and a map of rows of watches. No walk, no conditions.
-/
import Derived.Test.YtcnellkoejhofaaQDelP
import Derived.Test.YtcnellkoejhofaaQMap
namespace Go.Proofs.Ytcnellkoejhofaa
open Go.ChangeShapes Go.WideShapes Go.ChangeAt Go.RowKit

/-- The watches of one object. -/
def ofO (Ws : List Wc) (i : Int) : List Wc := Ws.filter (fun t => t.o == i)
theorem ofO_push (Ws : List Wc) (x : Wc) (i : Int) : ofO (Ws ++ [x]) i = if x.o = i then ofO Ws i ++ [x] else ofO Ws i := by
  unfold ofO
  rw [List.filter_append]
  by_cases h : x.o = i
  · simp [h]
  · simp [h]
theorem ofO_nil (i : Int) : ofO [] i = [] := rfl
/-- Without the watches of the object o of which P is true. -/
def dropW (Ws : List Wc) (o : Int) (P : Wc → Bool) : List Wc := Ws.filter (fun t => !(t.o == o && P t))
theorem ofO_drop (Ws : List Wc) (o : Int) (P : Wc → Bool) (i : Int) : ofO (dropW Ws o P) i = if i = o then (ofO Ws o).filter (fun t => !P t) else ofO Ws i := by
  unfold ofO dropW
  rw [List.filter_filter]
  by_cases h : i = o
  · rw [if_pos h, List.filter_filter]
    subst h
    congr 1
    funext t
    cases h1 : (t.o == i) <;> simp
  · rw [if_neg h]
    apply List.filter_congr
    intro t _
    by_cases h1 : t.o = i
    · have : ¬ t.o = o := fun e => h (h1.symm.trans e)
      simp [h1]
      exact .inl h
    · simp [h1]
theorem dropW_len (Ws : List Wc) (o : Int) (P : Wc → Bool) : (dropW Ws o P).length + ((ofO Ws o).filter P).length = Ws.length := by
  unfold ofO dropW
  rw [List.filter_filter]
  induction Ws with
  | nil => rfl
  | cons t r ih =>
    by_cases h : t.o = o
    · cases hp : P t
      · simp [h, hp] at ih ⊢; omega
      · simp [h, hp] at ih ⊢; omega
    · simp [h] at ih ⊢; omega
theorem ofO_len (Ws : List Wc) (i : Int) : (ofO Ws i).length ≤ Ws.length := List.length_filter_le _ _
theorem ofO_mem {Ws : List Wc} {i : Int} {t : Wc} (h : t ∈ ofO Ws i) : t ∈ Ws ∧ t.o = i := by
  unfold ofO at h
  rw [List.mem_filter] at h
  exact ⟨h.1, by simpa using h.2⟩

/-- No key twice, each in the list: so many there are at most. -/
theorem nodup_len {A : Type} [DecidableEq A] : ∀ (K L : List A), K.Nodup → (∀ x ∈ K, x ∈ L) → K.length ≤ L.length
  | [], _, _, _ => Nat.zero_le _
  | a :: K, L, hn, hs => by
    have h1 := List.nodup_cons.1 hn
    have ha : a ∈ L := hs a List.mem_cons_self
    have h2 := nodup_len K (L.erase a) h1.2 (fun x hx => by
      have hne : x ≠ a := fun e => h1.1 (e ▸ hx)
      exact (List.mem_erase_of_ne hne).2 (hs x (List.mem_cons_of_mem _ hx)))
    rw [List.length_erase_of_mem ha] at h2
    have := List.length_pos_of_mem ha
    simp only [List.length_cons]
    omega

def LV (V : Int → Value) (Ws : List Wc) (i : Int) : Option Value := if ofO Ws i = [] then none else some (V i)
def updV (V : Int → Value) (o : Int) (v : Value) : Int → Value := fun i => if i = o then v else V i
/-- The map at b: at each object that has watches a row of them. -/
structure Wm (w : World) (b : Nat) (V : Int → Value) (Ws : List Wc) (K : List Int) : Prop where
  map : SMap w b (LV V Ws) K.length
  rows : ∀ i, ARow (V i) (ofO Ws i) w
  nil : ∀ i, ofO Ws i = [] → V i = .slice none 0 0
  apart : ∀ i j k, i ≠ j → Blk (V i) k → ¬ Blk (V j) k
  nodup : K.Nodup
  keys : ∀ i, i ∈ K ↔ ofO Ws i ≠ []
def WFoot (b : Nat) (V : Int → Value) (k : Nat) : Prop := k = b ∨ ∃ i, Blk (V i) k
section
variable {w w' : World} {b : Nat} {V : Int → Value} {Ws : List Wc} {K : List Int}
theorem Wm.lt (h : Wm w b V Ws K) {k : Nat} (hk : WFoot b V k) : k < w.heap.size := by
  rcases hk with rfl | ⟨i, hi⟩
  · exact h.map.lt
  · exact WRow.lt (h.rows i) hi
theorem Wm.typed (h : Wm w b V Ws K) {i : Int} {k : Nat} (hk : Blk (V i) k) : TBlk w k 66 := WRow.typed (h.rows i) hk
theorem Wm.vb (h : Wm w b V Ws K) (i : Int) : ¬ Blk (V i) b := fun hk => h.map.no_cells (h.typed hk)
theorem Wm.kept {F : Nat → Prop} (h : Wm w b V Ws K) (t : Turn F w w') (hF : ∀ k, WFoot b V k → ¬ F k) : Wm w' b V Ws K :=
  ⟨h.map.kept t (hF b (.inl rfl)), fun i => (h.rows i).kept t (fun k hk => hF k (.inr ⟨i, hk⟩)), h.nil, h.apart, h.nodup, h.keys⟩
theorem Wm.past (h : Wm w b V Ws K) (t : Turn NoBlock w w') : Wm w' b V Ws K := h.kept t (fun _ _ h => h)
theorem Wm.klen (h : Wm w b V Ws K) : K.length ≤ Ws.length := by
  have := nodup_len K (Ws.map Wc.o) h.nodup (fun x hx => by
    have hne := (h.keys x).1 hx
    obtain ⟨t, ht⟩ := List.exists_mem_of_ne_nil _ hne
    obtain ⟨h1, h2⟩ := ofO_mem ht
    exact List.mem_map.2 ⟨t, h1, h2⟩)
  simpa using this
theorem Wm.look (h : Wm w b V Ws K) {i : Int} (hi : fit i) : Sem.run Try.prog (Instr.lookup 60 (.map (some b)) (.int .i64 i) false) w = .ok (V i) w := by
  rw [h.map.look hi]
  unfold LV
  by_cases h0 : ofO Ws i = []
  · rw [if_pos h0, h.nil i h0]; rfl
  · rw [if_neg h0]; rfl
/-- The row of o has turned into v' in W1, and so is laid in the map. -/
theorem Wm.put (h : Wm w b V Ws K) {Ws' : List Wc} {o : Int} (ho : fit o) {v' : Value} {W1 : World} (t1 : Turn (Blk (V o)) w W1) (hr : ARow v' (ofO Ws' o) W1) (hne : ofO Ws' o ≠ [])
    (hoth : ∀ i, i ≠ o → ofO Ws' i = ofO Ws i) (hb : ∀ k, Blk v' k → Blk (V o) k ∨ w.heap.size ≤ k) (hm : K.length < maxLen) :
    ∃ W2 K', Sem.run Try.prog (Instr.mapUpdate 60 (.map (some b)) (.int .i64 o) v') W1 = .ok () W2 ∧ Wm W2 b (updV V o v') Ws' K' ∧ Turn (fun k => k = b) W1 W2 := by
  have m1 := h.map.kept t1 (h.vb o)
  obtain ⟨W2, hrun, m2, t2⟩ := m1.put hm ho (WRow.isSl hr)
  have hvb' : ¬ Blk v' b := fun hk => m1.no_cells (WRow.typed hr hk)
  have hlv : updI (LV V Ws) o (some v') = LV (updV V o v') Ws' := by
    funext i
    unfold updI LV updV
    by_cases hi : i = o
    · subst hi; rw [if_pos rfl, if_pos rfl, if_neg hne]
    · rw [if_neg hi, if_neg hi, hoth i hi]
  rw [hlv] at m2
  have hap : ∀ i j k, i ≠ j → Blk (updV V o v' i) k → ¬ Blk (updV V o v' j) k := by
    intro i j k hij hi hj
    unfold updV at hi hj
    by_cases h1 : i = o
    · have h2 : ¬ j = o := fun e => hij (h1.trans e.symm)
      rw [if_pos h1] at hi
      rw [if_neg h2] at hj
      rcases hb k hi with h3 | h3
      · exact h.apart o j k (fun e => h2 e.symm) h3 hj
      · have := h.lt (.inr ⟨j, hj⟩); omega
    · rw [if_neg h1] at hi
      by_cases h2 : j = o
      · rw [if_pos h2] at hj
        rcases hb k hj with h3 | h3
        · exact h.apart i o k h1 hi h3
        · have := h.lt (.inr ⟨i, hi⟩); omega
      · rw [if_neg h2] at hj
        exact h.apart i j k hij hi hj
  have hrows : ∀ i, ARow (updV V o v' i) (ofO Ws' i) W2 := by
    intro i
    unfold updV
    by_cases hi : i = o
    · subst hi; rw [if_pos rfl]
      exact hr.kept t2 (fun k hk e => hvb' (e ▸ hk))
    · rw [if_neg hi, hoth i hi]
      exact ((h.rows i).kept t1 (fun k hk hk' => h.apart i o k hi hk hk')).kept t2 (fun k hk e => h.vb i (e ▸ hk))
  have hnil : ∀ i, ofO Ws' i = [] → updV V o v' i = .slice none 0 0 := by
    intro i hi
    unfold updV
    by_cases h1 : i = o
    · subst h1; exact absurd hi hne
    · rw [if_neg h1]; exact h.nil i (by rw [← hoth i h1]; exact hi)
  by_cases hk : ofO Ws o = []
  · have hn : (LV V Ws o).isSome = false := by unfold LV; rw [if_pos hk]; rfl
    rw [hn, if_neg (by simp)] at m2
    have hno : o ∉ K := fun hm => (h.keys o).1 hm hk
    refine ⟨W2, o :: K, hrun, ⟨m2, hrows, hnil, hap, List.nodup_cons.2 ⟨hno, h.nodup⟩, fun i => ?_⟩, t2⟩
    rw [List.mem_cons]
    by_cases hi : i = o
    · subst hi; exact ⟨fun _ => hne, fun _ => .inl rfl⟩
    · rw [hoth i hi, h.keys i]
      exact ⟨fun h => h.elim (fun e => absurd e hi) id, .inr⟩
  · have hn : (LV V Ws o).isSome = true := by unfold LV; rw [if_neg hk]; rfl
    rw [hn, if_pos rfl] at m2
    refine ⟨W2, K, hrun, ⟨m2, hrows, hnil, hap, h.nodup, fun i => ?_⟩, t2⟩
    by_cases hi : i = o
    · subst hi; exact ⟨fun _ => hne, fun _ => (h.keys i).2 hk⟩
    · rw [hoth i hi, h.keys i]
/-- No watch of o is left. -/
theorem Wm.gone (h : Wm w b V Ws K) {Ws' : List Wc} {o : Int} (ho : fit o) {W1 : World} (t1 : Turn (Blk (V o)) w W1) (hne : ofO Ws' o = [])
    (hoth : ∀ i, i ≠ o → ofO Ws' i = ofO Ws i) :
    ∃ W2 K', (∀ ty, Sem.run Try.prog (Builtin.delete_ #[60, 3] ty #[.map (some b), .int .i64 o]) W1 = .ok (.tuple #[]) W2) ∧ Wm W2 b (updV V o (.slice none 0 0)) Ws' K' ∧ Turn (fun k => k = b) W1 W2 := by
  have m1 := h.map.kept t1 (h.vb o)
  obtain ⟨W2, hrun, m2, t2⟩ := m1.drop ho 0
  have hlv : updI (LV V Ws) o none = LV (updV V o (.slice none 0 0)) Ws' := by
    funext i
    unfold updI LV updV
    by_cases hi : i = o
    · subst hi; rw [if_pos rfl, if_pos hne]
    · rw [if_neg hi, if_neg hi, hoth i hi]
  rw [hlv] at m2
  have hap : ∀ i j k, i ≠ j → Blk (updV V o (.slice none 0 0) i) k → ¬ Blk (updV V o (.slice none 0 0) j) k := by
    intro i j k hij hi hj
    unfold updV at hi hj
    by_cases h1 : i = o
    · rw [if_pos h1] at hi; exact blk_nil k hi
    · rw [if_neg h1] at hi
      by_cases h2 : j = o
      · rw [if_pos h2] at hj; exact blk_nil k hj
      · rw [if_neg h2] at hj
        exact h.apart i j k hij hi hj
  have hrows : ∀ i, ARow (updV V o (.slice none 0 0) i) (ofO Ws' i) W2 := by
    intro i
    unfold updV
    by_cases hi : i = o
    · subst hi; rw [if_pos rfl, hne]
      exact wrow_nil _ _ _
    · rw [if_neg hi, hoth i hi]
      exact ((h.rows i).kept t1 (fun k hk hk' => h.apart i o k hi hk hk')).kept t2 (fun k hk e => h.vb i (e ▸ hk))
  have hnil : ∀ i, ofO Ws' i = [] → updV V o (.slice none 0 0) i = .slice none 0 0 := by
    intro i hi
    unfold updV
    by_cases h1 : i = o
    · rw [if_pos h1]
    · rw [if_neg h1]; exact h.nil i (by rw [← hoth i h1]; exact hi)
  have hrun' : ∀ ty, Sem.run Try.prog (Builtin.delete_ #[60, 3] ty #[.map (some b), .int .i64 o]) W1 = .ok (.tuple #[]) W2 := fun ty => hrun
  by_cases hk : ofO Ws o = []
  · have hn : (LV V Ws o).isSome = false := by unfold LV; rw [if_pos hk]; rfl
    rw [hn, if_neg (by simp)] at m2
    refine ⟨W2, K, hrun', ⟨m2, hrows, hnil, hap, h.nodup, fun i => ?_⟩, t2⟩
    by_cases hi : i = o
    · subst hi; rw [h.keys i, hk, hne]
    · rw [hoth i hi, h.keys i]
  · have hn : (LV V Ws o).isSome = true := by unfold LV; rw [if_neg hk]; rfl
    rw [hn, if_pos rfl] at m2
    have hmem : o ∈ K := (h.keys o).2 hk
    rw [← List.length_erase_of_mem hmem] at m2
    refine ⟨W2, K.erase o, hrun', ⟨m2, hrows, hnil, hap, h.nodup.erase o, fun i => ?_⟩, t2⟩
    rw [h.nodup.mem_erase_iff]
    by_cases hi : i = o
    · subst hi; simp [hne]
    · rw [hoth i hi, h.keys i]
      exact ⟨fun h => h.2, fun h => ⟨hi, h⟩⟩
end
theorem wm_made (w : World) : Wm (w.alloc (.map #[] 0)) w.heap.size (fun _ => .slice none 0 0) [] [] :=
  ⟨SMap.made w, fun _ => wrow_nil _ _ _, fun _ _ => rfl, fun _ _ k _ h => (blk_nil k h).elim, List.nodup_nil, fun i => ⟨(fun h => by cases h), fun h => absurd rfl h⟩⟩

/-- A port's own block. -/
def Hd (w : World) (c : Nat) (depth most : Int) (v : Value) (u : Int) (b : Nat) (n : Int) : Prop :=
  w.heap[c]? = some (.cells #[.int .i64 depth, .int .i64 most, v, .int .i64 u, .map (some b), .int .i64 n] 62 (0, 0))
section
variable {w w' : World} {c b : Nat} {depth most u n : Int} {v : Value}
theorem Hd.typ (h : Hd w c depth most v u b n) : TBlk w c 62 := ⟨_, h⟩
theorem Hd.kept {F : Nat → Prop} (h : Hd w c depth most v u b n) (t : Turn F w w') (hF : ¬ F c) : Hd w' c depth most v u b n := t.heap h hF
theorem Hd.past (h : Hd w c depth most v u b n) (t : Turn NoBlock w w') : Hd w' c depth most v u b n := h.kept t (fun h => h)
theorem Hd.c0 (h : Hd w c depth most v u b n) : w.cell? ⟨c, 0, none⟩ = some (.int .i64 depth) := cell_at h 0
theorem Hd.c1 (h : Hd w c depth most v u b n) : w.cell? ⟨c, 1, none⟩ = some (.int .i64 most) := cell_at h 1
theorem Hd.c2 (h : Hd w c depth most v u b n) : w.cell? ⟨c, 2, none⟩ = some v := cell_at h 2
theorem Hd.c3 (h : Hd w c depth most v u b n) : w.cell? ⟨c, 3, none⟩ = some (.int .i64 u) := cell_at h 3
theorem Hd.c4 (h : Hd w c depth most v u b n) : w.cell? ⟨c, 4, none⟩ = some (.map (some b)) := cell_at h 4
theorem Hd.c5 (h : Hd w c depth most v u b n) : w.cell? ⟨c, 5, none⟩ = some (.int .i64 n) := cell_at h 5
theorem Hd.set2 (h : Hd w c depth most v u b n) (v' : Value) : Hd (w.setCell ⟨c, 2, none⟩ v') c depth most v' u b n := set_at h 2 v'
theorem Hd.set3 (h : Hd w c depth most v u b n) (u' : Int) : Hd (w.setCell ⟨c, 3, none⟩ (.int .i64 u')) c depth most v u' b n := set_at h 3 _
theorem Hd.set5 (h : Hd w c depth most v u b n) (n' : Int) : Hd (w.setCell ⟨c, 5, none⟩ (.int .i64 n')) c depth most v u b n' := set_at h 5 _
end
theorem turn_c (w : World) (c j : Nat) (x : Value) : Turn (fun k => k = c) w (w.setCell ⟨c, j, none⟩ x) := (Turn.refl (fun k => k = c) w).setCell (p := ⟨c, j, none⟩) (.inl rfl) x

/-- How many packets are users'. -/
def usersN (Q : List Pk) : Nat := Q.countP (fun p => p.s == 0)
/-- A port: its block c, the row v of packets, the map at b, the rows V of watches. -/
structure PM (w : World) (c : Nat) (depth most : Int) (v : Value) (Q : List Pk) (b : Nat) (V : Int → Value) (Ws : List Wc) (K : List Int) : Prop where
  hd : Hd w c depth most v (usersN Q : Int) b (Ws.length : Int)
  row : PRow v Q w
  wm : Wm w b V Ws K
def PFoot (c : Nat) (v : Value) (b : Nat) (V : Int → Value) (k : Nat) : Prop := k = c ∨ Blk v k ∨ WFoot b V k
section
variable {w w' : World} {c b : Nat} {depth most : Int} {v : Value} {Q : List Pk} {V : Int → Value} {Ws : List Wc} {K : List Int}
theorem PM.cb (h : PM w c depth most v Q b V Ws K) : c ≠ b := fun e => h.wm.map.no_cells (e ▸ h.hd.typ)
theorem PM.cw (h : PM w c depth most v Q b V Ws K) (i : Int) : ¬ Blk (V i) c := fun hk => ((h.wm.typed hk).unlike h.hd.typ (by decide)) rfl
theorem PM.cf (h : PM w c depth most v Q b V Ws K) : ¬ WFoot b V c := fun hk => hk.elim h.cb (fun ⟨i, hi⟩ => h.cw i hi)
theorem PM.vc (h : PM w c depth most v Q b V Ws K) : ¬ Blk v c := fun hk => ((WRow.typed h.row hk).unlike h.hd.typ (by decide)) rfl
theorem PM.vw (h : PM w c depth most v Q b V Ws K) {k : Nat} (hk : Blk v k) : ¬ WFoot b V k := by
  rintro (rfl | ⟨i, hi⟩)
  · exact h.wm.map.no_cells (WRow.typed h.row hk)
  · exact ((WRow.typed h.row hk).unlike (h.wm.typed hi) (by decide)) rfl
theorem PM.lt (h : PM w c depth most v Q b V Ws K) {k : Nat} (hk : PFoot c v b V k) : k < w.heap.size := by
  rcases hk with rfl | hk | hk
  · exact h.hd.typ.lt
  · exact WRow.lt h.row hk
  · exact h.wm.lt hk
theorem PM.kept {F : Nat → Prop} (h : PM w c depth most v Q b V Ws K) (t : Turn F w w') (hF : ∀ k, PFoot c v b V k → ¬ F k) : PM w' c depth most v Q b V Ws K :=
  ⟨h.hd.kept t (hF c (.inl rfl)), h.row.kept t (fun k hk => hF k (.inr (.inl hk))), h.wm.kept t (fun k hk => hF k (.inr (.inr hk)))⟩
theorem PM.past (h : PM w c depth most v Q b V Ws K) (t : Turn NoBlock w w') : PM w' c depth most v Q b V Ws K := h.kept t (fun _ _ h => h)
end
end Go.Proofs.Ytcnellkoejhofaa
