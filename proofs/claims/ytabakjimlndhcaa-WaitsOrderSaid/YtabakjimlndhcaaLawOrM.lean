/-
  WaitsOrder's state: two waits, a row of numbers, a map from threads to deadlines. No walk, no conditions.
-/
import Derived.Test.YtabakjimlndhcaaBInt
import Derived.Test.YtabakjimlndhcaaLawFiM
namespace Go.Proofs.Ytabakjimlndhcaa
open Go.ChangeShapes Go.WideShapes Go.ChangeAt Go.RowKit Go.Maps Go.Shelf

def WtNod (M : List Wt) : Prop := (M.map Wt.t).Nodup
def dF (M : List Wt) : Int → Option Int := fun t => (M.find? (fun p => p.t == t)).map Wt.d
def wDel (M : List Wt) (t : Int) : List Wt := M.filter (fun p => p.t != t)
theorem wt_has {M : List Wt} {t : Int} : hasW M t = (dF M t).isSome := by
  unfold hasW dF
  rw [Option.isSome_map, Bool.eq_iff_iff, List.any_eq_true, List.find?_isSome]
theorem dF_push {M : List Wt} {p : Wt} (h : hasW M p.t = false) : dF (M ++ [p]) = updI (dF M) p.t (some p.d) := by
  funext j
  unfold updI dF
  rw [List.find?_append]
  by_cases hj : j = p.t
  · subst hj
    rw [wt_has] at h
    unfold dF at h
    rw [Option.isSome_map] at h
    have : M.find? (fun q => q.t == p.t) = none := by
      cases hf : M.find? (fun q => q.t == p.t) with
      | none => rfl
      | some q => rw [hf] at h; cases h
    rw [this]
    simp
  · rw [if_neg hj]
    have : (p.t == j) = false := by simp; exact fun e => hj e.symm
    simp [this]
theorem dF_del (M : List Wt) (t : Int) : dF (wDel M t) = updI (dF M) t none := by
  funext j
  unfold updI dF wDel
  rw [List.find?_filter]
  by_cases hj : j = t
  · subst hj
    rw [if_pos rfl]
    have : M.find? (fun p => decide ((p.t != j) = true ∧ (p.t == j) = true)) = none := by
      rw [List.find?_eq_none]
      intro p _
      simp
    rw [this]
    rfl
  · rw [if_neg hj]
    congr 2
    funext p
    by_cases hp : p.t = j
    · simp [hp, hj]
    · simp [hp]
theorem dF_mem {M : List Wt} (h : WtNod M) {p : Wt} (hp : p ∈ M) : dF M p.t = some p.d := by
  induction M with
  | nil => cases hp
  | cons q M ih =>
    unfold WtNod at h
    rw [List.map_cons, List.nodup_cons] at h
    unfold dF
    rcases List.mem_cons.1 hp with rfl | hp
    · simp
    · have hne : q.t ≠ p.t := fun e => h.1 (e ▸ List.mem_map_of_mem hp)
      have : (q.t == p.t) = false := by simpa using hne
      rw [List.find?_cons, this]
      exact ih h.2 hp
theorem wDel_len {M : List Wt} (h : WtNod M) {p : Wt} (hp : p ∈ M) : (wDel M p.t).length = M.length - 1 := by
  induction M with
  | nil => cases hp
  | cons q M ih =>
    unfold WtNod at h
    rw [List.map_cons, List.nodup_cons] at h
    unfold wDel
    by_cases e : q.t = p.t
    · have hq : (q.t != p.t) = false := by simp [e]
      rw [List.filter_cons, hq]
      have : M.filter (fun x => x.t != p.t) = M := by
        refine List.filter_eq_self.2 (fun x hx => ?_)
        have : x.t ≠ p.t := fun e2 => h.1 (by rw [e, ← e2]; exact List.mem_map_of_mem hx)
        simpa using this
      rw [if_neg (by simp), this]
      rfl
    · have hq : (q.t != p.t) = true := by simpa using e
      rw [List.filter_cons, hq, if_pos rfl]
      rcases List.mem_cons.1 hp with rfl | hp
      · exact absurd rfl e
      · have h2 := ih h.2 hp
        have h3 := List.length_pos_of_mem hp
        unfold wDel at h2
        simp only [List.length_cons]
        omega
theorem WtNod.del {M : List Wt} (h : WtNod M) (t : Int) : WtNod (wDel M t) := List.Nodup.sublist (List.Sublist.map _ List.filter_sublist) h
theorem dlOf_mem {M : List Wt} (h : WtNod M) {p : Wt} (hp : p ∈ M) : dlOf M p.t = p.d := by
  have := dF_mem h hp
  unfold dF at this
  unfold dlOf
  rw [this]
  rfl
theorem dF_some {M : List Wt} {t d : Int} (h : dF M t = some d) : ∃ p ∈ M, p.t = t ∧ p.d = d := by
  unfold dF at h
  obtain ⟨p, hp, rfl⟩ := Option.map_eq_some_iff.1 h
  exact ⟨p, List.mem_of_find?_eq_some hp, by simpa using List.find?_some hp, rfl⟩
/-- Those who all wait for the object 4. -/
structure ORow (L : List Wt) : Prop where
  nod : WtNod L
  each : ∀ a ∈ L, a.its = [⟨4, 1⟩] ∧ fit a.t ∧ fit a.d
theorem or_blk {L : List Wt} (h : ORow L) (t d : Int) (ht : fit t) (hd : fit d) : ORow (blkL 100 L t d [⟨4, 1⟩]) ∧ (blkL 100 L t d [⟨4, 1⟩]).length ≤ L.length + 1 ∧ (blkL 100 L t d [⟨4, 1⟩]).map Wt.t = if blkS 100 L t [⟨4, 1⟩] = 0 then L.map Wt.t ++ [t] else L.map Wt.t := by
  unfold blkL
  split
  · rename_i hs
    refine ⟨⟨?_, fun a ha => ?_⟩, by simp, by simp⟩
    · unfold WtNod
      rw [List.map_append, List.nodup_append]
      refine ⟨h.nod, by simp, fun x hx y hy e => ?_⟩
      simp at hy
      subst hy e
      obtain ⟨q, hq, hqx⟩ := List.mem_map.1 hx
      have hno : hasW L x = false := by
        cases hb : hasW L x with
        | false => rfl
        | true =>
          unfold blkS at hs
          rw [hb, if_pos rfl] at hs
          split at hs <;> omega
      unfold hasW at hno
      rw [List.any_eq_false] at hno
      have := hno q hq
      simp [hqx] at this
    · rcases List.mem_append.1 ha with ha | ha
      · exact h.each a ha
      · rw [List.mem_singleton] at ha
        subst ha
        exact ⟨rfl, ht, hd⟩
  · exact ⟨h, by omega, rfl⟩
/-- What Tell(4, 3) answers: all, in their order. -/
theorem or_tell {L : List Wt} (h : ORow L) : L.filterMap (wkA (fun m => meetB m 3) 4 0 3) = L.map (fun a => ⟨a.t, 0, 0, 3⟩) ∧ L.filter (keepA (fun m => meetB m 3) 4) = [] := by
  have hf : fitI (fun m => meetB m 3) 4 [⟨4, 1⟩] = some 0 := by decide
  refine ⟨?_, ?_⟩
  · have key : ∀ M : List Wt, (∀ a ∈ M, a.its = [⟨4, 1⟩]) → M.filterMap (wkA (fun m => meetB m 3) 4 0 3) = M.map (fun a => ⟨a.t, 0, 0, 3⟩) := by
      intro M
      induction M with
      | nil => intro _; rfl
      | cons a M ih =>
        intro hM
        have e : wkA (fun m => meetB m 3) 4 0 3 a = some ⟨a.t, 0, 0, 3⟩ := by
          unfold wkA
          rw [hM a List.mem_cons_self, hf]
          rfl
        rw [List.filterMap_cons, e, List.map_cons, ← ih (fun x hx => hM x (List.mem_cons_of_mem _ hx))]
    exact key L (fun a ha => (h.each a ha).1)
  · rw [List.filter_eq_nil_iff]
    intro a ha
    unfold keepA
    rw [(h.each a ha).1, hf]
    simp
/-- Who is left in the map when j of D are told. -/
def oJ (L D : List Wt) (j : Nat) : List Wt := L.filter (fun p => !((D.take j).map Wt.t).contains p.t)
theorem oJ_zero (L D : List Wt) : oJ L D 0 = L := List.filter_eq_self.2 (fun a _ => by simp)
theorem oJ_next (L : List Wt) {D : List Wt} {j : Nat} {x : Wt} (hx : D[j]? = some x) : wDel (oJ L D j) x.t = oJ L D (j + 1) := by
  unfold wDel oJ
  rw [List.filter_filter]
  refine List.filter_congr (fun p _ => ?_)
  rw [List.take_add_one, hx]
  by_cases h : p.t = x.t
  · simp [h]
  · simp [h]
theorem oJ_nod {L D : List Wt} (h : WtNod L) (j : Nat) : WtNod (oJ L D j) := List.Nodup.sublist (List.Sublist.map _ List.filter_sublist) h
/-- Who is picked out by q, in some order. -/
theorem pick_leftW {L : List Wt} (hL : (L.map Wt.t).Nodup) {q : Wt → Bool} {ts : List Int} (h : ts.Perm ((L.filter q).map Wt.t)) : ts.Nodup ∧ L.filter (fun a => !q a) = L.filter (fun a => !ts.contains a.t) := by
  refine ⟨h.nodup_iff.2 (List.Nodup.sublist (List.Sublist.map _ List.filter_sublist) hL), List.filter_congr (fun a ha => ?_)⟩
  congr 1
  rw [Bool.eq_iff_iff, List.contains_iff_mem, h.mem_iff, List.mem_map]
  constructor
  · intro hq
    exact ⟨a, List.mem_filter.2 ⟨ha, hq⟩, rfl⟩
  · rintro ⟨b, hb, e⟩
    obtain ⟨hb1, hb2⟩ := List.mem_filter.1 hb
    have : a = b := by
      obtain ⟨A, B, rfl⟩ := List.append_of_mem ha
      rw [List.map_append, List.map_cons] at hL
      obtain ⟨_, n2, n3⟩ := List.nodup_append.1 hL
      rcases List.mem_append.1 hb1 with h1 | h1
      · exact absurd e (n3 _ (List.mem_map_of_mem h1) _ List.mem_cons_self)
      · rcases List.mem_cons.1 h1 with h1 | h1
        · exact h1.symm
        · exact absurd (e ▸ List.mem_map_of_mem h1) (List.nodup_cons.1 n2).1
    exact this ▸ hb2
/-- Who is late, told in order. -/
structure Late (L D : List Wt) (now : Int) : Prop where
  perm : D.Perm (L.filter (fun a => decide (a.d ≤ now)))
  sorted : D.Pairwise (fun p q => ¬ befW q p)
  nod : WtNod L
section
variable {L D : List Wt} {now : Int}
theorem Late.dnod (h : Late L D now) : (D.map Wt.t).Nodup := (h.perm.map Wt.t).nodup_iff.2 (List.Nodup.sublist (List.Sublist.map _ List.filter_sublist) h.nod)
theorem Late.at (h : Late L D now) {j : Nat} {x : Wt} (hx : D[j]? = some x) : x ∈ oJ L D j ∧ x.d ≤ now := by
  have h1 := List.mem_filter.1 (h.perm.mem_iff.1 (List.mem_of_getElem? hx))
  refine ⟨List.mem_filter.2 ⟨h1.1, ?_⟩, by simpa using h1.2⟩
  have hn := h.dnod
  obtain ⟨hj, he⟩ := List.getElem?_eq_some_iff.1 hx
  simp only [Bool.not_eq_true', ← Bool.not_eq_true, List.contains_iff_mem]
  intro hm
  obtain ⟨y, hy, hyx⟩ := List.mem_map.1 hm
  obtain ⟨i, hi, hyi⟩ := List.getElem_of_mem hy
  rw [List.getElem_take] at hyi
  rw [List.length_take] at hi
  have := (List.getElem_inj (i := i) (j := j) (h₀ := by rw [List.length_map]; omega) (h₁ := by rw [List.length_map]; exact hj) hn).1 (by rw [List.getElem_map, List.getElem_map, hyi, he, hyx])
  omega
/-- One behind another. -/
theorem Late.next (h : Late L D now) {j : Nat} {x y : Wt} (hx : D[j]? = some x) (hy : D[j + 1]? = some y) : ¬ y.d < x.d ∧ (x.d = y.d → x.t < y.t) := by
  obtain ⟨hj, he⟩ := List.getElem?_eq_some_iff.1 hx
  obtain ⟨hk, hf⟩ := List.getElem?_eq_some_iff.1 hy
  have hs := List.pairwise_iff_getElem.1 h.sorted j (j + 1) hj hk (by omega)
  rw [he, hf] at hs
  have hne : x.t ≠ y.t := fun e => by
    have := (List.getElem_inj (i := j) (j := j + 1) (h₀ := by rw [List.length_map]; exact hj) (h₁ := by rw [List.length_map]; exact hk) h.dnod).1 (by rw [List.getElem_map, List.getElem_map, he, hf, e])
    omega
  unfold befW at hs
  refine ⟨fun e => hs (.inl e), fun e => ?_⟩
  rcases Int.lt_trichotomy x.t y.t with h1 | h1 | h1
  · exact h1
  · exact absurd h1 hne
  · exact absurd (.inr ⟨e.symm, h1⟩) hs
/-- Who is left when all are told. -/
theorem Late.left (h : Late L D now) : oJ L D D.length = L.filter (fun a => !decide (a.d ≤ now)) := by
  have := (pick_leftW h.nod (q := fun a => decide (a.d ≤ now)) (h.perm.map Wt.t)).2
  unfold oJ
  rw [List.take_length]
  exact this.symm
end
/-- The two waits, and the row of those who blocked. -/
structure OrS (w0 w : World) (ca cb : Nat) (La Lb : List Wt) (v : Value) (xs : List Int) : Prop where
  st : WTwo w0 w ca cb 100 La Lb (Blk v)
  row : Nums v xs w
  fr : ∀ k, Blk v k → w0.heap.size ≤ k
section
variable {w0 w w' : World} {ca cb : Nat} {La Lb : List Wt} {v : Value} {xs : List Int}
theorem OrS.past (h : OrS w0 w ca cb La Lb v xs) (t : Turn NoBlock w w') : OrS w0 w' ca cb La Lb v xs := ⟨h.st.past t, h.row.past t, h.fr⟩
theorem or_item (w : World) : IRow (.slice (some ⟨w.heap.size, 0, none⟩) 1 1) [⟨4, 1⟩] (w.alloc (.cells #[.int .i64 4, .int .i64 1] 40)) := one_row w 4 1
theorem or_fit : ∀ i ∈ ([⟨4, 1⟩] : List It), fit i.o ∧ fit i.m := by
  intro i hi
  rw [List.mem_singleton] at hi
  subst hi
  exact ⟨fit_small _ (by decide), fit_small _ (by decide)⟩
theorem OrS.blockA (h : OrS w0 w ca cb La Lb v xs) (t d : Int) (ht : fit t) (hd : fit d) :
    Calls Try.prog 14 #[.pointer (some ⟨ca, 0, none⟩), .int .i64 t, .int .i64 d, .slice (some ⟨w.heap.size, 0, none⟩) 1 1] (w.alloc (.cells #[.int .i64 4, .int .i64 1] 40)) fun x w' => x = .returned (.int .i64 (blkS 100 La t [⟨4, 1⟩])) ∧ OrS w0 w' ca cb (blkL 100 La t d [⟨4, 1⟩]) Lb v xs := by
  have t1 : Turn NoBlock w (w.alloc (.cells #[.int .i64 4, .int .i64 1] 40)) := (Turn.refl _ w).alloc _
  refine ((h.st.past t1).blockA t d _ [⟨4, 1⟩] (or_item w) (by simp) ht hd or_fit).mono ?_
  rintro x w2 ⟨rfl, h1, h2⟩
  exact ⟨rfl, h1, h2.row (h.row.past t1) (fun k hk => hk), h.fr⟩
theorem OrS.blockB (h : OrS w0 w ca cb La Lb v xs) (t d : Int) (ht : fit t) (hd : fit d) :
    Calls Try.prog 14 #[.pointer (some ⟨cb, 0, none⟩), .int .i64 t, .int .i64 d, .slice (some ⟨w.heap.size, 0, none⟩) 1 1] (w.alloc (.cells #[.int .i64 4, .int .i64 1] 40)) fun x w' => x = .returned (.int .i64 (blkS 100 Lb t [⟨4, 1⟩])) ∧ OrS w0 w' ca cb La (blkL 100 Lb t d [⟨4, 1⟩]) v xs := by
  have t1 : Turn NoBlock w (w.alloc (.cells #[.int .i64 4, .int .i64 1] 40)) := (Turn.refl _ w).alloc _
  refine ((h.st.past t1).blockB t d _ [⟨4, 1⟩] (or_item w) (by simp) ht hd or_fit).mono ?_
  rintro x w2 ⟨rfl, h1, h2⟩
  exact ⟨rfl, h1, h2.row (h.row.past t1) (fun k hk => hk), h.fr⟩
theorem OrS.push (h : OrS w0 w ca cb La Lb v xs) (x : Int) (hn : xs.length ≤ 1000) :
    ∃ p n cap p' cap' W1, v = .slice p n cap ∧ n = xs.length ∧ (∀ ty, (Builtin.append_ #[53, 53] ty #[.slice p n cap, .slice (some ⟨w.heap.size, 0, none⟩) 1 1]).run Try.prog (w.alloc (.cells #[.int .i64 x] 3)) = .ok (.slice p' (n + 1) cap') W1) ∧
      OrS w0 W1 ca cb La Lb (.slice p' (n + 1) cap') (xs ++ [x]) := by
  obtain ⟨iI, hiI, hzI, hsI, hbI⟩ := info_parts infoI
  obtain ⟨p, cap, hv⟩ := WRow.sl h.row
  have tA : Turn NoBlock w (w.alloc (.cells #[.int .i64 x] 3)) := (Turn.refl _ w).alloc _
  obtain ⟨v', W1, hap, h1, h2, h3⟩ := WRow.append (h.row.past tA) 53 53 iI _ 8 intsT hiI hzI hsI hbI rfl ((rd_new w 3 1 #[.int .i64 x] rfl).src 53 3 intsT (icells_one [x])) (by unfold maxLen; omega) (by omega)
  obtain ⟨p', cap', rfl⟩ := h1.sl
  have h3' : ∀ k, Blk (.slice p' (xs.length + 1) cap') k → Blk v k ∨ w.heap.size ≤ k := fun k hk => (h3 k hk).imp id (fun e => by have := tA.size; omega)
  have hrow : Nums (.slice p' (xs.length + 1) cap') (xs ++ [x]) W1 := by
    unfold Nums icells
    rw [List.map_append, List.length_append]
    exact h1
  refine ⟨p, xs.length, cap, p', cap', W1, hv, rfl, fun ty => by rw [← hv]; exact hap ty, ?_, hrow, fun k hk => ?_⟩
  · refine h.st.more ((TU tA).trans h2 (fun _ h => .inl h)) (fun k hk => ?_) h.fr
    rcases h3' k hk with h4 | h4
    · exact .inl h4
    · exact .inr ⟨h4, WRow.lt hrow hk⟩
  · rcases h3' k hk with h4 | h4
    · exact h.fr k h4
    · exact Nat.le_trans h.st.turn.size h4
end
/-- The map beside, and the row. -/
structure OrM (w0 w : World) (ca cb m : Nat) (La Lb : List Wt) (v : Value) (xs : List Int) (M : List Wt) : Prop where
  st : WTwo w0 w ca cb 100 La Lb (fun k => Blk v k ∨ k = m)
  row : Nums v xs w
  fr : ∀ k, Blk v k → w0.heap.size ≤ k
  mp : PMap w m (dF M) M.length
  ne : ∀ k, Blk v k → k ≠ m
  frm : w0.heap.size ≤ m
section
variable {w0 w w' : World} {ca cb m : Nat} {La Lb Lb' M : List Wt} {v : Value} {xs : List Int}
theorem OrM.past (h : OrM w0 w ca cb m La Lb v xs M) (t : Turn NoBlock w w') : OrM w0 w' ca cb m La Lb v xs M := ⟨h.st.past t, h.row.past t, h.fr, h.mp.kept t (fun h => h), h.ne, h.frm⟩
theorem orm_new (h : OrS w0 w ca cb La Lb v xs) : OrM w0 (w.alloc (.map #[] 0)) ca cb w.heap.size La Lb v xs [] := by
  have t : Turn (Blk v) w (w.alloc (.map #[] 0)) := (Turn.refl _ _).alloc _
  have t1 : Turn NoBlock w (w.alloc (.map #[] 0)) := (Turn.refl _ _).alloc _
  exact ⟨h.st.more t (fun k hk => hk.imp id (fun e => by subst e; simp)) h.fr, h.row.past t1, h.fr, IMap.made w, fun k hk e => by have := WRow.lt h.row hk; omega, h.st.turn.size⟩
theorem OrM.put (h : OrM w0 w ca cb m La Lb v xs M) {p : Wt} (hno : hasW M p.t = false) (hl : M.length ≤ 1000) (ht : fit p.t) (hd : fit p.d) :
    ∃ w', Sem.run Try.prog (Instr.mapUpdate 62 (.map (some m)) (.int .i64 p.t) (.int .i64 p.d)) w = .ok () w' ∧ OrM w0 w' ca cb m La Lb v xs (M ++ [p]) := by
  obtain ⟨w', h1, h2, h3⟩ := h.mp.put (by unfold maxLen; omega) p.t p.d ht hd
  refine ⟨w', h1, h.st.more (h3.mono (fun _ hk => .inl (.inr hk))) (fun k hk => .inl hk) (fun k hk => by rcases hk with hk | rfl; exact h.fr k hk; exact h.frm), h.row.kept h3 (fun k hk => h.ne k hk), h.fr, ?_, h.ne, h.frm⟩
  rw [dF_push hno, List.length_append]
  rw [wt_has] at hno
  rw [hno, if_neg (by simp)] at h2
  exact h2
theorem OrM.del (h : OrM w0 w ca cb m La Lb v xs M) (hn : WtNod M) {p : Wt} (hp : p ∈ M) (ht : fit p.t) :
    ∃ w', (∀ ty, Sem.run Try.prog (Builtin.delete_ #[62, 3] ty #[.map (some m), .int .i64 p.t]) w = .ok (.tuple #[]) w') ∧ OrM w0 w' ca cb m La Lb v xs (wDel M p.t) ∧ Turn (fun k => k = m) w w' := by
  obtain ⟨w', h1, h2, h3⟩ := h.mp.drop p.t ht 0
  refine ⟨w', fun ty => ?_, ⟨h.st.more (h3.mono (fun _ hk => .inl (.inr hk))) (fun k hk => .inl hk) (fun k hk => by rcases hk with hk | rfl; exact h.fr k hk; exact h.frm), h.row.kept h3 (fun k hk => h.ne k hk), h.fr, ?_, h.ne, h.frm⟩, h3⟩
  · exact h1
  · rw [dF_del, wDel_len hn hp]
    rw [dF_mem hn hp, if_pos (by rfl)] at h2
    exact h2
theorem OrM.look (h : OrM w0 w ca cb m La Lb v xs M) (hn : WtNod M) {p : Wt} (hp : p ∈ M) (ht : fit p.t) : Sem.run Try.prog (Instr.lookup 62 (.map (some m)) (.int .i64 p.t) true) w = .ok (.tuple #[.int .i64 p.d, .bool true]) w := by
  have := h.mp.look p.t ht
  rw [dF_mem hn hp] at this
  exact this
theorem OrM.deadline (h : OrM w0 w ca cb m La Lb v xs M) (hn : WtNod Lb) {p : Wt} (hp : p ∈ Lb) (ht : fit p.t) : Calls Try.prog 25 #[.pointer (some ⟨cb, 0, none⟩), .int .i64 p.t] w fun x w' => ∃ b, x = .returned (.tuple #[.int .i64 p.d, .bool b]) ∧ w = w' := by
  refine (h.st.deadlineB p.t ht).mono ?_
  rintro x w' ⟨rfl, rfl⟩
  rw [dlOf_mem hn hp]
  exact ⟨_, rfl, rfl⟩
theorem OrM.expire (h : OrM w0 w ca cb m La Lb v xs M) (hn : WtNod Lb) (now : Int) : Calls Try.prog 19 #[.pointer (some ⟨cb, 0, none⟩), .int .i64 now] w fun x w' => ∃ (u : Value) (D : List Wt), x = .returned u ∧ Late Lb D now ∧ KRow u (D.map woke) w' ∧ OrM w0 w' ca cb m La (Lb.filter (fun a => !decide (a.d ≤ now))) v xs M ∧ ∀ k, Blk u k → k ≠ m := by
  refine (h.st.expireB now).mono ?_
  rintro x w' ⟨u, D, rfl, h1, h2, h3, h4, ⟨Z, t, hZ⟩, h6⟩
  have hm := IMap.lt h.mp
  exact ⟨u, D, rfl, ⟨h1, h2, hn⟩, h3, ⟨h4, h.row.kept t (fun k hk => hZ k (.inl hk)), h.fr, h.mp.kept t (hZ m (.inr rfl)), h.ne, h.frm⟩, fun k hk => by have := h6 k hk; omega⟩
theorem OrM.count (h : OrM w0 w ca cb m La Lb v xs M) : Calls Try.prog 27 #[.pointer (some ⟨cb, 0, none⟩)] w fun x w' => x = .returned (.int .i64 (Lb.length : Int)) ∧ w = w' := h.st.countB
end
end Go.Proofs.Ytabakjimlndhcaa
