/-
  WaitsOnce's state: the waits, and the law's map of who lives. No walk, no conditions.
-/
import Derived.Test.YtfdbdfhgekiffaaBEnt
namespace Go.Proofs.Ytfdbdfhgekiffaa
open Go.ChangeShapes Go.WideShapes Go.ChangeAt Go.RowKit Go.Maps Go.Shelf

/-- Who lives by the law's map. -/
structure Lv where
  a : Wt
  v : Value
def Lv.e (p : Lv) : Value := entA p.a.d p.v
def lvF (M : List Lv) : Int → Option Value := fun t => (M.find? (fun p => p.a.t == t)).map Lv.e
def lvL (M : List Lv) : List Wt := M.map Lv.a
def lvDel (M : List Lv) (t : Int) : List Lv := M.filter (fun p => p.a.t != t)
structure LvOk (w0 : World) (p : Lv) : Prop where
  rd : RdIt w0 p.v p.a.its
  pos : 0 < p.a.its.length
  len : p.a.its.length ≤ 12
  t : fit p.a.t
  d : fit p.a.d
def LvNod (M : List Lv) : Prop := (M.map (fun p => p.a.t)).Nodup
theorem lv_has {M : List Lv} {t : Int} : hasW (lvL M) t = (lvF M t).isSome := by
  unfold hasW lvL lvF
  rw [List.any_map, Option.isSome_map]
  rw [Bool.eq_iff_iff, List.any_eq_true, List.find?_isSome]
  rfl
theorem lvF_push {M : List Lv} {p : Lv} (h : hasW (lvL M) p.a.t = false) : lvF (M ++ [p]) = updI (lvF M) p.a.t (some p.e) := by
  funext j
  unfold updI lvF
  rw [List.find?_append]
  by_cases hj : j = p.a.t
  · subst hj
    rw [lv_has] at h
    unfold lvF at h
    rw [Option.isSome_map] at h
    have : M.find? (fun q => q.a.t == p.a.t) = none := by
      cases hf : M.find? (fun q => q.a.t == p.a.t) with
      | none => rfl
      | some q => rw [hf] at h; cases h
    rw [this]
    simp
  · rw [if_neg hj]
    have : (p.a.t == j) = false := by simp; exact fun e => hj e.symm
    simp [this]
theorem lvF_del (M : List Lv) (t : Int) : lvF (lvDel M t) = updI (lvF M) t none := by
  funext j
  unfold updI lvF lvDel
  rw [List.find?_filter]
  by_cases hj : j = t
  · subst hj
    rw [if_pos rfl]
    have : M.find? (fun p => decide ((p.a.t != j) = true ∧ (p.a.t == j) = true)) = none := by
      rw [List.find?_eq_none]
      intro p _
      simp
    rw [this]
    rfl
  · rw [if_neg hj]
    congr 2
    funext p
    by_cases hp : p.a.t = j
    · simp [hp, hj]
    · simp [hp]
theorem lvF_mem {M : List Lv} (h : LvNod M) {p : Lv} (hp : p ∈ M) : lvF M p.a.t = some p.e := by
  induction M with
  | nil => cases hp
  | cons q M ih =>
    unfold LvNod at h
    rw [List.map_cons, List.nodup_cons] at h
    unfold lvF
    rcases List.mem_cons.1 hp with rfl | hp
    · simp
    · have hne : q.a.t ≠ p.a.t := fun e => h.1 (e ▸ List.mem_map_of_mem (f := fun p : Lv => p.a.t) hp)
      have : (q.a.t == p.a.t) = false := by simpa using hne
      rw [List.find?_cons, this]
      exact ih h.2 hp
theorem lvDel_len {M : List Lv} (h : LvNod M) {p : Lv} (hp : p ∈ M) : (lvDel M p.a.t).length = M.length - 1 := by
  induction M with
  | nil => cases hp
  | cons q M ih =>
    unfold LvNod at h
    rw [List.map_cons, List.nodup_cons] at h
    unfold lvDel
    by_cases e : q.a.t = p.a.t
    · have hq : (q.a.t != p.a.t) = false := by simp [e]
      rw [List.filter_cons, hq]
      have : M.filter (fun x => x.a.t != p.a.t) = M := by
        refine List.filter_eq_self.2 (fun x hx => ?_)
        have : x.a.t ≠ p.a.t := fun e2 => h.1 (by rw [e, ← e2]; exact List.mem_map_of_mem (f := fun p : Lv => p.a.t) hx)
        simpa using this
      rw [if_neg (by simp), this]
      rfl
    · have hq : (q.a.t != p.a.t) = true := by simpa using e
      rw [List.filter_cons, hq, if_pos rfl]
      rcases List.mem_cons.1 hp with rfl | hp
      · exact absurd rfl e
      · have h2 := ih h.2 hp
        have h3 := List.length_pos_of_mem hp
        unfold lvDel at h2
        simp only [List.length_cons]
        omega
theorem LvNod.del {M : List Lv} (h : LvNod M) (t : Int) : LvNod (lvDel M t) := List.Nodup.sublist (List.Sublist.map _ List.filter_sublist) h

structure OnS (w0 w : World) (c m : Nat) (L : List Wt) (M : List Lv) : Prop where
  st : WSt w0 w c 50 L (fun k => k = m)
  mp : EMap w m (lvF M) M.length
  nod : LvNod M
  ok : ∀ p ∈ M, LvOk w0 p
  len : M.length ≤ 50
  fr : w0.heap.size ≤ m
section
variable {w0 w w' : World} {c m : Nat} {L L' : List Wt} {M : List Lv}
theorem OnS.past (h : OnS w0 w c m L M) (t : Turn NoBlock w w') : OnS w0 w' c m L M := ⟨h.st.past t, h.mp.past t, h.nod, h.ok, h.len, h.fr⟩
theorem OnS.call (h : OnS w0 w c m L M) (s : WSt w0 w' c 50 L' (fun k => k = m)) (k : Kp (fun k => k = m) w w') : OnS w0 w' c m L' M := by
  obtain ⟨F, t, hF⟩ := k
  exact ⟨s, h.mp.kept t (hF m rfl), h.nod, h.ok, h.len, h.fr⟩
theorem on_new {c : Nat} {w1 : World} (h : WSt w0 w1 c 50 [] NoBlock) : OnS w0 (w1.alloc (.map #[] 0)) c w1.heap.size [] [] :=
  ⟨h.more ((Turn.refl _ _).alloc _) (fun k hk => .inr (by subst hk; simp)) (fun k hk => hk.elim), EMap.made w1, List.nodup_nil, (fun p hp => by cases hp), by simp, h.turn.size⟩
/-- Beside the box of one call. -/
structure OnR (w0 w : World) (c m B : Nat) (O : Obj) (L : List Wt) (M : List Lv) : Prop where
  st : WSt w0 w c 50 L (fun k => k = m ∨ k = B)
  mp : EMap w m (lvF M) M.length
  nod : LvNod M
  ok : ∀ p ∈ M, LvOk w0 p
  len : M.length ≤ 50
  fr : w0.heap.size ≤ m
  box : w.heap[B]? = some O
  ne : B ≠ m
  frB : w0.heap.size ≤ B
theorem OnR.past {B : Nat} {O : Obj} (h : OnR w0 w c m B O L M) (t : Turn NoBlock w w') : OnR w0 w' c m B O L M := ⟨h.st.past t, h.mp.past t, h.nod, h.ok, h.len, h.fr, t.heap h.box (fun h => h), h.ne, h.frB⟩
theorem OnS.boxed (h : OnS w0 w c m L M) (O : Obj) : OnR w0 (w.alloc O) c m w.heap.size O L M :=
  ⟨h.st.more ((Turn.refl _ _).alloc _) (fun _ hk => hk.imp id (fun e => by subst e; simp)) (fun k hk => by subst hk; exact h.fr), h.mp.past ((Turn.refl _ _).alloc _), h.nod, h.ok, h.len, h.fr, heap_alloc_new w O, fun e => by have := h.mp.lt; omega, h.st.turn.size⟩
theorem OnR.unbox {B : Nat} {O : Obj} (h : OnR w0 w c m B O L M) : OnS w0 w c m L M := ⟨h.st.fewer (fun _ hk => .inl hk), h.mp, h.nod, h.ok, h.len, h.fr⟩
theorem OnR.call {B : Nat} {O : Obj} (h : OnR w0 w c m B O L M) (s : WSt w0 w' c 50 L' (fun k => k = m ∨ k = B)) (k : Kp (fun k => k = m ∨ k = B) w w') : OnR w0 w' c m B O L' M := by
  obtain ⟨F, t, hF⟩ := k
  exact ⟨s, h.mp.kept t (hF m (.inl rfl)), h.nod, h.ok, h.len, h.fr, t.heap h.box (hF B (.inr rfl)), h.ne, h.frB⟩
theorem OnR.put {B : Nat} {O : Obj} {t d : Int} {its : List It} (h : OnR w0 w c m B O (lvL M ++ [⟨t, d, its⟩]) M) {v : Value} (hno : hasW (lvL M) t = false) (hr : RdIt w0 v its) (hp : 0 < its.length) (hl : its.length ≤ 12) (ht : fit t) (hd : fit d) :
    ∃ w', Sem.run Try.prog (Instr.mapUpdate 60 (.map (some m)) (.int .i64 t) (entA d v)) w = .ok () w' ∧ OnR w0 w' c m B O (lvL (M ++ [⟨⟨t, d, its⟩, v⟩])) (M ++ [⟨⟨t, d, its⟩, v⟩]) := by
  have hll := h.st.len
  have hlen : M.length + 1 ≤ 50 := by
    unfold lvL at hll
    rw [List.length_append, List.length_map] at hll
    simp at hll
    omega
  obtain ⟨w', h1, h2, h3⟩ := h.mp.put (by unfold maxLen; omega) ht (hr.se d hp)
  refine ⟨w', h1, ?_, ?_, ?_, fun p hq => ?_, by rw [List.length_append]; exact hlen, h.fr, h3.heap h.box h.ne, h.ne, h.frB⟩
  · have := h.st.more (h3.mono (fun _ hk => .inl (.inl hk))) (Y := fun k => k = m ∨ k = B) (fun k hk => .inl hk) (fun k hk => by rcases hk with rfl | rfl; exact h.fr; exact h.frB)
    unfold lvL at this ⊢
    rw [List.map_append]
    exact this
  · have e := lvF_push (M := M) (p := ⟨⟨t, d, its⟩, v⟩) hno
    rw [e, List.length_append]
    rw [lv_has] at hno
    rw [hno, if_neg (by simp)] at h2
    exact h2
  · unfold LvNod
    rw [List.map_append, List.nodup_append]
    refine ⟨h.nod, by simp, fun x hx y hy e => ?_⟩
    simp at hy
    subst hy e
    obtain ⟨q, hq, hqx⟩ := List.mem_map.1 hx
    unfold hasW lvL at hno
    rw [List.any_map, List.any_eq_false] at hno
    have := hno q hq
    simp [hqx] at this
  · rcases List.mem_append.1 hq with hq | hq
    · exact h.ok p hq
    · rw [List.mem_singleton] at hq
      subst hq
      exact ⟨hr, hp, hl, ht, hd⟩
theorem OnR.del {B : Nat} {O : Obj} (h : OnR w0 w c m B O L M) {p : Lv} (hp : p ∈ M) : ∃ w', (∀ ty, Sem.run Try.prog (Builtin.delete_ #[60, 3] ty #[.map (some m), .int .i64 p.a.t]) w = .ok (.tuple #[]) w') ∧ OnR w0 w' c m B O L (lvDel M p.a.t) ∧ Turn (fun k => k = m) w w' := by
  have ht := (h.ok p hp).t
  obtain ⟨w', h1, h2, h3⟩ := h.mp.drop ht 0
  refine ⟨w', fun ty => ?_, ⟨h.st.more (h3.mono (fun _ hk => .inl (.inl hk))) (fun k hk => .inl hk) (fun k hk => by rcases hk with rfl | rfl; exact h.fr; exact h.frB), ?_, h.nod.del _, fun q hq => h.ok q (List.mem_filter.1 hq).1, ?_, h.fr, h3.heap h.box h.ne, h.ne, h.frB⟩, h3⟩
  · exact h1
  · rw [lvF_del, lvDel_len h.nod hp]
    rw [lvF_mem h.nod hp, if_pos (by rfl)] at h2
    exact h2
  · have := lvDel_len h.nod hp
    have := h.len
    omega
theorem OnR.look {B : Nat} {O : Obj} (h : OnR w0 w c m B O L M) {p : Lv} (hp : p ∈ M) : Sem.run Try.prog (Instr.lookup 60 (.map (some m)) (.int .i64 p.a.t) true) w = .ok (.tuple #[entA p.a.d p.v, .bool true]) w := by
  have := h.mp.look2 (h.ok p hp).t
  rw [lvF_mem h.nod hp] at this
  exact this
end
/-- What a call's answer W says of those who waited, L, and who is left, L'. -/
structure Wok (kind ob n : Int) (L : List Wt) (W : List Wk) (L' : List Wt) : Prop where
  nod : (W.map Wk.t).Nodup
  each : ∀ x ∈ W, ∃ a ∈ L, a.t = x.t ∧ (kind = 3 → a.d ≤ n) ∧ (kind ≠ 3 → ∃ (k : Nat) (i : It), x.k = (k : Int) ∧ a.its[k]? = some i ∧ i.o = ob ∧ (kind = 2 → meetB i.m n = true))
  left : L' = L.filter (fun a => !(W.map Wk.t).contains a.t)
  due : kind = 3 → ∀ a ∈ L', n < a.d
theorem wok_nil {kind ob n : Int} (L : List Wt) (h : kind ≠ 3) : Wok kind ob n L [] L :=
  ⟨List.nodup_nil, (fun x hx => by cases hx), (List.filter_eq_self.2 (fun a _ => by simp)).symm, fun e => absurd e h⟩
/-- Who is picked out by q, in some order. -/
theorem pick_left {L : List Wt} (hL : (L.map Wt.t).Nodup) {q : Wt → Bool} {ts : List Int} (h : ts.Perm ((L.filter q).map Wt.t)) : ts.Nodup ∧ L.filter (fun a => !q a) = L.filter (fun a => !ts.contains a.t) := by
  refine ⟨h.nodup_iff.2 (List.Nodup.sublist (List.Sublist.map _ List.filter_sublist) hL), List.filter_congr (fun a ha => ?_)⟩
  congr 1
  rw [Bool.eq_iff_iff, List.contains_iff_mem, h.mem_iff, List.mem_map]
  constructor
  · intro hq
    exact ⟨a, List.mem_filter.2 ⟨ha, hq⟩, rfl⟩
  · rintro ⟨b, hb, e⟩
    obtain ⟨hb1, hb2⟩ := List.mem_filter.1 hb
    have : a = b := by
      obtain ⟨A, B, rfl⟩ := List.append_of_mem ha
      rw [List.map_append, List.map_cons] at hL
      obtain ⟨_, n2, n3⟩ := List.nodup_append.1 hL
      rcases List.mem_append.1 hb1 with h1 | h1
      · exact absurd e (n3 _ (List.mem_map_of_mem h1) _ List.mem_cons_self)
      · rcases List.mem_cons.1 h1 with h1 | h1
        · exact h1.symm
        · exact absurd (e ▸ List.mem_map_of_mem h1) (List.nodup_cons.1 n2).1
    exact this ▸ hb2
theorem wk_ts (P : Int → Bool) (o s f : Int) (L : List Wt) : (L.filterMap (wkA P o s f)).map Wk.t = (L.filter (fun a => !keepA P o a)).map Wt.t := by
  induction L with
  | nil => rfl
  | cons a L ih =>
    rw [List.filterMap_cons, List.filter_cons]
    cases hf : fitI P o a.its with
    | none =>
      rw [show wkA P o s f a = none by unfold wkA; rw [hf]; rfl, show keepA P o a = true by unfold keepA; rw [hf]; rfl]
      exact ih
    | some k =>
      rw [show wkA P o s f a = some ⟨a.t, (k : Int), s, f⟩ by unfold wkA; rw [hf]; rfl, show keepA P o a = false by unfold keepA; rw [hf]; rfl]
      show a.t :: _ = a.t :: _
      rw [ih]
theorem wok_wake {P : Int → Bool} {kind ob n s f : Int} {L : List Wt} (hL : (L.map Wt.t).Nodup) (h3 : kind ≠ 3) (hP : kind = 2 → ∀ m, P m = true → meetB m n = true) : Wok kind ob n L (L.filterMap (wkA P ob s f)) (L.filter (keepA P ob)) := by
  obtain ⟨h1, h2⟩ := pick_left hL (q := fun a => !keepA P ob a) (List.Perm.of_eq (wk_ts P ob s f L))
  simp only [Bool.not_not] at h2
  refine ⟨h1, fun x hx => ?_, h2, fun e => absurd e h3⟩
  obtain ⟨a, ha, hw⟩ := List.mem_filterMap.1 hx
  obtain ⟨k, hk, rfl⟩ : ∃ k : Nat, fitI P ob a.its = some k ∧ x = ⟨a.t, (k : Int), s, f⟩ := by
    unfold wkA at hw
    cases hf : fitI P ob a.its with
    | none => rw [hf] at hw; cases hw
    | some k =>
      rw [hf] at hw
      exact ⟨k, rfl, (Option.some.inj hw).symm⟩
  refine ⟨a, ha, rfl, fun e => absurd e h3, fun _ => ?_⟩
  unfold fitI at hk
  rw [List.findIdx?_eq_some_iff_getElem] at hk
  obtain ⟨hkl, hp, -⟩ := hk
  simp only [Bool.and_eq_true, beq_iff_eq] at hp
  exact ⟨k, _, rfl, List.getElem?_eq_getElem hkl, hp.1, fun e => hP e _ hp.2⟩
theorem wok_exp {ob n : Int} {L D : List Wt} (hL : (L.map Wt.t).Nodup) (hp : D.Perm (L.filter (fun a => decide (a.d ≤ n)))) : Wok 3 ob n L (D.map woke) (L.filter (fun a => !decide (a.d ≤ n))) := by
  have e : (D.map woke).map Wk.t = D.map Wt.t := by rw [List.map_map]; rfl
  obtain ⟨h1, h2⟩ := pick_left hL (q := fun a => decide (a.d ≤ n)) (e ▸ hp.map Wt.t)
  refine ⟨h1, fun x hx => ?_, h2, fun _ a ha => ?_⟩
  · obtain ⟨a, ha, rfl⟩ := List.mem_map.1 hx
    have := List.mem_filter.1 (hp.mem_iff.1 ha)
    exact ⟨a, this.1, rfl, fun _ => by simpa using this.2, fun h => absurd rfl h⟩
  · have := (List.mem_filter.1 ha).2
    simp at this
    omega
/-- After a call: the answer v, its row W. -/
structure OnC (w0 w : World) (c m B : Nat) (O : Obj) (kind ob n : Int) (v : Value) (M : List Lv) (W : List Wk) (L' : List Wt) : Prop where
  wok : Wok kind ob n (lvL M) W L'
  row : KRow v W w
  fr : ∀ k, Blk v k → k ≠ m
  s : OnR w0 w c m B O L' M
/-- Who lives when j of the answer are done. -/
def lvJ (M : List Lv) (W : List Wk) (j : Nat) : List Lv := M.filter (fun p => !((W.take j).map Wk.t).contains p.a.t)
theorem lvJ_zero (M : List Lv) (W : List Wk) : lvJ M W 0 = M := List.filter_eq_self.2 (fun a _ => by simp)
theorem lvJ_next (M : List Lv) {W : List Wk} {j : Nat} {x : Wk} (hx : W[j]? = some x) : lvDel (lvJ M W j) x.t = lvJ M W (j + 1) := by
  unfold lvDel lvJ
  rw [List.filter_filter]
  refine List.filter_congr (fun p _ => ?_)
  rw [List.take_add_one, hx]
  by_cases h : p.a.t = x.t
  · simp [h]
  · simp [h]
theorem lvL_nodup {M : List Lv} (h : LvNod M) : ((lvL M).map Wt.t).Nodup := by
  unfold lvL
  rw [List.map_map]
  exact h
theorem lvJ_end {kind ob n : Int} {M : List Lv} {W : List Wk} {L' : List Wt} (h : Wok kind ob n (lvL M) W L') : lvL (lvJ M W W.length) = L' := by
  rw [h.left]
  unfold lvL lvJ
  rw [List.take_length, List.filter_map]
  rfl
/-- One of the answer. -/
theorem lv_step {kind ob n : Int} {M : List Lv} {W : List Wk} {L' : List Wt} (h : Wok kind ob n (lvL M) W L') {j : Nat} {x : Wk} (hx : W[j]? = some x) :
    ∃ p ∈ lvJ M W j, p.a.t = x.t ∧ (kind = 3 → p.a.d ≤ n) ∧ (kind ≠ 3 → ∃ (k : Nat) (i : It), x.k = (k : Int) ∧ p.a.its[k]? = some i ∧ i.o = ob ∧ (kind = 2 → meetB i.m n = true)) := by
  obtain ⟨a, ha, h1, h2, h3⟩ := h.each x (List.mem_of_getElem? hx)
  obtain ⟨p, hp, rfl⟩ := List.mem_map.1 ha
  refine ⟨p, List.mem_filter.2 ⟨hp, ?_⟩, h1, h2, h3⟩
  rw [h1]
  have hn := h.nod
  obtain ⟨hj, he⟩ := List.getElem?_eq_some_iff.1 hx
  simp only [Bool.not_eq_true', ← Bool.not_eq_true, List.contains_iff_mem]
  intro hm
  obtain ⟨y, hy, hyx⟩ := List.mem_map.1 hm
  obtain ⟨i, hi, hyi⟩ := List.getElem_of_mem hy
  rw [List.getElem_take] at hyi
  rw [List.length_take] at hi
  have := (List.getElem_inj (i := i) (j := j) (h₀ := by rw [List.length_map]; omega) (h₁ := by rw [List.length_map]; exact hj) hn).1 (by rw [List.getElem_map, List.getElem_map, hyi, he, hyx])
  omega
section
variable {w0 w w' : World} {c m B : Nat} {O : Obj} {kind ob n : Int} {L L' : List Wt} {M : List Lv}
theorem onc_nil (h : OnR w0 w c m B O (lvL M) M) (hk : kind ≠ 3) : OnC w0 w c m B O kind ob n (.slice none 0 0) M [] (lvL M) := ⟨wok_nil _ hk, wrow_nil _ _ _, (fun k hk => (blk_nil k hk).elim), h⟩
theorem OnR.block (h : OnR w0 w c m B O (lvL M) M) (t d : Int) {v : Value} {its : List It} (hr : IRow v its w) (hn : its.length ≤ 12) (ht : fit t) (hd : fit d) (hi : ∀ i ∈ its, fit i.o ∧ fit i.m) :
    Calls Try.prog 11 #[.pointer (some ⟨c, 0, none⟩), .int .i64 t, .int .i64 d, v] w fun x w' => x = .returned (.int .i64 (blkS 50 (lvL M) t its)) ∧ OnR w0 w' c m B O (blkL 50 (lvL M) t d its) M :=
  (h.st.block t d v its hr (by omega) ht hd hi).mono (fun _ _ hh => ⟨hh.1, h.call hh.2.1 hh.2.2⟩)
/-- Block's answer 0. -/
theorem blk_ok {t : Int} {its : List It} (h : blkS 50 L t its = 0) (d : Int) : blkL 50 L t d its = L ++ [⟨t, d, its⟩] ∧ hasW L t = false ∧ 0 < its.length := by
  refine ⟨by unfold blkL; rw [if_pos h], ?_, ?_⟩
  · cases hb : hasW L t with
    | false => rfl
    | true =>
      unfold blkS at h
      rw [hb] at h
      split at h
      · omega
      · simp at h
  · cases hb : posB its with
    | true => have := (of_decide_eq_true hb).1; omega
    | false =>
      unfold blkS at h
      rw [hb, if_pos (.inr rfl)] at h
      omega
theorem OnR.tell (h : OnR w0 w c m B O (lvL M) M) (ob n : Int) (ho : fit ob) (hk : kind = 2) : Calls Try.prog 14 #[.pointer (some ⟨c, 0, none⟩), .int .i64 ob, .int .i64 n] w fun x w' => ∃ v W L', x = .returned v ∧ OnC w0 w' c m B O kind ob n v M W L' := by
  refine (h.st.tell ob n ho).mono ?_
  rintro x w' ⟨v, rfl, h1, h2, h3, h4⟩
  exact ⟨v, _, _, rfl, wok_wake (lvL_nodup h.nod) (by omega) (fun _ _ hm => hm), h1, fun k hb => by have := h4 k hb; have := h.mp.lt; omega, h.call h2 h3⟩
theorem OnR.cancel (h : OnR w0 w c m B O (lvL M) M) (ob n : Int) (ho : fit ob) (hk : kind = 4) : Calls Try.prog 18 #[.pointer (some ⟨c, 0, none⟩), .int .i64 ob] w fun x w' => ∃ v W L', x = .returned v ∧ OnC w0 w' c m B O kind ob n v M W L' := by
  refine (h.st.cancel ob ho).mono ?_
  rintro x w' ⟨v, rfl, h1, h2, h3, h4⟩
  exact ⟨v, _, _, rfl, wok_wake (lvL_nodup h.nod) (by omega) (fun e => by omega), h1, fun k hb => by have := h4 k hb; have := h.mp.lt; omega, h.call h2 h3⟩
theorem OnR.expire (h : OnR w0 w c m B O (lvL M) M) (ob n : Int) (hk : kind = 3) : Calls Try.prog 16 #[.pointer (some ⟨c, 0, none⟩), .int .i64 n] w fun x w' => ∃ v W L', x = .returned v ∧ OnC w0 w' c m B O kind ob n v M W L' := by
  subst hk
  refine (h.st.expire n).mono ?_
  rintro x w' ⟨v, D, rfl, hp, -, h1, h2, h3, h4⟩
  exact ⟨v, _, _, rfl, wok_exp (lvL_nodup h.nod) hp, h1, fun k hb => by have := h4 k hb; have := h.mp.lt; omega, h.call h2 h3⟩
end
end Go.Proofs.Ytfdbdfhgekiffaa
