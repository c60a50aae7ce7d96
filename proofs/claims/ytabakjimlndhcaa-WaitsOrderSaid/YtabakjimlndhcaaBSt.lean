/-
  A law's state: behind w0 waits of the list L in blocks of their own, and every call in that state. No conditions but that numbers are of 64 bits and items can be read.
-/
import Derived.Test.YtabakjimlndhcaaBForget
namespace Go.Proofs.Ytabakjimlndhcaa
open Go.ChangeShapes Go.WideShapes Go.ChangeAt Go.RowKit Go.Shelf

/-- The blocks of X are as they were. -/
def Kp (X : Nat → Prop) (w w' : World) : Prop := ∃ F, Turn F w w' ∧ ∀ k, X k → ¬ F k
theorem Kp.row {X : Nat → Prop} {w w' : World} {e size n : Nat} {v : Value} {xs : List Value} (h : Kp X w w') (hr : WRow w e size v n xs) (hv : ∀ k, Blk v k → X k) : WRow w' e size v n xs := by
  obtain ⟨F, t, hF⟩ := h
  exact hr.kept t (fun k hk => hF k (hv k hk))
theorem Kp.heap {X : Nat → Prop} {w w' : World} {k : Nat} {o : Obj} (h : Kp X w w') (hk : w.heap[k]? = some o) (hx : X k) : w'.heap[k]? = some o := by
  obtain ⟨F, t, hF⟩ := h
  exact t.heap hk (hF k hx)
theorem Kp.cell {X : Nat → Prop} {w w' : World} {p : Addr} {v : Value} (h : Kp X w w') (hc : w.cell? p = some v) (hx : X p.block) : w'.cell? p = some v := by
  obtain ⟨F, t, hF⟩ := h
  exact t.cell hc (hF _ hx)
theorem Kp.size {X : Nat → Prop} {w w' : World} (h : Kp X w w') : w.heap.size ≤ w'.heap.size := by
  obtain ⟨F, t, _⟩ := h
  exact t.size
theorem Kp.of_past {X : Nat → Prop} {w w' : World} (t : Turn NoBlock w w') : Kp X w w' := ⟨_, t, fun _ _ h => h⟩
theorem Kp.trans {X : Nat → Prop} {a b c : World} (h : Kp X a b) (k : Kp X b c) (hX : ∀ i, X i → i < a.heap.size) : Kp X a c := by
  obtain ⟨F, t, hF⟩ := h
  obtain ⟨F', t', hF'⟩ := k
  refine ⟨fun i => F i ∨ F' i ∨ a.heap.size ≤ i, (t.mono (fun i hi => .inl (.inl hi))).trans t' (fun i hi => .inl (.inr (.inl hi))), fun i hi h => ?_⟩
  rcases h with h | h | h
  · exact hF i hi h
  · exact hF' i hi h
  · have := hX i hi; omega
theorem Kp.mono {X Y : Nat → Prop} {w w' : World} (h : Kp X w w') (hY : ∀ k, Y k → X k) : Kp Y w w' := by
  obtain ⟨F, t, hF⟩ := h
  exact ⟨F, t, fun k hk => hF k (hY k hk)⟩

structure WSt (w0 w : World) (c : Nat) (most : Int) (L : List Wt) (X : Nat → Prop) : Prop where
  ex : ∃ tm lm G r K, WM w c most tm lm G r K ∧ G.map Gw.a = L ∧ (∀ k, GFoot c tm lm G r K k → w0.heap.size ≤ k) ∧ ∀ k, X k → k < w.heap.size ∧ ¬ GFoot c tm lm G r K k
  len : (L.length : Int) ≤ most
  most : 0 ≤ most ∧ most ≤ 65536
  turn : Turn NoBlock w0 w
def hasW (L : List Wt) (t : Int) : Bool := L.any (fun a => a.t == t)
def blkS (most : Int) (L : List Wt) (t : Int) (its : List It) : Int := if t < 0 ∨ posB its = false then -10 else if hasW L t = true then -26 else if (L.length : Int) = most then -4 else 0
def blkL (most : Int) (L : List Wt) (t d : Int) (its : List It) : List Wt := if blkS most L t its = 0 then L ++ [⟨t, d, its⟩] else L
def frgS (L : List Wt) (t : Int) : Int := if hasW L t = true then 0 else -25
def frgL (L : List Wt) (t : Int) : List Wt := L.filter (fun a => a.t != t)
def keepA (P : Int → Bool) (o : Int) (a : Wt) : Bool := (fitI P o a.its).isNone
def dlOf (L : List Wt) (t : Int) : Int := ((L.find? (fun a => a.t == t)).map Wt.d).getD 0
theorem hasW_map (G : List Gw) (t : Int) : hasW (G.map Gw.a) t = (thr G t).isSome := by
  rw [thr_any]
  unfold hasW
  rw [List.any_map]
  rfl
section
variable {w0 w w' : World} {c : Nat} {most : Int} {L L' : List Wt} {X Y : Nat → Prop} {tm lm : Nat} {G G' : List Gw} {r r' : Int → Nat} {K K' : List Int}
theorem WSt.same (h : WSt w0 w c most L X) (e : L = L') : WSt w0 w c most L' X := e ▸ h
theorem WSt.past (h : WSt w0 w c most L X) (t : Turn NoBlock w w') : WSt w0 w' c most L X := by
  obtain ⟨tm, lm, G, r, K, h1, h2, h4, h5⟩ := h.ex
  exact ⟨⟨tm, lm, G, r, K, h1.past t, h2, h4, fun k hk => ⟨Nat.lt_of_lt_of_le (h5 k hk).1 t.size, (h5 k hk).2⟩⟩, h.len, h.most, h.turn.trans t (fun _ h => .inl h)⟩
theorem WSt.fewer (h : WSt w0 w c most L X) (hY : ∀ k, Y k → X k) : WSt w0 w c most L Y := by
  obtain ⟨tm, lm, G, r, K, h1, h2, h4, h5⟩ := h.ex
  exact ⟨⟨tm, lm, G, r, K, h1, h2, h4, fun k hk => h5 k (hY k hk)⟩, h.len, h.most, h.turn⟩
theorem WSt.more (h : WSt w0 w c most L X) (t : Turn X w w') (hY : ∀ k, Y k → X k ∨ (w.heap.size ≤ k ∧ k < w'.heap.size)) (hX : ∀ k, X k → w0.heap.size ≤ k) : WSt w0 w' c most L Y := by
  obtain ⟨tm, lm, G, r, K, h1, h2, h4, h5⟩ := h.ex
  refine ⟨⟨tm, lm, G, r, K, h1.kept t (fun k hk hx => (h5 k hx).2 hk), h2, h4, fun k hk => ?_⟩, h.len, h.most, h.turn.trans t (fun k hk => .inr (hX k hk))⟩
  rcases hY k hk with h6 | h6
  · exact ⟨Nat.lt_of_lt_of_le (h5 k h6).1 t.size, (h5 k h6).2⟩
  · exact ⟨h6.2, fun hh => by have := h1.mem.lt hh; omega⟩
/-- No block of another element type is of the waits'. -/
theorem GMem.other {nT : Nat} {T : Int → Option Nat} (h : GMem w c most tm lm T nT G r K) {k : Nat} {e : TypeId} (hk : TBlk w k e) (he : e ≠ 98 ∧ e ≠ 106 ∧ e ≠ 40 ∧ e ≠ 145 ∧ e ≠ 149) : ¬ GFoot c tm lm G r K k := by
  rintro (rfl | rfl | rfl | ⟨g, hg, rfl | hb | hb | ⟨n, p, hp, rfl⟩⟩ | ⟨n, hn, rfl⟩)
  · exact (hk.unlike h.ct he.1) rfl
  · exact h.tmap.no_cells hk
  · exact h.lmap.no_cells hk
  · exact (hk.unlike (h.obj g hg).xt he.2.1) rfl
  · exact (hk.unlike (WRow.typed (h.obj g hg).items hb) he.2.2.1) rfl
  · exact (hk.unlike (WRow.typed (h.obj g hg).places hb) he.2.2.2.1) rfl
  · exact (hk.unlike ((h.obj g hg).pls n k hp).typ he.2.2.2.2) rfl
  · exact (hk.unlike (h.ring n hn).typ he.2.2.2.2) rfl
/-- A row of another element type lies beside. -/
theorem WSt.beside (h : WSt w0 w c most L X) {e size n : Nat} {v : Value} {xs : List Value} (hr : WRow w e size v n xs) (he : e ≠ 98 ∧ e ≠ 106 ∧ e ≠ 40 ∧ e ≠ 145 ∧ e ≠ 149) : WSt w0 w c most L (fun k => X k ∨ Blk v k) := by
  obtain ⟨tm, lm, G, r, K, h1, h2, h4, h5⟩ := h.ex
  refine ⟨⟨tm, lm, G, r, K, h1, h2, h4, fun k hk => ?_⟩, h.len, h.most, h.turn⟩
  rcases hk with hk | hk
  · exact h5 k hk
  · exact ⟨hr.lt hk, h1.mem.other (hr.typed hk) he⟩
/-- What a call has made. -/
theorem wst_made (h : WSt w0 w c most L X) (_h1 : WM w c most tm lm G r K) (h4 : ∀ k, GFoot c tm lm G r K k → w0.heap.size ≤ k) (h5 : ∀ k, X k → k < w.heap.size ∧ ¬ GFoot c tm lm G r K k)
    (m : WM w' c most tm lm G' r' K') (hL : G'.map Gw.a = L') (hl : (L'.length : Int) ≤ most) (hf : ∀ k, GFoot c tm lm G' r' K' k → GFoot c tm lm G r K k ∨ w.heap.size ≤ k) (t : Turn (GFoot c tm lm G r K) w w') : WSt w0 w' c most L' X ∧ Kp X w w' := by
  refine ⟨⟨⟨tm, lm, G', r', K', m, hL, fun k hk => ?_, fun k hk => ⟨Nat.lt_of_lt_of_le (h5 k hk).1 t.size, fun hh => ?_⟩⟩, hl, h.most, h.turn.trans t (fun k hk => .inr (h4 k hk))⟩, _, t, fun k hk => (h5 k hk).2⟩
  · rcases hf k hk with h7 | h7
    · exact h4 k h7
    · exact Nat.le_trans h.turn.size h7
  · rcases hf k hh with h7 | h7
    · exact (h5 k hk).2 h7
    · have := (h5 k hk).1; omega
theorem sub_foot (hG : ∀ g ∈ G', g ∈ G) (hK : ∀ n ∈ K', n ∈ K) {k : Nat} (hk : GFoot c tm lm G' r K' k) : GFoot c tm lm G r K k :=
  gfoot_sub (c := c) (tm := tm) (lm := lm) (r := r) (fun y hy => ⟨y, hG y hy, rfl, rfl, rfl, fun _ h => h⟩) hK hk
theorem wst_new (most : Int) (w : World) (h0 : 0 ≤ most) (h1 : most ≤ 65536) : Calls Try.prog 11 #[.int .i64 most] w fun x w' => ∃ c, x = .returned (.pointer (some ⟨c, 0, none⟩)) ∧ WSt w w' c most [] NoBlock ∧ w.heap.size ≤ c := by
  refine (new_yes most w h0 h1).mono ?_
  rintro e w' ⟨c, rfl, tm, lm, m, t, hc, ht, hl⟩
  refine ⟨c, rfl, ⟨⟨tm, lm, [], fun _ => 0, [], ⟨m, (fun n hn => by cases hn), (fun g hg => by cases hg), List.nodup_nil, Nat.zero_le _⟩, rfl, fun k hk => ?_, fun k hk => hk.elim⟩, h0, ⟨h0, h1⟩, t⟩, hc⟩
  rcases hk with rfl | rfl | rfl | ⟨g, hg, _⟩ | ⟨n, hn, _⟩
  · exact hc
  · exact ht
  · exact hl
  · cases hg
  · cases hn
theorem WSt.count (h : WSt w0 w c most L X) : Calls Try.prog 27 #[.pointer (some ⟨c, 0, none⟩)] w fun x w' => x = .returned (.int .i64 (L.length : Int)) ∧ w = w' := by
  obtain ⟨tm, lm, G, r, K, h1, rfl, -⟩ := h.ex
  rw [List.length_map]
  exact count_any h1.mem
theorem WSt.blocked (h : WSt w0 w c most L X) (t : Int) (ht : fit t) : Calls Try.prog 28 #[.pointer (some ⟨c, 0, none⟩), .int .i64 t] w fun x w' => x = .returned (.bool (hasW L t)) ∧ w = w' := by
  obtain ⟨tm, lm, G, r, K, h1, rfl, -⟩ := h.ex
  rw [hasW_map]
  exact blocked_any h1.mem t ht
theorem thr_find {G : List Gw} {t : Int} {g : Gw} (h : G.find? (fun g => g.a.t == t) = some g) : thr G t = some g.x := by
  unfold thr
  rw [h]
  rfl
theorem WSt.deadline (h : WSt w0 w c most L X) (t : Int) (ht : fit t) : Calls Try.prog 25 #[.pointer (some ⟨c, 0, none⟩), .int .i64 t] w fun x w' => x = .returned (.tuple #[.int .i64 (dlOf L t), .bool (hasW L t)]) ∧ w = w' := by
  obtain ⟨tm, lm, G, r, K, h1, rfl, -⟩ := h.ex
  rw [hasW_map]
  unfold dlOf
  rw [List.find?_map]
  cases hf : G.find? ((fun a => a.t == t) ∘ Gw.a) with
  | none =>
    have hT : thr G t = none := by
      unfold thr
      rw [show G.find? (fun g => g.a.t == t) = none from hf]
      rfl
    rw [hT]
    exact deadline_no h1.mem t ht hT
  | some g =>
    have hT := thr_find (G := G) (t := t) hf
    have hgt : g.a.t = t := by simpa using List.find?_some hf
    have hg := List.mem_of_find?_eq_some hf
    rw [hT]
    subst hgt
    exact deadline_yes h1.mem hg ht hT
theorem WSt.threads (h : WSt w0 w c most L X) : Calls Try.prog 26 #[.pointer (some ⟨c, 0, none⟩)] w fun x w' => ∃ v, x = .returned v ∧ Nums v (L.map Wt.t) w' ∧ Turn NoBlock w w' ∧ ∀ k, Blk v k → w.heap.size ≤ k := by
  obtain ⟨tm, lm, G, r, K, h1, rfl, -⟩ := h.ex
  refine (threads_any h1).mono ?_
  rintro e w' ⟨v, rfl, h2, h3, h4⟩
  exact ⟨v, rfl, by rw [List.map_map]; exact h2, h3, h4⟩
theorem WSt.block (h : WSt w0 w c most L X) (t d : Int) (v : Value) (its : List It) (hrow : IRow v its w) (hn : its.length ≤ 1000000000) (hf : fit t) (hd : fit d) (hfi : ∀ i ∈ its, fit i.o ∧ fit i.m) :
    Calls Try.prog 14 #[.pointer (some ⟨c, 0, none⟩), .int .i64 t, .int .i64 d, v] w fun x w' => x = .returned (.int .i64 (blkS most L t its)) ∧ WSt w0 w' c most (blkL most L t d its) X ∧ Kp X w w' := by
  obtain ⟨tm, lm, G, r, K, h1, h2, h4, h5⟩ := h.ex
  have hT : hasW L t = (thr G t).isSome := by rw [← h2]; exact hasW_map G t
  have hGl : G.length = L.length := by rw [← h2, List.length_map]
  unfold blkL blkS
  by_cases hno : t < 0 ∨ posB its = false
  · rw [if_pos hno, if_neg (by omega)]
    refine (block_possible t d v its hrow hn hno).mono ?_
    rintro e w' ⟨rfl, tt⟩
    exact ⟨rfl, h.past tt, Kp.of_past tt⟩
  · rw [if_neg hno]
    have ht : ¬ t < 0 := fun e => hno (.inl e)
    have hp : posB its = true := by
      cases hb : posB its with
      | true => rfl
      | false => exact absurd (.inr hb) hno
    by_cases hh : hasW L t = true
    · rw [if_pos hh, if_neg (by omega)]
      refine (block_there h1.mem t d v its hrow hn ht hp hf (by rw [← hT]; exact hh)).mono ?_
      rintro e w' ⟨rfl, tt⟩
      exact ⟨rfl, h.past tt, Kp.of_past tt⟩
    · rw [if_neg hh]
      have hTn : (thr G t).isSome = false := by
        rw [← hT]
        cases hb : hasW L t with
        | true => exact absurd hb hh
        | false => rfl
      by_cases hm : (L.length : Int) = most
      · rw [if_pos hm, if_neg (by omega)]
        refine (block_full h1.mem t d v its hrow hn ht hp hf hTn (by rw [hGl]; exact hm)).mono ?_
        rintro e w' ⟨rfl, tt⟩
        exact ⟨rfl, h.past tt, Kp.of_past tt⟩
      · rw [if_neg hm, if_pos rfl]
        have hl := h.len
        have hml := h.most
        refine (block_yes h1.mem h1.tight (fun g hg => (h1.ok g hg).pll) h1.len h1.len t d v its hrow ht hp hf (fun i hi => (hfi i hi).1) hTn (by rw [hGl]; exact hm)).mono ?_
        rintro e w' ⟨rfl, x, hx, iv, hb⟩
        obtain ⟨g, r2, K2, g1, g2, g3, g4, g5, g6, g7, g8⟩ := hb.ex
        have hnt : ∀ y ∈ G, y.a.t ≠ g.a.t := fun y hy e => by
          have := thr_any G t
          rw [hTn] at this
          have h9 := List.any_eq_false.1 this.symm y hy
          rw [e, g2] at h9
          simp at h9
        have hth : updI (thr G) t (some x) = thr (G ++ [g]) := by
          have := thr_push hnt
          rw [g2, g1] at this
          exact this
        rw [hth] at g6
        have hml2 : (G ++ [g]).length = G.length + 1 := by simp
        rw [← hml2] at g6
        have m : WM w' c most tm lm (G ++ [g]) r2 K2 := by
          refine ⟨g6, g7 h1.tight, fun y hy => ?_, ?_, by rw [hml2]; omega⟩
          · rcases List.mem_append.1 hy with h9 | h9
            · exact h1.ok y h9
            · rw [List.mem_singleton] at h9
              subst h9
              refine ⟨g4, by rw [g5, g2], ?_, ?_, ?_, ?_, ?_⟩
              · rw [g2]; show 0 ≤ t; omega
              · rw [g2]; exact hf
              · rw [g2]; exact hd
              · rw [g2]; exact hp
              · rw [g2]; exact hfi
          · rw [List.map_append]
            refine List.nodup_append.2 ⟨h1.ts, by simp, fun u hu u' hu' e => ?_⟩
            simp at hu'
            obtain ⟨y, hy, rfl⟩ := List.mem_map.1 hu
            exact hnt y hy (e.trans hu')
        exact ⟨rfl, wst_made h h1 h4 h5 m (by rw [List.map_append, h2]; simp [g2]) (by simp; omega) g8 hb.turn⟩
/-- What is told, and what is left. -/
theorem WSt.waked {P : Int → Bool} {o s f : Int} {N : Nat} {args : Array Value} (h : WSt w0 w c most L X) (hC : ∀ {tm lm : Nat} {G : List Gw} {r : Int → Nat} {K : List Int}, WM w c most tm lm G r K → Calls Try.prog N args w fun e w' => ∃ v, e = .returned v ∧ Waked w c most tm lm G r K P o s f v w') :
    Calls Try.prog N args w fun x w' => ∃ v, x = .returned v ∧ KRow v (L.filterMap (wkA P o s f)) w' ∧ WSt w0 w' c most (L.filter (keepA P o)) X ∧ Kp X w w' ∧ ∀ k, Blk v k → w.heap.size ≤ k := by
  obtain ⟨tm, lm, G, r, K, h1, h2, h4, h5⟩ := h.ex
  refine (hC h1).mono ?_
  rintro e w' ⟨v, rfl, hw⟩
  obtain ⟨K2, hs, m⟩ := hw.mem
  obtain ⟨s1, s2⟩ := wst_made h h1 h4 h5 m (L' := L.filter (keepA P o)) (by rw [← h2, List.filter_map]; rfl) (by have := h.len; have := List.length_filter_le (keepA P o) L; omega) (fun k hk => .inl (sub_foot (fun g hg => (List.mem_filter.1 hg).1) hs hk)) hw.turn
  refine ⟨v, rfl, ?_, s1, s2, hw.fr⟩
  have := hw.row
  rw [← h2, List.filterMap_map]
  exact this
theorem WSt.tell (h : WSt w0 w c most L X) (o s : Int) (ho : fit o) : Calls Try.prog 17 #[.pointer (some ⟨c, 0, none⟩), .int .i64 o, .int .i64 s] w fun x w' => ∃ v, x = .returned v ∧ KRow v (L.filterMap (wkA (fun m => meetB m s) o 0 s)) w' ∧ WSt w0 w' c most (L.filter (keepA (fun m => meetB m s) o)) X ∧ Kp X w w' ∧ ∀ k, Blk v k → w.heap.size ≤ k :=
  h.waked (fun m => tell_any m o ho s)
theorem WSt.cancel (h : WSt w0 w c most L X) (o : Int) (ho : fit o) : Calls Try.prog 21 #[.pointer (some ⟨c, 0, none⟩), .int .i64 o] w fun x w' => ∃ v, x = .returned v ∧ KRow v (L.filterMap (wkA (fun _ => true) o (-23) 0)) w' ∧ WSt w0 w' c most (L.filter (keepA (fun _ => true) o)) X ∧ Kp X w w' ∧ ∀ k, Blk v k → w.heap.size ≤ k :=
  h.waked (fun m => cancel_any m o ho)
theorem WSt.expire (h : WSt w0 w c most L X) (now : Int) : Calls Try.prog 19 #[.pointer (some ⟨c, 0, none⟩), .int .i64 now] w fun x w' => ∃ (v : Value) (D : List Wt), x = .returned v ∧ D.Perm (L.filter (fun a => decide (a.d ≤ now))) ∧ D.Pairwise (fun p q => ¬ befW q p) ∧ KRow v (D.map woke) w' ∧ WSt w0 w' c most (L.filter (fun a => !decide (a.d ≤ now))) X ∧ Kp X w w' ∧ ∀ k, Blk v k → w.heap.size ≤ k := by
  obtain ⟨tm, lm, G, r, K, h1, h2, h4, h5⟩ := h.ex
  refine (expire_any h1 now).mono ?_
  rintro e w' ⟨v, rfl, hw⟩
  obtain ⟨D, hp, hso, hrow⟩ := hw.ex
  obtain ⟨K2, hs, m⟩ := hw.mem
  obtain ⟨s1, s2⟩ := wst_made h h1 h4 h5 m (L' := L.filter (fun a => !decide (a.d ≤ now))) (by rw [← h2, List.filter_map]; rfl) (by have := h.len; have := List.length_filter_le (fun a : Wt => !decide (a.d ≤ now)) L; omega) (fun k hk => .inl (sub_foot (fun g hg => (List.mem_filter.1 hg).1) hs hk)) hw.turn
  refine ⟨v, D.map (fun y => y.1.a), rfl, ?_, ?_, by rw [List.map_map]; exact hrow, s1, s2, hw.fr⟩
  · have e1 := hp.map (fun y => y.1.a)
    refine e1.trans ?_
    rw [← h2, List.filter_map]
    have : (dueL G now).map (fun y => y.1.a) = (G.filter (dueB now)).map Gw.a := by
      unfold dueL
      have h9 : (G.attach.filter (fun y => dueB now y.1)).map Subtype.val = G.filter (dueB now) := by
        have := List.filter_map (f := Subtype.val) (p := dueB now) (l := G.attach)
        rw [List.attach_map_subtype_val] at this
        exact this.symm
      rw [← h9, List.map_map]
      rfl
    rw [this]
    exact List.Perm.refl _
  · rw [List.pairwise_map]
    exact hso
theorem WSt.forget (h : WSt w0 w c most L X) (t : Int) (ht : fit t) : Calls Try.prog 22 #[.pointer (some ⟨c, 0, none⟩), .int .i64 t] w fun x w' => x = .returned (.int .i64 (frgS L t)) ∧ WSt w0 w' c most (frgL L t) X ∧ Kp X w w' := by
  obtain ⟨tm, lm, G, r, K, h1, h2, h4, h5⟩ := h.ex
  have hT : hasW L t = (thr G t).isSome := by rw [← h2]; exact hasW_map G t
  unfold frgS frgL
  cases hth : thr G t with
  | none =>
    rw [hth] at hT
    rw [hT, if_neg (by simp)]
    have hfl : L.filter (fun a => a.t != t) = L := by
      refine List.filter_eq_self.2 (fun a ha => ?_)
      have := List.any_eq_false.1 hT a ha
      simpa using this
    rw [hfl]
    refine (forget_no h1 t ht hth).mono ?_
    rintro e w' ⟨rfl, rfl⟩
    exact ⟨rfl, h, Kp.of_past (Turn.refl _ _)⟩
  | some x =>
    obtain ⟨g, hg, hgt, hgx⟩ := thr_some hth
    rw [hth] at hT
    rw [hT, if_pos (show (some x).isSome = true from rfl)]
    refine (forget_yes h1 t ht hg hgt (by rw [hth, hgx])).mono ?_
    rintro e w' ⟨rfl, ⟨K2, hs, m⟩, tt⟩
    exact ⟨rfl, wst_made h h1 h4 h5 m (by rw [← h2, List.filter_map]; rfl) (by have := h.len; have := List.length_filter_le (fun a : Wt => a.t != t) L; omega) (fun k hk => .inl (sub_foot (fun g hg => (List.mem_filter.1 hg).1) hs hk)) tt⟩
end
end Go.Proofs.Ytabakjimlndhcaa
