/-
  Waits as calls leave them: who waits stands in the lines of its items, and in everybody's. Drop, and what a line's way sees. No conditions.
-/
import Derived.Test.YtabakjimlndhcaaBYes
import Derived.Test.YtabakjimlndhcaaBIter
namespace Go.Proofs.Ytabakjimlndhcaa
open Go.ChangeShapes Go.WideShapes Go.ChangeAt Go.RowKit

def thr (G : List Gw) (t : Int) : Option Nat := (G.find? (fun g => g.a.t == t)).map Gw.x
theorem thr_none {G : List Gw} {t : Int} (h : ∀ g ∈ G, g.a.t ≠ t) : thr G t = none := by
  unfold thr
  rw [List.find?_eq_none.2 (fun g hg => by simpa using h g hg)]
  rfl
theorem thr_mid {A B : List Gw} {g : Gw} (h : ((A ++ g :: B).map (fun g => g.a.t)).Nodup) : thr (A ++ g :: B) g.a.t = some g.x := by
  unfold thr
  have : (A ++ g :: B).find? (fun y => y.a.t == g.a.t) = some g := by
    rw [List.find?_append]
    have : A.find? (fun y => y.a.t == g.a.t) = none := List.find?_eq_none.2 (fun y hy => by
      rw [List.map_append, List.map_cons] at h
      have := (List.nodup_append.1 h).2.2 y.a.t (List.mem_map.2 ⟨y, hy, rfl⟩) g.a.t List.mem_cons_self
      simpa using this)
    rw [this]
    simp
  rw [this]
  rfl
theorem thr_drop {A B : List Gw} {g : Gw} (h : ((A ++ g :: B).map (fun g => g.a.t)).Nodup) : updI (thr (A ++ g :: B)) g.a.t none = thr (A ++ B) := by
  rw [List.map_append, List.map_cons] at h
  obtain ⟨h1, h2, h3⟩ := List.nodup_append.1 h
  obtain ⟨h4, h5⟩ := List.nodup_cons.1 h2
  funext t
  unfold updI
  by_cases ht : t = g.a.t
  · rw [if_pos ht, ht]
    refine (thr_none (fun y hy e => ?_)).symm
    rcases List.mem_append.1 hy with hy | hy
    · exact h3 y.a.t (List.mem_map.2 ⟨y, hy, rfl⟩) g.a.t List.mem_cons_self e
    · exact h4 (List.mem_map.2 ⟨y, hy, e⟩)
  · rw [if_neg ht]
    unfold thr
    rw [List.find?_append, List.find?_append, List.find?_cons]
    have : (g.a.t == t) = false := by simpa using fun e => ht e.symm
    rw [this]
theorem thr_push {A : List Gw} {g : Gw} (h : ∀ y ∈ A, y.a.t ≠ g.a.t) : updI (thr A) g.a.t (some g.x) = thr (A ++ [g]) := by
  funext t
  unfold updI thr
  rw [List.find?_append]
  by_cases ht : t = g.a.t
  · rw [if_pos ht, ht]
    rw [List.find?_eq_none.2 (fun y hy => by simpa using h y hy)]
    simp
  · rw [if_neg ht]
    have : (g.a.t == t) = false := by simpa using fun e => ht e.symm
    simp [this]
/-- What a thread may be. -/
structure GOk (g : Gw) : Prop where
  pr : g.pr = g.pl.map Prod.snd
  ln : g.pl.map Prod.fst = linesOf g.a.its
  t0 : 0 ≤ g.a.t
  ft : fit g.a.t
  fd : fit g.a.d
  pos : posB g.a.its = true
  fi : ∀ i ∈ g.a.its, fit i.o ∧ fit i.m
theorem GOk.pll {g : Gw} (h : GOk g) : g.pl.length ≤ 9 := by
  rw [← List.length_map (f := Prod.fst), h.ln]
  have h1 := of_decide_eq_true h.pos
  have := linesAt_len g.a.its g.a.its.length h1.2.1
  unfold linesAt at this
  rwa [List.take_length] at this
theorem GOk.fl {g : Gw} (h : GOk g) : ∀ e ∈ g.pl, fit e.1 := by
  intro e he
  have h1 : e.1 ∈ linesOf g.a.its := by rw [← h.ln]; exact List.mem_map.2 ⟨e, he, rfl⟩
  rcases (linesOf_mem _ _).1 h1 with h2 | ⟨i, hi, h2⟩
  · rw [h2]; unfold fit; omega
  · rw [← h2]; exact (h.fi i hi).1
structure WM (w : World) (c : Nat) (most : Int) (tm lm : Nat) (G : List Gw) (r : Int → Nat) (K : List Int) : Prop where
  mem : GMem w c most tm lm (thr G) G.length G r K
  tight : Tight G K
  ok : ∀ g ∈ G, GOk g
  ts : (G.map (fun g => g.a.t)).Nodup
  len : G.length ≤ 65536
section
variable {w w' w1 : World} {c tm lm nT : Nat} {most : Int} {T : Int → Option Nat} {G A B : List Gw} {r : Int → Nat} {K : List Int} {g : Gw}
theorem WM.past (h : WM w c most tm lm G r K) (t : Turn NoBlock w w') : WM w' c most tm lm G r K := ⟨h.mem.past t, h.tight, h.ok, h.ts, h.len⟩
theorem WM.kept {F : Nat → Prop} (h : WM w c most tm lm G r K) (t : Turn F w w') (hF : ∀ k, GFoot c tm lm G r K k → ¬ F k) : WM w' c most tm lm G r K := ⟨h.mem.kept t hF, h.tight, h.ok, h.ts, h.len⟩
theorem WM.drop (h : WM w c most tm lm (A ++ g :: B) r K) : Calls Try.prog 61 #[.pointer (some ⟨c, 0, none⟩), .pointer (some ⟨g.x, 0, none⟩)] w fun e w' => e = .returned (.tuple #[]) ∧ (∃ K', (∀ n ∈ K', n ∈ K) ∧ WM w' c most tm lm (A ++ B) r K') ∧ Turn (GFoot c tm lm (A ++ g :: B) r K) w w' := by
  have hg := h.ok g (by simp)
  refine (drop_any h.mem hg.pr (thr_mid h.ts) hg.ft hg.fl (by have := hg.pll; omega)).mono ?_
  rintro e w' ⟨rfl, ⟨K', h1, h2, h3⟩, h4⟩
  refine ⟨rfl, ⟨K', h1, ⟨?_, h3 h.tight, fun y hy => h.ok y ?_, ?_, ?_⟩⟩, h4⟩
  · rw [thr_drop h.ts] at h2
    have e : (A ++ g :: B).length - 1 = (A ++ B).length := by simp
    rw [e] at h2
    exact h2
  · rcases List.mem_append.1 hy with h5 | h5
    · exact List.mem_append_left _ h5
    · exact List.mem_append_right _ (List.mem_cons_of_mem _ h5)
  · exact h.ts.sublist (List.Sublist.map _ (List.Sublist.append_left (List.sublist_cons_self _ _) _))
  · have := h.len
    simp only [List.length_append, List.length_cons] at this ⊢
    omega
end
/-- Who stands in line o: his place, and he. -/
def stdP (G : List Gw) (o : Int) : List (Nat × Nat) := G.filterMap (fun g => (g.at o).map (fun p => (p, g.x)))
theorem stdP_app (A B : List Gw) (o : Int) : stdP (A ++ B) o = stdP A o ++ stdP B o := by simp [stdP]
theorem stdP_fst (G : List Gw) (o : Int) : (stdP G o).map Prod.fst = inL G o := by
  unfold stdP inL
  rw [List.map_filterMap]
  congr 1
  funext g
  cases g.at o <;> rfl
theorem stdP_cons (g : Gw) (B : List Gw) (o : Int) : stdP (g :: B) o = ((g.at o).map (fun p => (p, g.x))).toList ++ stdP B o := by
  unfold stdP
  rw [List.filterMap_cons]
  cases g.at o <;> rfl
/-- The next who stands there. -/
theorem stdP_next (B : List Gw) (o : Int) (e : Nat × Nat) (h : (stdP B o)[0]? = some e) : ∃ B1 g B2, B = B1 ++ g :: B2 ∧ stdP B1 o = [] ∧ g.at o = some e.1 ∧ g.x = e.2 := by
  induction B with
  | nil => simp [stdP] at h
  | cons g B ih =>
    rw [stdP_cons] at h
    cases hg : g.at o with
    | some p =>
      rw [hg] at h
      simp at h
      exact ⟨[], g, B, rfl, rfl, by rw [hg, ← h], by rw [← h]⟩
    | none =>
      rw [hg] at h
      simp only [Option.map_none, Option.toList_none, List.nil_append] at h
      obtain ⟨B1, g', B2, h1, h2, h3, h4⟩ := ih h
      exact ⟨g :: B1, g', B2, by rw [h1]; rfl, by rw [stdP_cons, hg]; simpa using h2, h3, h4⟩
theorem chain_at {w : World} {a : Nat} {l : List Nat} {b i p : Nat} (h : Chain w a l b) (hp : l[i]? = some p) : w.cell? ⟨p, 3, none⟩ = some (ptr ((l[i + 1]?).getD b)) := by
  induction l generalizing a i with
  | nil => simp at hp
  | cons q l ih =>
    cases i with
    | zero =>
      simp only [List.getElem?_cons_zero, Option.some.injEq] at hp
      subst hp
      have := h.2.front
      rw [this]
      cases l <;> rfl
    | succ i =>
      simp only [List.getElem?_cons_succ] at hp
      have := ih h.2 hp
      simpa using this
section
variable {W : World} {c tm lm nT : Nat} {most : Int} {T : Int → Option Nat} {G A A' B : List Gw} {r : Int → Nat} {K K' : List Int} {g : Gw}
/-- What the way through line o sees of what those of A' and B that stand there are. -/
theorem GMem.see (h : GMem W c most tm lm T nT (A' ++ B) r K') {o : Int} (ho : fit o) (hA : stdP A o = [] → stdP A' o = []) {Ba Bb : Nat} (ha : W.heap[Ba]? = some (.cells #[.pointer (some ⟨c, 0, none⟩)] 23 (0, 0))) (hb : W.heap[Bb]? = some (.cells #[.int .i64 o] 3 (0, 0)))
    (hne : ∀ e ∈ stdP (A ++ B) o, e.1 ≠ r o) : LSee Ba Bb c o (r o) (stdP (A ++ B) o) (stdP A o).length W := by
  refine ⟨ha, hb, hne, fun i e hi he => ?_, fun h0 => ⟨lm, h.c2, ?_⟩⟩
  · rw [stdP_app, List.getElem?_append_right hi] at he
    have hB : (inL B o)[i - (stdP A o).length]? = some e.1 := by rw [← stdP_fst, List.getElem?_map, he]; rfl
    have hnil : inL (A' ++ B) o ≠ [] := by
      rw [inL_app]
      intro hh
      have := (List.append_eq_nil_iff.1 hh).2
      rw [this] at hB
      simp at hB
    have hK := h.keys o hnil
    have hmem : e.1 ∈ inL (A' ++ B) o := by rw [inL_app]; exact List.mem_append_right _ (List.mem_of_getElem? hB)
    obtain ⟨y, hy, hpl, hP⟩ := h.inl hmem
    have hch := (h.ring o hK).chain
    rw [inL_app] at hch
    have hidx : (inL A' o ++ inL B o)[(inL A' o).length + (i - (stdP A o).length)]? = some e.1 := by rw [List.getElem?_append_right (by omega)]; rw [Nat.add_sub_cancel_left]; exact hB
    have h3 := chain_at hch hidx
    refine ⟨(h.ring o hK).typ, hP.typ, ?_, ?_⟩
    · have hem := List.mem_of_getElem? he
      obtain ⟨z, hz, hze⟩ := List.mem_filterMap.1 hem
      cases hzo : z.at o with
      | none => rw [hzo] at hze; cases hze
      | some p =>
        rw [hzo] at hze
        simp at hze
        have h4 := ((h.obj z (List.mem_append_right _ hz)).pls o p (look_mem hzo)).who
        rw [← hze]
        exact h4
    · rw [h3]
      congr 2
      unfold nxtP
      rw [stdP_app, List.getElem?_append_right (by omega), List.getElem?_append_right (by omega), ← List.getElem?_map, stdP_fst]
      congr 2
      omega
  · have hA0 : stdP A o = [] := List.eq_nil_of_length_eq_zero h0
    have hL : inL (A' ++ B) o = (stdP (A ++ B) o).map Prod.fst := by
      rw [stdP_app, hA0, List.nil_append, inL_app, stdP_fst, ← stdP_fst A', hA hA0]
      rfl
    by_cases hK : o ∈ K'
    · refine .inr ⟨fun q => ?_, (h.ring o hK).typ, ?_⟩
      · have := (h.past ((Turn.refl NoBlock W).drewN q)).lmap.look2 lmapU zeroL o ho
        unfold LK at this
        rw [if_pos hK] at this
        exact this
      · have := (h.ring o hK).chain.front
        rw [this]
        unfold nxtP
        rw [hL, List.head?_eq_getElem?, List.getElem?_map]
    · refine .inl ⟨?_, fun q => ?_⟩
      · have : inL (A' ++ B) o = [] := by
          cases hl : inL (A' ++ B) o with
          | nil => rfl
          | cons p l => exact absurd (h.keys o (by rw [hl]; simp)) hK
        rw [hL] at this
        exact List.map_eq_nil_iff.1 this
      · have := (h.past ((Turn.refl NoBlock W).drewN q)).lmap.look2 lmapU zeroL o ho
        unfold LK at this
        rw [if_neg hK] at this
        exact this
end
end Go.Proofs.Ytabakjimlndhcaa
