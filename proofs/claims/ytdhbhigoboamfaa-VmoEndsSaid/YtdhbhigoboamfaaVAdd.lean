/-
  add: an object gets the next id. No conditions but that the set is one that calls can make.
-/
import Derived.Test.YtdhbhigoboamfaaVSmall
namespace Go.Proofs.Ytdhbhigoboamfaa
open Go.ChangeShapes Go.WideShapes Go.ChangeAt Go.RowKit

/-- An object ahead of add: its pages are nil. -/
def Ob.raw (o : Ob) : Array Value :=
  #[.int .i64 (o.size : Int), .int .i64 (o.par : Int), .int .i64 (o.kids : Int), .int .i64 (o.slc : Int), .int .i64 (o.depth : Int), .int .i64 (o.frm : Int), .bool o.drp, .map none]

theorem skolem {α β : Type} {p : α → β → Prop} (h : ∀ a, ∃ b, p a b) : ∃ f : α → β, ∀ a, p a (f a) := ⟨fun a => Classical.choose (h a), fun a => Classical.choose_spec (h a)⟩

section
variable {w : World} {s : Nat} {r : Rep} {M : Mod}
theorem add_full (h : SMem w s r M) (q : Value) (hl : M.most ≤ M.live) :
    Calls Try.prog 48 #[.pointer (some ⟨s, 0, none⟩), q] w fun e w' => e = .returned (.tuple #[.int .i64 0, .int .i64 (-4)]) ∧ ∃ m, w' = w.drewN m := by
  have l1 := fun ty => (h.past ((Turn.refl NoBlock w).drew)).omap.len ty
  have l0 := fun ty => h.omap.len ty
  have d3 := h.c3
  have d1 := h.c1
  have hl2 : (M.most : Int) ≤ (M.live : Int) := by omega
  clear h hl
  go_enter Try.func48, Try.ntmps48
  go_wp2
  go_region
  all_goals
    go_wp2
    go_ret2
    exact ⟨rfl, 1, rfl⟩

def addM (M : Mod) (o : Ob) : Mod := { M with made := M.made + 1, live := M.live + 1, O := updI M.O ((M.made : Int) + 1) (some o) }
def addR (r : Rep) (i : Int) (a b : Nat) : Rep := { r with A := updI r.A i (some a), B := updI r.B i (some b) }

theorem add_mem (h : SMem w s r M) {o : Ob} {a : Nat} (ho : w.heap[a]? = some (.cells o.raw 88 (0, 0))) (hf : ¬ SFoot s r a) (hp : o.pgs = fun _ => none) (hc : o.cnt = 0) (hl : M.live < M.most) (hm : M.most ≤ 65536) (hd : M.made < 4611686018427387904) :
    ∃ w4, Sem.run Try.prog (Instr.mapUpdate 81 (.map (some r.mo)) (.int .i64 ((M.made : Int) + 1)) (.pointer (some ⟨a, 0, none⟩)))
        (((w.setCell ⟨a, 7, none⟩ (.map (some w.heap.size))).setCell ⟨s, 2, none⟩ (.int .i64 ((M.made : Int) + 1))).alloc (.map #[] 0)).drew.drew = .ok () w4 ∧
      SMem w4 s (addR r ((M.made : Int) + 1) a w.heap.size) (addM M o) ∧ Turn (fun k => k = s ∨ k = r.mo ∨ k = a) w w4 ∧ w4.cell? ⟨s, 2, none⟩ = some (.int .i64 ((M.made : Int) + 1)) := by
  have t2 : Turn (fun k => k = a) w (w.setCell ⟨a, 7, none⟩ (.map (some w.heap.size))) := (Turn.refl (fun k => k = a) _).setCell (p := ⟨a, 7, none⟩) (.inl rfl) _
  have halt : a < w.heap.size := lt_of_block ho
  have hA0 : r.A ((M.made : Int) + 1) = none := by
    cases hA : r.A ((M.made : Int) + 1) with
    | none => rfl
    | some x => have := h.ids _ _ hA; omega
  have ho2 : (w.setCell ⟨a, 7, none⟩ (.map (some w.heap.size))).heap[a]? = some (.cells (o.cells w.heap.size) 88 (0, 0)) := set_at ho 7 (.map (some w.heap.size))
  have hsz2 : (w.setCell ⟨a, 7, none⟩ (.map (some w.heap.size))).heap.size = w.heap.size := by simp [World.setCell]
  generalize w.setCell ⟨a, 7, none⟩ (.map (some w.heap.size)) = W2 at *
  have h2 := h.kept t2 (fun k hk e => by subst e; exact hf hk)
  have t3' : Turn (fun k => k = s) W2 (W2.setCell ⟨s, 2, none⟩ (.int .i64 ((M.made : Int) + 1))) := (Turn.refl (fun k => k = s) _).setCell (p := ⟨s, 2, none⟩) (.inl rfl) _
  have hhead' : (W2.setCell ⟨s, 2, none⟩ (.int .i64 ((M.made : Int) + 1))).heap[s]? = some (.cells #[.pointer (some ⟨r.p, 0, none⟩), .int .i64 (M.most : Int), .int .i64 ((M.made : Int) + 1), .map (some r.mo)] 83 (0, 0)) := set_at h2.head 2 _
  have hsz3 : (W2.setCell ⟨s, 2, none⟩ (.int .i64 ((M.made : Int) + 1))).heap.size = w.heap.size := by rw [← hsz2]; simp [World.setCell]
  generalize W2.setCell ⟨s, 2, none⟩ (.int .i64 ((M.made : Int) + 1)) = X at *
  have tx : Turn NoBlock X (X.alloc (.map #[] 0)).drew.drew := (((Turn.refl _ _).alloc _).drew).drew
  have hpm2 : PMap (X.alloc (.map #[] 0)).drew.drew w.heap.size o.pgs o.cnt := by
    rw [hp, hc, ← hsz3]
    exact IMap.past (IMap.made X) (((Turn.refl NoBlock _).drew).drew) (fun h => h)
  have t3 := t3'.trans tx (fun k hk => hk.elim)
  have hhead := tx.heap hhead' (fun h => h)
  have t1 : Turn NoBlock w w := Turn.refl _ _
  generalize (X.alloc (.map #[] 0)).drew.drew = W3 at *
  have om3 : OMap W3 r.mo r.A M.live := IMap.past h2.omap t3 h.mS
  obtain ⟨w4, hrun, om4, t4⟩ := om3.put (by unfold maxLen; omega) ((M.made : Int) + 1) a (by unfold fit; omega)
  rw [hA0] at om4
  have has : a ≠ s := fun e => hf (.inl e)
  have ham : a ≠ r.mo := fun e => hf (.inr (.inl e))
  have hms := h.mS
  have hmolt := h.lt (.inr (.inl rfl) : SFoot s r r.mo)
  have hslt := h.lt (.inl rfl : SFoot s r s)
  have hhead4 := t4.heap hhead (fun e => hms e.symm)
  refine ⟨w4, hrun, ⟨?_, ?_, om4, fun i x hi => ?_, fun i hi => ?_, fun i j x hi hj => ?_, fun i j x hi hj => ?_, fun i x hi => ?_, fun i x hi => ?_, h.pS, h.pM, fun i x hi => ?_, fun i x hi => ?_⟩, ?_, ?_⟩
  · rw [show ((addM M o).made : Int) = (M.made : Int) + 1 by simp [addM]]
    exact hhead4
  · exact (pool_own _ _ _).kept _ _ _ ((pool_own _ _ _).kept _ _ _ h2.pool t3 (fun k hk e => by subst e; exact h.pS hk)) t4 (fun k hk e => by subst e; exact h.pM hk)
  · unfold addR updI at hi
    simp only at hi
    by_cases e : i = (M.made : Int) + 1
    · subst e
      rw [if_pos rfl] at hi
      cases hi
      refine ⟨o, w.heap.size, by simp [addM, updI], by simp [addR, updI], t4.heap (t3.heap ho2 has) ham, IMap.past hpm2 t4 (by omega)⟩
    · rw [if_neg e] at hi
      obtain ⟨y, pb, g1, g2, g3, g4⟩ := h2.ob i x hi
      refine ⟨y, pb, by simp [addM, updI, e, g1], by simp [addR, updI, e, g2], t4.heap (t3.heap g3 (h2.aS hi)) (h2.aM hi), IMap.past (IMap.past g4 t3 (h2.bS g2)) t4 (h2.bmo i pb g2)⟩
  · unfold addR updI at hi
    simp only at hi
    by_cases e : i = (M.made : Int) + 1
    · rw [if_pos e] at hi; cases hi
    · rw [if_neg e] at hi
      exact ⟨by simp [addM, updI, e, (h.no i hi).1], by simp [addR, updI, e, (h.no i hi).2]⟩
  · unfold addR updI at hi hj
    simp only at hi hj
    by_cases e : i = (M.made : Int) + 1
    · by_cases e' : j = (M.made : Int) + 1
      · omega
      · rw [if_pos e] at hi
        rw [if_neg e'] at hj
        cases hi
        exact absurd (.inr (.inr (.inr (.inl ⟨j, hj⟩)))) hf
    · by_cases e' : j = (M.made : Int) + 1
      · rw [if_neg e] at hi
        rw [if_pos e'] at hj
        cases hj
        exact absurd (.inr (.inr (.inr (.inl ⟨i, hi⟩)))) hf
      · rw [if_neg e] at hi
        rw [if_neg e'] at hj
        exact h.injA i j x hi hj
  · unfold addR updI at hi hj
    simp only at hi hj
    by_cases e : i = (M.made : Int) + 1
    · by_cases e' : j = (M.made : Int) + 1
      · omega
      · rw [if_pos e] at hi
        rw [if_neg e'] at hj
        cases hi
        have := h.lt (.inr (.inr (.inr (.inr ⟨j, hj⟩))) : SFoot s r _)
        omega
    · by_cases e' : j = (M.made : Int) + 1
      · rw [if_neg e] at hi
        rw [if_pos e'] at hj
        cases hj
        have := h.lt (.inr (.inr (.inr (.inr ⟨i, hi⟩))) : SFoot s r _)
        omega
      · rw [if_neg e] at hi
        rw [if_neg e'] at hj
        exact h.injB i j x hi hj
  · unfold addR updI at hi
    simp only at hi
    by_cases e : i = (M.made : Int) + 1
    · rw [if_pos e] at hi
      cases hi
      show w.heap.size ≠ r.mo
      omega
    · rw [if_neg e] at hi
      exact h.bmo i x hi
  · unfold addR updI at hi
    simp only at hi
    show 1 ≤ i ∧ i ≤ ((M.made + 1 : Nat) : Int)
    by_cases e : i = (M.made : Int) + 1
    · omega
    · rw [if_neg e] at hi
      have := h.ids i x hi
      omega
  · unfold addR updI at hi
    simp only at hi
    by_cases e : i = (M.made : Int) + 1
    · rw [if_pos e] at hi
      cases hi
      exact fun hk => hf (.inr (.inr (.inl hk)))
    · rw [if_neg e] at hi
      exact h.pA i x hi
  · unfold addR updI at hi
    simp only at hi
    by_cases e : i = (M.made : Int) + 1
    · rw [if_pos e] at hi
      cases hi
      exact fun hk => by have := h.pool.lt hk; omega
    · rw [if_neg e] at hi
      exact h.pB i x hi
  · exact ((((t1.mono (G := fun k => k = a) (fun _ h => h.elim)).trans t2 (fun k hk => .inl hk)).mono (G := fun k => k = s ∨ k = r.mo ∨ k = a) (fun k hk => .inl (.inr (.inr hk)))).trans t3 (fun k hk => .inl (.inl hk))).trans t4 (fun k hk => .inl (.inr (.inl hk)))
  · simpa using cell_at hhead4 2

set_option maxRecDepth 20000 in
theorem add_yes8 (h : SMem w s r M) {o : Ob} {a : Nat} (ho : w.heap[a]? = some (.cells o.raw 88 (0, 0))) (hf : ¬ SFoot s r a) (hp : o.pgs = fun _ => none) (hc : o.cnt = 0) (hl : M.live < M.most) (hm : M.most ≤ 65536) (hd : M.made < 4611686018427387904) :
    Calls Try.prog 48 #[.pointer (some ⟨s, 0, none⟩), .pointer (some ⟨a, 0, none⟩)] w fun e w' => e = .returned (.tuple #[.int .i64 ((M.made : Int) + 1), .int .i64 0]) ∧
      SMem w' s (addR r ((M.made : Int) + 1) a w.heap.size) (addM M o) ∧ Turn (fun k => k = s ∨ k = r.mo ∨ k = a) w w' := by
  obtain ⟨W4, hrun, hW1, hW2, dd2⟩ := add_mem h ho hf hp hc hl hm hd
  have HW := Lib.hid (And.intro hW1 hW2)
  clear hW1 hW2
  have ld := fun ty => (h.past ((Turn.refl NoBlock w).drew)).omap.len ty
  have l0 := fun ty => h.omap.len ty
  have d3 := h.c3
  have d2 := h.c2
  have d1 := h.c1
  have f2 := h.f 2
  have hl2 : ¬ (M.most : Int) ≤ (M.live : Int) := by omega
  have f7 := free_at ho 7
  have e7 : w.cell? ⟨a, 7, none⟩ = some (.map none) := by simpa [Ob.raw] using cell_at ho 7
  have has : a ≠ s := fun e => hf (.inl e)
  have halt : a < w.heap.size := lt_of_block ho
  have hslt : s < w.heap.size := h.lt (.inl rfl)
  have hmm := @run_makeMap Try.prog
  have hmi : IntKind.i64.wrap ((M.made : Int) + 1) = (M.made : Int) + 1 := wrap_nat (M.made + 1) (by omega)
  clear h ho hf hp hc hl hm
  go_enter Try.func48, Try.ntmps48
  go_wp2
  go_region
  all_goals
    go_wp2
    go_region
    all_goals
      go_wp2
      go_ret2
      exact ⟨rfl, HW.out.1, HW.out.2⟩
end
end Go.Proofs.Ytdhbhigoboamfaa
