/-
  What the reference's Write answers, and what it makes of its channel. No conditions but that the reference's channel is one that calls can make.
-/
import Derived.Test.YtcbphfpfdfgehaaRCForget
import Derived.Deep.RegionLaw
import Derived.Deep.AppendLies
namespace Go.Proofs.Ytcbphfpfdfgehaa
open Go.ChangeShapes Go.WideShapes Go.ChangeAt Go.RowKit

theorem updN_twice {A : Type} (f : Nat → A) (e : Nat) (x y : A) : updN (updN f e x) e y = updN f e y := by
  funext i
  unfold updN
  split <;> rfl
theorem wrow_heap {w : World} {g size : Nat} {cs : Array Value} {t : TypeId} (h : w.heap[g]? = some (.cells cs t (0, 0))) (hs : cs.size = size) : WRow w t size (.slice (some ⟨g, 0, none⟩) 1 1) 1 cs.toList := by
  have hc : ∀ j, j < size → w.cell? ⟨g, 0 + j, none⟩ = cs.toList[j]? := fun j hj => by rw [Nat.zero_add, cell_at h]; simp
  refine ⟨by rw [Array.length_toList, hs, Nat.one_mul], .inr ⟨g, 0, 1, rfl, Nat.le_refl _, by decide, ⟨_, h⟩, fun j hj => hc j (by omega), fun j hj => ?_⟩⟩
  rw [hc j (by omega), List.getElem?_eq_getElem (by rw [Array.length_toList, hs]; omega)]
  rfl
section
variable {w0 w w1 w2 : World} {x depth : Nat} {S : Nat → MS} {U V : Nat → Value} {Q : Nat → List QM}
theorem qcells_one {w0 : World} {l : List QM} (h : ∀ q ∈ l, QIn w0 q) : ∀ u ∈ qcells l, u.oneCell' = true := by
  intro u hu
  unfold qcells at hu
  obtain ⟨q, hq, hu⟩ := List.mem_flatMap.1 hu
  exact (h q hq).one u hu
/-- Both the queue and those who wait are others. -/
theorem rmk_vu (h : RC w0 w x depth S U V Q) {e : Nat} (he : e < 2) (t : Turn NoBlock w w1) {v : Value} {l : List Wt} (hr : WRow w1 131 2 v l.length (wcells l)) (hnz : ∀ t ∈ l, t.tx ≠ 0) (hb : ∀ k, Blk v k → w.heap.size ≤ k)
    (t2 : Turn NoBlock (w1.setCell ⟨x, 2 + e, none⟩ v) w2) {u : Value} {lq : List QM} (hr2 : WRow w2 38 3 u lq.length (qcells lq)) (hq : ∀ q ∈ lq, QIn w0 q) (hb2 : ∀ k, Blk u k → w.heap.size ≤ k) :
    RMk w0 w (w2.setCell ⟨x, e, none⟩ u) x depth U V (updN S e ⟨(S e).op, lq.map (·.m), l⟩) := by
  have h1 := h.setV he t hr hnz
  have h2 := h1.setU he t2 hr2 hq
  rw [updN_same, updN_twice] at h2
  have ha : Turn (fun k => k = x) w (w1.setCell ⟨x, 2 + e, none⟩ v) := (TU (F := fun k => k = x) t).setCell (p := ⟨x, 2 + e, none⟩) (.inl rfl) _
  have hsz1 : (w1.setCell ⟨x, 2 + e, none⟩ v).heap.size = w1.heap.size := by simp [World.setCell]
  have hsz2 : (w2.setCell ⟨x, e, none⟩ u).heap.size = w2.heap.size := by simp [World.setCell]
  have hs2 := t2.size
  refine ⟨_, _, _, h2, (ha.trans t2 (fun _ h => h.elim)).setCell (p := ⟨x, e, none⟩) (.inl rfl) _, fun k hk => ?_⟩
  rw [hsz2]
  rcases hk with hk | ⟨i, hi, hk | hk⟩
  · exact .inl (.inl hk)
  · by_cases hie : i = e
    · subst hie
      rw [updN_same] at hk
      exact .inr ⟨hb2 k hk, hr2.lt hk⟩
    · rw [updN_other _ _ hie] at hk
      exact .inl (.inr ⟨i, hi, .inl hk⟩)
  · by_cases hie : i = e
    · subst hie
      rw [updN_same] at hk
      exact .inr ⟨hb k hk, by have := hr.lt hk; omega⟩
    · rw [updN_other _ _ hie] at hk
      exact .inl (.inr ⟨i, hi, .inr hk⟩)
theorem rwrite_no0 (h : RC w0 w x depth S U V Q) (m : Msg) (vd vh : Value) (hd : RzB w vd m.d) (hh : RzI w vh m.h) (st : Int) (hst : (st = -24 ∧ (S 0).op = false) ∨ (st = -14 ∧ (S 0).op = true ∧ (4096 < m.d.length ∨ 64 < m.h.length)) ∨ (st = -24 ∧ (S 0).op = true ∧ m.fits ∧ (S 1).op = false)) :
    Calls Try.prog 39 #[.pointer (some ⟨x, 0, none⟩), .int .i64 0, .agg #[.int .i64 m.tx, vd, vh]] w fun y w' => y = .returned (.tuple #[.int .i64 0, .int .i64 st]) ∧ Turn NoBlock w w' := by
  obtain ⟨p1, c1, hv1⟩ := hd.sl
  obtain ⟨p2, c2, hv2⟩ := hh.sl
  subst hv1 hv2
  have CK := Lib.hid (fun W (t : Turn NoBlock w W) => rcheck0 (h.past t) (S 0).op rfl)
  have d1 : w.cell? ⟨x, 5, none⟩ = some (.bool (!(S 1).op)) := h.cc 1 (by omega)
  have lx := h.typ.lt
  obtain ⟨n1, hn1⟩ : ∃ n, m.d.length = n := ⟨_, rfl⟩
  obtain ⟨n2, hn2⟩ : ∃ n, m.h.length = n := ⟨_, rfl⟩
  unfold Msg.fits at hst
  rw [hn1, hn2] at hst
  simp only [hn1, hn2]
  clear h hd hh hn1 hn2
  rcases hst with ⟨rfl, h2⟩ | ⟨rfl, h2, h3⟩ | ⟨rfl, h2, h3, h4⟩
  · rw [h2] at CK
    go_enter Try.func39, Try.ntmps39
    go_wp2_with (go_at_call 53; (with_reducible refine (CK.out _ ((Turn.refl _ _).alloc _)).mono ?_); rintro y w' ⟨rfl, rfl⟩)
    go_ret2
    exact ⟨rfl, (Turn.refl _ _).alloc _⟩
  · rw [h2] at CK
    have two : (4096 : Int) < n1 ∨ (¬ (4096 : Int) < n1 ∧ (64 : Int) < n2) := by omega
    clear h2 h3
    rcases two with g1 | ⟨g1, g2⟩
    all_goals
      go_enter Try.func39, Try.ntmps39
      go_wp2_with (go_at_call 53; (with_reducible refine (CK.out _ ((Turn.refl _ _).alloc _)).mono ?_); rintro y w' ⟨rfl, rfl⟩)
      go_ret2
      exact ⟨rfl, (Turn.refl _ _).alloc _⟩
  · rw [h2] at CK
    rw [h4] at d1
    have g1 : ¬ (4096 : Int) < n1 := by omega
    have g2 : ¬ (64 : Int) < n2 := by omega
    have d2 := ((Turn.refl NoBlock w).alloc (.cells #[.int .i64 m.tx, .slice p1 n1 c1, .slice p2 n2 c2] 38)).cell d1 (fun h => h)
    clear h2 h3 h4
    go_enter Try.func39, Try.ntmps39
    go_wp2_with (go_at_call 53; (with_reducible refine (CK.out _ ((Turn.refl _ _).alloc _)).mono ?_); rintro y w' ⟨rfl, rfl⟩)
    go_ret2
    exact ⟨rfl, (Turn.refl _ _).alloc _⟩
theorem rwrite_no1 (h : RC w0 w x depth S U V Q) (m : Msg) (vd vh : Value) (hd : RzB w vd m.d) (hh : RzI w vh m.h) (st : Int) (hst : (st = -24 ∧ (S 1).op = false) ∨ (st = -14 ∧ (S 1).op = true ∧ (4096 < m.d.length ∨ 64 < m.h.length)) ∨ (st = -24 ∧ (S 1).op = true ∧ m.fits ∧ (S 0).op = false)) :
    Calls Try.prog 39 #[.pointer (some ⟨x, 0, none⟩), .int .i64 1, .agg #[.int .i64 m.tx, vd, vh]] w fun y w' => y = .returned (.tuple #[.int .i64 0, .int .i64 st]) ∧ Turn NoBlock w w' := by
  obtain ⟨p1, c1, hv1⟩ := hd.sl
  obtain ⟨p2, c2, hv2⟩ := hh.sl
  subst hv1 hv2
  have CK := Lib.hid (fun W (t : Turn NoBlock w W) => rcheck1 (h.past t) (S 1).op rfl)
  have d1 : w.cell? ⟨x, 4, none⟩ = some (.bool (!(S 0).op)) := h.cc 0 (by omega)
  have lx := h.typ.lt
  obtain ⟨n1, hn1⟩ : ∃ n, m.d.length = n := ⟨_, rfl⟩
  obtain ⟨n2, hn2⟩ : ∃ n, m.h.length = n := ⟨_, rfl⟩
  unfold Msg.fits at hst
  rw [hn1, hn2] at hst
  simp only [hn1, hn2]
  clear h hd hh hn1 hn2
  rcases hst with ⟨rfl, h2⟩ | ⟨rfl, h2, h3⟩ | ⟨rfl, h2, h3, h4⟩
  · rw [h2] at CK
    go_enter Try.func39, Try.ntmps39
    go_wp2_with (go_at_call 53; (with_reducible refine (CK.out _ ((Turn.refl _ _).alloc _)).mono ?_); rintro y w' ⟨rfl, rfl⟩)
    go_ret2
    exact ⟨rfl, (Turn.refl _ _).alloc _⟩
  · rw [h2] at CK
    have two : (4096 : Int) < n1 ∨ (¬ (4096 : Int) < n1 ∧ (64 : Int) < n2) := by omega
    clear h2 h3
    rcases two with g1 | ⟨g1, g2⟩
    all_goals
      go_enter Try.func39, Try.ntmps39
      go_wp2_with (go_at_call 53; (with_reducible refine (CK.out _ ((Turn.refl _ _).alloc _)).mono ?_); rintro y w' ⟨rfl, rfl⟩)
      go_ret2
      exact ⟨rfl, (Turn.refl _ _).alloc _⟩
  · rw [h2] at CK
    rw [h4] at d1
    have g1 : ¬ (4096 : Int) < n1 := by omega
    have g2 : ¬ (64 : Int) < n2 := by omega
    have d2 := ((Turn.refl NoBlock w).alloc (.cells #[.int .i64 m.tx, .slice p1 n1 c1, .slice p2 n2 c2] 38)).cell d1 (fun h => h)
    clear h2 h3 h4
    go_enter Try.func39, Try.ntmps39
    go_wp2_with (go_at_call 53; (with_reducible refine (CK.out _ ((Turn.refl _ _).alloc _)).mono ?_); rintro y w' ⟨rfl, rfl⟩)
    go_ret2
    exact ⟨rfl, (Turn.refl _ _).alloc _⟩
end
end Go.Proofs.Ytcbphfpfdfgehaa
