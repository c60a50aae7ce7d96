/-
  'append' of any row of pieces to another one. No conditions but that the two are apart.
-/
import Derived.Test.YtdddmjdlikjedaaGWas
namespace Go.Proofs.Ytdddmjdlikjedaa
open Go.ChangeShapes Go.WideShapes Go.ChangeAt Go.RowKit Go.Shelf

theorem append_nil {w : World} {v : Value} {l : List Pc} (h : PRow v l w) (c : Nat) (ty : TypeId) :
    (Builtin.append_ #[65, 65] ty #[v, .slice none 0 c]).run Try.prog w = .ok v w := by
  obtain ⟨iv, hiv, hz0, hz1, hz2⟩ := info_parts infoP
  rcases h.2 with ⟨rfl, _⟩ | ⟨g, cap, cur, rfl, hb, hg, hnc, hcm, rest⟩
  · simp [Builtin.append_, run_underlying pieces_s, sizeOf, typeInfo, hiv, Builtin.lenOf, Builtin.firstCells, go_sem]
  · simp [Builtin.append_, run_underlying pieces_s, sizeOf, typeInfo, hiv, Builtin.lenOf, Builtin.firstCells, storeCells, hnc, go_sem]
theorem append_all {w : World} {v u : Value} {l m : List Pc} (h : PRow v l w) (h' : PRow u m w) (hb : l.length + m.length ≤ 1048576) :
    ∃ v' W', (∀ ty, (Builtin.append_ #[65, 65] ty #[v, u]).run Try.prog w = .ok v' W') ∧ PRow v' (l ++ m) W' ∧ (∀ k, Blk v' k → Blk v k ∨ w.heap.size ≤ k) ∧ Turn (Blk v) w W' := by
  obtain ⟨iv, hiv, hz0, hz1, hz2⟩ := info_parts infoP
  have key : ∀ (u : Value), PRow u m w → (u = .slice none 0 0 ∧ m = []) ∨ ∃ g c, u = .slice (some ⟨g, 0, none⟩) m.length c ∧ ∀ j x, (pcs m)[j]? = some x → w.cell? ((⟨g, 0, none⟩ : Addr).add j) = some x := fun u hu => by
    unfold PRow at hu
    rcases hu.2 with ⟨e, e2⟩ | ⟨g, cap, cur, e, _⟩
    · exact .inl ⟨e, List.eq_nil_of_length_eq_zero e2⟩
    · exact .inr ⟨g, cap, e, hu.cells (by rw [e]; rfl)⟩
  rcases key u h' with ⟨rfl, rfl⟩ | ⟨g, c, rfl, hc⟩
  · refine ⟨v, w, fun ty => append_nil h 0 ty, by rw [List.append_nil]; exact h, fun k hk => .inl hk, Turn.refl _ _⟩
  · obtain ⟨v', W', h1, h2, h3, _, h5⟩ := run_append_own_at (P := Try.prog) w 0 65 0 61 iv _ 5 40 pieces_s hiv hz0 hz1 hz2 rfl (by decide) v l.length (pcs l) h ⟨g, 0, none⟩ m.length c (pcs m) (pcs_len m) hc (pcs_one m) (by unfold maxLen; omega) (by omega) (Nat.zero_le _)
    refine ⟨v', W', fun ty => by rw [← h1]; rfl, ?_, fun k hk => ?_, (Turn.refl _ _).grown h3 (fun k hk => .inl hk)⟩
    · unfold PRow
      rw [List.length_append, pcs_app]
      exact h2
    · unfold Blk at hk ⊢
      rcases h5 with h5 | h5
      · rw [h5] at hk; exact .inl hk
      · rw [h5] at hk
        simp at hk
        exact .inr (by omega)

theorem pcs_setP (pr : Int) : ∀ (l : List Pc) (i : Nat) (p : Pc), l[i]? = some p → (pcs l).set (i * 5 + 4) (.int .i64 pr) = pcs (l.set i (withP pr p))
  | [], i, p, h => by simp at h
  | q :: l, 0, p, h => by
    simp at h
    subst h
    rfl
  | q :: l, i + 1, p, h => by
    have h1 := pcs_setP pr l i p (by simpa using h)
    have e : ∀ (m : List Value) (j : Nat) (v : Value), (q.cells ++ m).set (j + 5) v = q.cells ++ m.set j v := fun m j v => by rfl
    have f := e (pcs l) (i * 5 + 4) (.int .i64 pr)
    rw [pcs_cons, List.set_cons_succ, pcs_cons, ← h1, show (i + 1) * 5 + 4 = (i * 5 + 4) + 5 by omega]
    exact f
theorem PRow.prot {w : World} {g n c : Nat} {l : List Pc} (h : PRow (.slice (some ⟨g, 0, none⟩) n c) l w) (pr : Int) {i : Nat} {p : Pc} (hp : l[i]? = some p) :
    PRow (.slice (some ⟨g, 0, none⟩) n c) (l.set i (withP pr p)) (w.setCell ⟨g, i * 5 + 4, none⟩ (.int .i64 pr)) ∧ Turn (fun k => k = g) w (w.setCell ⟨g, i * 5 + 4, none⟩ (.int .i64 pr)) := by
  unfold PRow at h ⊢
  rw [List.length_set, ← pcs_setP pr l i p hp]
  obtain ⟨_, _, he⟩ := own_slice h
  simp at he
  obtain ⟨-, he, -⟩ := he
  subst he
  exact ⟨(h.stored (i * 5 + 4) (.int .i64 pr)).1, (Turn.refl (fun k => k = g) w).setCell (p := ⟨g, i * 5 + 4, none⟩) (.inl rfl) _⟩
/-- The first i pieces with another protection. -/
def protTo (pr : Int) (l : List Pc) (i : Nat) : List Pc := (l.take i).map (withP pr) ++ l.drop i
theorem protTo_zero (pr : Int) (l : List Pc) : protTo pr l 0 = l := by simp [protTo]
theorem protTo_len (pr : Int) (l : List Pc) (i : Nat) : (protTo pr l i).length = l.length := by unfold protTo; rw [List.length_append, List.length_map, List.length_take, List.length_drop]; omega
theorem protTo_all (pr : Int) (l : List Pc) : protTo pr l l.length = l.map (withP pr) := by simp [protTo]
theorem protTo_at (pr : Int) {l : List Pc} {i : Nat} {p : Pc} (hp : l[i]? = some p) : (protTo pr l i)[i]? = some p := by
  have hlt := (List.getElem?_eq_some_iff.1 hp).1
  unfold protTo
  rw [List.getElem?_append_right (by rw [List.length_map, List.length_take]; omega), List.length_map, List.length_take, Nat.min_eq_left (by omega), Nat.sub_self, List.getElem?_drop, Nat.add_zero]
  exact hp
theorem protTo_step (pr : Int) {l : List Pc} {i : Nat} {p : Pc} (hp : l[i]? = some p) : (protTo pr l i).set i (withP pr p) = protTo pr l (i + 1) := by
  have hlt := (List.getElem?_eq_some_iff.1 hp).1
  unfold protTo
  rw [List.set_append_right _ _ (by rw [List.length_map, List.length_take]; omega), List.length_map, List.length_take, Nat.min_eq_left (by omega), Nat.sub_self, List.drop_eq_getElem_cons hlt, (List.getElem?_eq_some_iff.1 hp).2, List.take_add_one, hp]
  simp
end Go.Proofs.Ytdddmjdlikjedaa
