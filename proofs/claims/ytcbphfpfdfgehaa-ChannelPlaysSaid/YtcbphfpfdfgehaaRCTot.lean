/-
  What the reference's Call, Read and Close answer, whatever is asked: as functions of the planes. No conditions but that the reference's channel is one that calls can make.
-/
import Derived.Test.YtcbphfpfdfgehaaRCCall
import Derived.Test.YtcbphfpfdfgehaaRCClose
namespace Go.Proofs.Ytcbphfpfdfgehaa
open Go.RowKit

section
variable {w0 w w' : World} {x depth : Nat} {S : Nat → MS} {U V : Nat → Value} {Q : Nat → List QM}
theorem rcallT0 (h : RC w0 w x depth S U V Q) (t0 : Turn NoBlock w0 w) (hwl : ∀ e, e < 2 → (S e).ws.length ≤ 1000000) (hql : (S 1).q.length ≤ 1000000) (k : Int) (m : Msg) (vd vh : Value) (hd : RzB w0 vd m.d) (hh : RzI w0 vh m.h) :
    Calls Try.prog 43 #[.pointer (some ⟨x, 0, none⟩), .int .i64 0, .int .i64 k, .agg #[.int .i64 m.tx, vd, vh]] w fun y w' => y = .returned (.int .i64 (ccS depth S 0 m k)) ∧ RMk w0 w w' x depth U V (ccK depth S 0 m k) := by
  have no : ∀ u : Int, u ≠ 0 → ccS depth S 0 m k = u → ∀ (y : Ending) (w' : World), (y = .returned (.int .i64 u) ∧ Turn NoBlock w w') → y = .returned (.int .i64 (ccS depth S 0 m k)) ∧ RMk w0 w w' x depth U V (ccK depth S 0 m k) := by
    rintro u hu hs y w' ⟨rfl, t⟩
    have hK : ccK depth S 0 m k = S := by unfold ccK; rw [hs, if_neg hu]
    rw [hK, hs]
    exact ⟨rfl, RMk.refl h t⟩
  cases ho : (S 0).op with
  | false => exact (rcall_no0 h k m vd vh (hd.past t0) (hh.past t0) _ (.inl ⟨rfl, ho⟩)).mono (no _ (by decide) (by unfold ccS; rw [if_pos ho]))
  | true =>
    have e1 : ¬ (S 0).op = false := by rw [ho]; decide
    by_cases hb : m.tx = 0 ∨ k < 0
    · exact (rcall_no0 h k m vd vh (hd.past t0) (hh.past t0) _ (.inr ⟨rfl, ho, hb⟩)).mono (no _ (by decide) (by unfold ccS; rw [if_neg e1, if_pos hb]))
    · exact rcall_go0 h t0 hwl hql ho k (fun h => hb (.inr h)) m (fun h => hb (.inl h)) vd vh hd hh
theorem rreadT0 (h : RC w0 w x depth S U V Q) (t0 : Turn NoBlock w0 w) (hx : w0.heap.size ≤ x) (hql : (S 0).q.length ≤ 1000000) (b i : Int) :
    Calls Try.prog 40 #[.pointer (some ⟨x, 0, none⟩), .int .i64 0, .int .i64 b, .int .i64 i] w fun y w' => ∃ v, y = .returned (.tuple #[v, .int .i64 (crS S 0 b i)]) ∧ QTold w' v (crM S 0 b i) ∧ RMk w0 w w' x depth U V (crK S 0 b i) := by
  have no : ∀ st : Int, (crS S 0 b i = st ∧ crM S 0 b i = ⟨0, [], []⟩ ∧ crK S 0 b i = S) → ∀ (y : Ending) (w' : World), (y = .returned (.tuple #[.agg #[.int .i64 0, .slice none 0 0, .slice none 0 0], .int .i64 st]) ∧ Turn NoBlock w w') → ∃ v, y = .returned (.tuple #[v, .int .i64 (crS S 0 b i)]) ∧ QTold w' v (crM S 0 b i) ∧ RMk w0 w w' x depth U V (crK S 0 b i) := by
    rintro st ⟨e1, e2, e3⟩ y w' ⟨rfl, t⟩
    rw [e1, e2, e3]
    exact ⟨_, rfl, ⟨_, _, rfl, RdB.rz (Byts.rd (wrow_nil _ _ _)), RdI.rz (Nums.rd (wrow_nil _ _ _))⟩, RMk.refl h t⟩
  cases ho : (S 0).op with
  | false => exact (rread_no0 h b i _ (.inl ⟨rfl, ho⟩)).mono (no _ (cr_no0 b i _ (.inl ⟨rfl, ho⟩)))
  | true =>
    by_cases hn : b < 0 ∨ i < 0
    · exact (rread_no0 h b i _ (.inr (.inl ⟨rfl, ho, hn⟩))).mono (no _ (cr_no0 b i _ (.inr (.inl ⟨rfl, ho, hn⟩))))
    · have hmp := h.mp 0 (by omega)
      cases hq : Q 0 with
      | nil =>
        have hq0 : (S 0).q = [] := by rw [← hmp, hq]; rfl
        cases hp : (S 1).op with
        | false => exact (rread_no0 h b i _ (.inr (.inr (.inl ⟨rfl, ho, hn, hq0, hp⟩)))).mono (no _ (cr_no0 b i _ (.inr (.inr (.inl ⟨rfl, ho, hn, hq0, hp⟩)))))
        | true => exact (rread_no0 h b i _ (.inr (.inr (.inr ⟨rfl, ho, hn, hq0, hp⟩)))).mono (no _ (cr_no0 b i _ (.inr (.inr (.inr ⟨rfl, ho, hn, hq0, hp⟩)))))
      | cons q r =>
        have hq0 : (S 0).q = q.m :: r.map (·.m) := by rw [← hmp, hq]; rfl
        have hl : r.length ≤ 1000000 := by rw [hq0] at hql; simp at hql; omega
        have hqi := h.rd 0 (by omega) q (by rw [hq]; exact List.mem_cons_self)
        by_cases hb : b < q.m.d.length ∨ i < q.m.h.length
        · obtain ⟨e1, e2, e3⟩ := cr_big0 (S := S) b i ho hn hq0 hb
          refine (rread_big0 h b i ho hn hq hb hl).mono ?_
          rintro y w' ⟨v, rfl, h1, h2⟩
          rw [e1, e2, e3]
          exact ⟨v, rfl, h1, RMk.refl h h2⟩
        · obtain ⟨e1, e2, e3⟩ := cr_ok0 (S := S) b i ho hn hq0 hb
          refine (rread_ok0 h b i ho hn hq hb hl).mono ?_
          rintro y w' ⟨rfl, h1⟩
          rw [e1, e2, e3]
          obtain ⟨U', V', Q', hc, tx, ft⟩ := h1
          have tt : Turn NoBlock w0 w' := t0.trans tx (fun k hk => .inr (hk ▸ hx))
          exact ⟨q.agg, rfl, ⟨q.vd, q.vh, rfl, (hqi.past tt).d, (hqi.past tt).h⟩, U', V', Q', hc, tx, ft⟩
theorem rcloseT0 (h : RC w0 w x depth S U V Q) (t0 : Turn NoBlock w0 w) (hwl : ∀ e, e < 2 → (S e).ws.length ≤ 1000000) (hql : (S 0).q.length ≤ 1000000) :
    Calls Try.prog 47 #[.pointer (some ⟨x, 0, none⟩), .int .i64 0] w fun y w' => ∃ vh vc, y = .returned (.tuple #[vh, vc, .int .i64 (clS S 0)]) ∧ Nums vh (clH S 0) w' ∧ Nums vc (clW S 0) w' ∧ RMk w0 w w' x depth U V (clK S 0) := by
  unfold clS clH clW clK
  cases ho : (S 0).op with
  | false =>
    rw [if_pos rfl, if_pos rfl, if_pos rfl, if_pos rfl]
    refine (rclose_shut0 h ho).mono ?_
    rintro y w' ⟨rfl, rfl⟩
    exact ⟨_, _, rfl, wrow_nil _ _ _, wrow_nil _ _ _, RMk.refl h (Turn.refl _ _)⟩
  | true =>
    rw [if_neg (by decide), if_neg (by decide), if_neg (by decide), if_neg (by decide)]
    exact rclose_open0 h t0 hwl hql ho
theorem rcallT1 (h : RC w0 w x depth S U V Q) (t0 : Turn NoBlock w0 w) (hwl : ∀ e, e < 2 → (S e).ws.length ≤ 1000000) (hql : (S 0).q.length ≤ 1000000) (k : Int) (m : Msg) (vd vh : Value) (hd : RzB w0 vd m.d) (hh : RzI w0 vh m.h) :
    Calls Try.prog 43 #[.pointer (some ⟨x, 0, none⟩), .int .i64 1, .int .i64 k, .agg #[.int .i64 m.tx, vd, vh]] w fun y w' => y = .returned (.int .i64 (ccS depth S 1 m k)) ∧ RMk w0 w w' x depth U V (ccK depth S 1 m k) := by
  have no : ∀ u : Int, u ≠ 0 → ccS depth S 1 m k = u → ∀ (y : Ending) (w' : World), (y = .returned (.int .i64 u) ∧ Turn NoBlock w w') → y = .returned (.int .i64 (ccS depth S 1 m k)) ∧ RMk w0 w w' x depth U V (ccK depth S 1 m k) := by
    rintro u hu hs y w' ⟨rfl, t⟩
    have hK : ccK depth S 1 m k = S := by unfold ccK; rw [hs, if_neg hu]
    rw [hK, hs]
    exact ⟨rfl, RMk.refl h t⟩
  cases ho : (S 1).op with
  | false => exact (rcall_no1 h k m vd vh (hd.past t0) (hh.past t0) _ (.inl ⟨rfl, ho⟩)).mono (no _ (by decide) (by unfold ccS; rw [if_pos ho]))
  | true =>
    have e1 : ¬ (S 1).op = false := by rw [ho]; decide
    by_cases hb : m.tx = 0 ∨ k < 0
    · exact (rcall_no1 h k m vd vh (hd.past t0) (hh.past t0) _ (.inr ⟨rfl, ho, hb⟩)).mono (no _ (by decide) (by unfold ccS; rw [if_neg e1, if_pos hb]))
    · exact rcall_go1 h t0 hwl hql ho k (fun h => hb (.inr h)) m (fun h => hb (.inl h)) vd vh hd hh
theorem rreadT1 (h : RC w0 w x depth S U V Q) (t0 : Turn NoBlock w0 w) (hx : w0.heap.size ≤ x) (hql : (S 1).q.length ≤ 1000000) (b i : Int) :
    Calls Try.prog 40 #[.pointer (some ⟨x, 0, none⟩), .int .i64 1, .int .i64 b, .int .i64 i] w fun y w' => ∃ v, y = .returned (.tuple #[v, .int .i64 (crS S 1 b i)]) ∧ QTold w' v (crM S 1 b i) ∧ RMk w0 w w' x depth U V (crK S 1 b i) := by
  have no : ∀ st : Int, (crS S 1 b i = st ∧ crM S 1 b i = ⟨0, [], []⟩ ∧ crK S 1 b i = S) → ∀ (y : Ending) (w' : World), (y = .returned (.tuple #[.agg #[.int .i64 0, .slice none 0 0, .slice none 0 0], .int .i64 st]) ∧ Turn NoBlock w w') → ∃ v, y = .returned (.tuple #[v, .int .i64 (crS S 1 b i)]) ∧ QTold w' v (crM S 1 b i) ∧ RMk w0 w w' x depth U V (crK S 1 b i) := by
    rintro st ⟨e1, e2, e3⟩ y w' ⟨rfl, t⟩
    rw [e1, e2, e3]
    exact ⟨_, rfl, ⟨_, _, rfl, RdB.rz (Byts.rd (wrow_nil _ _ _)), RdI.rz (Nums.rd (wrow_nil _ _ _))⟩, RMk.refl h t⟩
  cases ho : (S 1).op with
  | false => exact (rread_no1 h b i _ (.inl ⟨rfl, ho⟩)).mono (no _ (cr_no1 b i _ (.inl ⟨rfl, ho⟩)))
  | true =>
    by_cases hn : b < 0 ∨ i < 0
    · exact (rread_no1 h b i _ (.inr (.inl ⟨rfl, ho, hn⟩))).mono (no _ (cr_no1 b i _ (.inr (.inl ⟨rfl, ho, hn⟩))))
    · have hmp := h.mp 1 (by omega)
      cases hq : Q 1 with
      | nil =>
        have hq0 : (S 1).q = [] := by rw [← hmp, hq]; rfl
        cases hp : (S 0).op with
        | false => exact (rread_no1 h b i _ (.inr (.inr (.inl ⟨rfl, ho, hn, hq0, hp⟩)))).mono (no _ (cr_no1 b i _ (.inr (.inr (.inl ⟨rfl, ho, hn, hq0, hp⟩)))))
        | true => exact (rread_no1 h b i _ (.inr (.inr (.inr ⟨rfl, ho, hn, hq0, hp⟩)))).mono (no _ (cr_no1 b i _ (.inr (.inr (.inr ⟨rfl, ho, hn, hq0, hp⟩)))))
      | cons q r =>
        have hq0 : (S 1).q = q.m :: r.map (·.m) := by rw [← hmp, hq]; rfl
        have hl : r.length ≤ 1000000 := by rw [hq0] at hql; simp at hql; omega
        have hqi := h.rd 1 (by omega) q (by rw [hq]; exact List.mem_cons_self)
        by_cases hb : b < q.m.d.length ∨ i < q.m.h.length
        · obtain ⟨e1, e2, e3⟩ := cr_big1 (S := S) b i ho hn hq0 hb
          refine (rread_big1 h b i ho hn hq hb hl).mono ?_
          rintro y w' ⟨v, rfl, h1, h2⟩
          rw [e1, e2, e3]
          exact ⟨v, rfl, h1, RMk.refl h h2⟩
        · obtain ⟨e1, e2, e3⟩ := cr_ok1 (S := S) b i ho hn hq0 hb
          refine (rread_ok1 h b i ho hn hq hb hl).mono ?_
          rintro y w' ⟨rfl, h1⟩
          rw [e1, e2, e3]
          obtain ⟨U', V', Q', hc, tx, ft⟩ := h1
          have tt : Turn NoBlock w0 w' := t0.trans tx (fun k hk => .inr (hk ▸ hx))
          exact ⟨q.agg, rfl, ⟨q.vd, q.vh, rfl, (hqi.past tt).d, (hqi.past tt).h⟩, U', V', Q', hc, tx, ft⟩
theorem rcloseT1 (h : RC w0 w x depth S U V Q) (t0 : Turn NoBlock w0 w) (hwl : ∀ e, e < 2 → (S e).ws.length ≤ 1000000) (hql : (S 1).q.length ≤ 1000000) :
    Calls Try.prog 47 #[.pointer (some ⟨x, 0, none⟩), .int .i64 1] w fun y w' => ∃ vh vc, y = .returned (.tuple #[vh, vc, .int .i64 (clS S 1)]) ∧ Nums vh (clH S 1) w' ∧ Nums vc (clW S 1) w' ∧ RMk w0 w w' x depth U V (clK S 1) := by
  unfold clS clH clW clK
  cases ho : (S 1).op with
  | false =>
    rw [if_pos rfl, if_pos rfl, if_pos rfl, if_pos rfl]
    refine (rclose_shut1 h ho).mono ?_
    rintro y w' ⟨rfl, rfl⟩
    exact ⟨_, _, rfl, wrow_nil _ _ _, wrow_nil _ _ _, RMk.refl h (Turn.refl _ _)⟩
  | true =>
    rw [if_neg (by decide), if_neg (by decide), if_neg (by decide), if_neg (by decide)]
    exact rclose_open1 h t0 hwl hql ho
end
end Go.Proofs.Ytcbphfpfdfgehaa
