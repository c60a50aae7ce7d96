/-
  What the reference's Write answers, whatever is asked. No conditions but that the reference's channel is one that calls can make.
-/
import Derived.Test.YtcbphfpfdfgehaaRCWrite2
namespace Go.Proofs.Ytcbphfpfdfgehaa
open Go.RowKit

section
variable {w0 w w' w1 w2 : World} {x depth : Nat} {S S' : Nat → MS} {U V : Nat → Value} {Q : Nat → List QM}
theorem RMk.before (t : Turn NoBlock w w1) (h : RMk w0 w1 w2 x depth U V S') : RMk w0 w w2 x depth U V S' := by
  obtain ⟨U', V', Q', h1, t1, h3⟩ := h
  have := t.size
  exact ⟨U', V', Q', h1, (TU (F := fun k => k = x) t).trans t1 (fun _ h => .inl h), fun k hk => (h3 k hk).imp (fun h => h) (fun h => ⟨by omega, h.2⟩)⟩
theorem rwriteT0 (h : RC w0 w x depth S U V Q) (t0 : Turn NoBlock w0 w) (hwl : (S 1).ws.length ≤ 1000000) (hql : (S 1).q.length ≤ 1000000) (m : Msg) (vd vh : Value) (hd : RzB w0 vd m.d) (hh : RzI w0 vh m.h) :
    Calls Try.prog 39 #[.pointer (some ⟨x, 0, none⟩), .int .i64 0, .agg #[.int .i64 m.tx, vd, vh]] w fun y w' => y = .returned (.tuple #[.int .i64 (cwN depth S 0 m), .int .i64 (cwS depth S 0 m)]) ∧ RMk w0 w w' x depth U V (cwK depth S 0 m) := by
  have no : ∀ u : Int, u ≠ 0 → cwS depth S 0 m = u → ∀ (y : Ending) (w' : World), (y = .returned (.tuple #[.int .i64 0, .int .i64 u]) ∧ Turn NoBlock w w') → y = .returned (.tuple #[.int .i64 (cwN depth S 0 m), .int .i64 (cwS depth S 0 m)]) ∧ RMk w0 w w' x depth U V (cwK depth S 0 m) := by
    rintro u hu hs y w' ⟨rfl, t⟩
    have hN : cwN depth S 0 m = 0 := by unfold cwN; rw [hs, if_neg hu]
    have hK : cwK depth S 0 m = S := by unfold cwK; rw [hs, if_neg hu]
    rw [hN, hK, hs]
    exact ⟨rfl, RMk.refl h t⟩
  cases ho : (S 0).op with
  | false => exact (rwrite_no0 h m vd vh (hd.past t0) (hh.past t0) _ (.inl ⟨rfl, ho⟩)).mono (no _ (by decide) (by unfold cwS; rw [if_pos ho]))
  | true =>
    have e1 : ¬ (S 0).op = false := by rw [ho]; decide
    by_cases hl : 4096 < m.d.length ∨ 64 < m.h.length
    · exact (rwrite_no0 h m vd vh (hd.past t0) (hh.past t0) _ (.inr (.inl ⟨rfl, ho, hl⟩))).mono (no _ (by decide) (by unfold cwS; rw [if_neg e1, if_pos hl]))
    · have hfit : m.fits := ⟨by omega, by omega⟩
      cases hp : (S 1).op with
      | false => exact (rwrite_no0 h m vd vh (hd.past t0) (hh.past t0) _ (.inr (.inr ⟨rfl, ho, hfit, hp⟩))).mono (no _ (by decide) (by unfold cwS; rw [if_neg e1, if_neg hl, if_pos (show (S (oth 0)).op = false from hp)]))
      | true => exact rwrite_yes0 h hwl hql ho hp m hfit vd vh hd hh
theorem rwriteT1 (h : RC w0 w x depth S U V Q) (t0 : Turn NoBlock w0 w) (hwl : (S 0).ws.length ≤ 1000000) (hql : (S 0).q.length ≤ 1000000) (m : Msg) (vd vh : Value) (hd : RzB w0 vd m.d) (hh : RzI w0 vh m.h) :
    Calls Try.prog 39 #[.pointer (some ⟨x, 0, none⟩), .int .i64 1, .agg #[.int .i64 m.tx, vd, vh]] w fun y w' => y = .returned (.tuple #[.int .i64 (cwN depth S 1 m), .int .i64 (cwS depth S 1 m)]) ∧ RMk w0 w w' x depth U V (cwK depth S 1 m) := by
  have no : ∀ u : Int, u ≠ 0 → cwS depth S 1 m = u → ∀ (y : Ending) (w' : World), (y = .returned (.tuple #[.int .i64 0, .int .i64 u]) ∧ Turn NoBlock w w') → y = .returned (.tuple #[.int .i64 (cwN depth S 1 m), .int .i64 (cwS depth S 1 m)]) ∧ RMk w0 w w' x depth U V (cwK depth S 1 m) := by
    rintro u hu hs y w' ⟨rfl, t⟩
    have hN : cwN depth S 1 m = 0 := by unfold cwN; rw [hs, if_neg hu]
    have hK : cwK depth S 1 m = S := by unfold cwK; rw [hs, if_neg hu]
    rw [hN, hK, hs]
    exact ⟨rfl, RMk.refl h t⟩
  cases ho : (S 1).op with
  | false => exact (rwrite_no1 h m vd vh (hd.past t0) (hh.past t0) _ (.inl ⟨rfl, ho⟩)).mono (no _ (by decide) (by unfold cwS; rw [if_pos ho]))
  | true =>
    have e1 : ¬ (S 1).op = false := by rw [ho]; decide
    by_cases hl : 4096 < m.d.length ∨ 64 < m.h.length
    · exact (rwrite_no1 h m vd vh (hd.past t0) (hh.past t0) _ (.inr (.inl ⟨rfl, ho, hl⟩))).mono (no _ (by decide) (by unfold cwS; rw [if_neg e1, if_pos hl]))
    · have hfit : m.fits := ⟨by omega, by omega⟩
      cases hp : (S 0).op with
      | false => exact (rwrite_no1 h m vd vh (hd.past t0) (hh.past t0) _ (.inr (.inr ⟨rfl, ho, hfit, hp⟩))).mono (no _ (by decide) (by unfold cwS; rw [if_neg e1, if_neg hl, if_pos (show (S (oth 1)).op = false from hp)]))
      | true => exact rwrite_yes1 h hwl hql ho hp m hfit vd vh hd hh
end
end Go.Proofs.Ytcbphfpfdfgehaa
