/-
  own: a page's own frame. No conditions but that the set is one that calls can make.
-/
import Derived.Test.YtdhbhigoboamfaaVLack
namespace Go.Proofs.Ytdhbhigoboamfaa
open Go.ChangeShapes Go.WideShapes Go.ChangeAt Go.RowKit

def pgV (S : PL) (p : Nat) : Int := match S.g (p : Int) with | none => allocV S.L | some f => ownV S.L f
def pgL (S : PL) (p : Nat) : List Pg := match S.g (p : Int) with | none => allocL S.L | some f => ownL S.L f
theorem pg_none {S : PL} {p : Nat} (h : S.g (p : Int) = none) : pgV S p = allocV S.L ∧ pgL S p = allocL S.L := by unfold pgV pgL; rw [h]; exact ⟨rfl, rfl⟩
theorem pg_some {S : PL} {p : Nat} {f : Int} (h : S.g (p : Int) = some f) : pgV S p = ownV S.L f ∧ pgL S p = ownL S.L f := by unfold pgV pgL; rw [h]; exact ⟨rfl, rfl⟩
/-- No frame has so many users that one more is none. -/
def Few (L : List Pg) : Prop := ∀ p ∈ L, p.users < 4611686018427387904
theorem Few.users {L : List Pg} (h : Few L) (f : Int) : usersL L f < 4611686018427387904 := by
  unfold usersL pgAt
  split
  · rw [List.getD_eq_getElem?_getD]
    cases hf : L[f.toNat]? with
    | none => simp [Pg.none]
    | some p => exact h p (List.mem_of_getElem? hf)
  · simp [Pg.none]

section
variable {w : World} {s : Nat} {r : Rep} {M : Mod}
set_option maxRecDepth 20000 in
theorem own8_any (h : SMem w s r M) {i : Int} {o : Ob} {a pb : Nat} (hO : M.O i = some o) (hA : r.A i = some a) (hB : r.B i = some pb) (hf : Few M.L) (pg : Nat) (hpg : pg ≤ 4611686018427387904) :
    Calls Try.prog 68 #[.pointer (some ⟨s, 0, none⟩), .pointer (some ⟨a, 0, none⟩), .int .i64 pg] w fun e w' => e = .returned (.int .i64 (pgV ⟨M.L, o.pgs, o.cnt⟩ pg)) ∧
      ∃ F', SMem w' s { r with FP := F' } { M with L := pgL ⟨M.L, o.pgs, o.cnt⟩ pg } ∧ Turn r.FP w w' ∧ ∀ j, F' j → r.FP j ∨ w.heap.size ≤ j := by
  have hfit : fit (pg : Int) := by unfold fit; omega
  obtain ⟨x, xt, hx1, hx2, hx3, hx4⟩ := h.live hO
  rw [hA] at hx1
  rw [hB] at hx2
  cases hx1
  cases hx2
  have lk := PMap.look hx4 (pg : Int) hfit
  have d7 := (ocells hx3).c7
  have d0 := h.c0
  have H := Lib.hid h
  cases hgp : o.pgs (pg : Int) with
  | none =>
    obtain ⟨e1, e2⟩ := pg_none (S := ⟨M.L, o.pgs, o.cnt⟩) hgp
    rw [e1, e2]
    rw [hgp] at lk
    simp only [Option.getD_none, Option.isSome_none] at lk
    have c1 := alloc_any h.pool
    clear h hx3 hx4 hA hB hO hfit e1 e2 hf
    go_enter Try.func68, Try.ntmps68
    go_wp2_with (go_at_call 32; (with_reducible refine c1.mono ?_); rintro e w1 ⟨rfl, F', k1, k2, k3⟩; have K := Lib.hid (And.intro k1 (And.intro k2 k3)); clear k1 k2 k3)
    go_ret
    exact ⟨rfl, F', H.out.setPool K.out.1 K.out.2.1 K.out.2.2, K.out.2.1, K.out.2.2⟩
  | some f =>
    obtain ⟨e1, e2⟩ := pg_some (S := ⟨M.L, o.pgs, o.cnt⟩) hgp
    rw [e1, e2]
    rw [hgp] at lk
    simp only [Option.getD_some, Option.isSome_some] at lk
    have c1 := own_any h.pool f (hf.users f)
    clear h hx3 hx4 hA hB hO hfit e1 e2 hf
    go_enter Try.func68, Try.ntmps68
    go_wp2_with (go_at_call 37; (with_reducible refine c1.mono ?_); rintro e w1 ⟨rfl, F', k1, k2, k3⟩; have K := Lib.hid (And.intro k1 (And.intro k2 k3)); clear k1 k2 k3)
    go_ret
    exact ⟨rfl, F', H.out.setPool K.out.1 K.out.2.1 K.out.2.2, K.out.2.1, K.out.2.2⟩
end
end Go.Proofs.Ytdhbhigoboamfaa
