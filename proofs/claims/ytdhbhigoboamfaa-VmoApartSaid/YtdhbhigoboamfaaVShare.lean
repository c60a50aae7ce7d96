/-
  share: the pages of a child get the frames of its parent's. No conditions but that the set is one that calls can make.
-/
import Derived.Test.YtdhbhigoboamfaaVCommit2
import Derived.Test.YtdhbhigoboamfaaVSlice2
import Derived.Test.YtdhbhigoboamfaaVGood2
namespace Go.Proofs.Ytdhbhigoboamfaa
open Go.ChangeShapes Go.WideShapes Go.ChangeAt Go.RowKit

def shStep (pg : Int → Option Int) (first : Nat) (S : PL) (k : Nat) : PL :=
  match pg ((first : Int) + (k : Int)) with
  | none => S
  | some f => ⟨shareL S.L f, updI S.g (k : Int) (some f), if (S.g (k : Int)).isSome then S.c else S.c + 1⟩
def shAll (pg : Int → Option Int) (first : Nat) (S : PL) : Nat → PL
  | 0 => S
  | n + 1 => shStep pg first (shAll pg first S n) n
theorem shStep_none {pg : Int → Option Int} {first : Nat} {S : PL} {k : Nat} (h : pg ((first : Int) + (k : Int)) = none) : shStep pg first S k = S := by unfold shStep; rw [h]
theorem shStep_some {pg : Int → Option Int} {first : Nat} {S : PL} {k : Nat} {f : Int} (h : pg ((first : Int) + (k : Int)) = some f) : shStep pg first S k = ⟨shareL S.L f, updI S.g (k : Int) (some f), if (S.g (k : Int)).isSome then S.c else S.c + 1⟩ := by unfold shStep; rw [h]
def Ub (L : List Pg) (n : Nat) : Prop := ∀ f, usersL L f ≤ n
theorem ub_share {L : List Pg} {n : Nat} (h : Ub L n) (f : Int) : Ub (shareL L f) (n + 1) := fun g => by
  by_cases hu : usersL L f = 0
  · unfold shareL
    rw [if_pos hu]
    have := h g; omega
  · rw [share_users hu]
    have := h f
    have := h g
    split <;> omega

/-- What the loop of share holds. -/
structure HIn (w wr : World) (s : Nat) (r : Rep) (M : Mod) (j : Int) (o oc : Ob) (first U : Nat) (F : Nat → Prop) (S : PL) (k : Nat) : Prop where
  eq : S = shAll o.pgs first ⟨M.L, oc.pgs, oc.cnt⟩ k
  mem : SMem wr s { r with FP := F } (setM M j oc S)
  next : VNext w s r wr { r with FP := F }
  ub : Ub S.L (U + k)
  cnt : S.c ≤ oc.cnt + k

section
variable {w : World} {s : Nat} {r : Rep} {M : Mod}
theorem share_step {wr w5 : World} {j : Int} {o oc : Ob} {ca cpb first U k : Nat} {F : Nat → Prop} {S : PL} {f : Int} (h : HIn w wr s r M j o oc first U F S k) (hAc : r.A j = some ca) (hBc : r.B j = some cpb) (hk : k ≤ 64) (hg : o.pgs ((first : Int) + (k : Int)) = some f) (hfit : fit f) (hcnt : oc.cnt ≤ 1152921504606846976)
    (p5 : PoolAt w5 r.p F (shareL S.L f)) (t5 : Turn F wr w5) :
    w5.cell? ⟨ca, 7, none⟩ = some (.map (some cpb)) ∧ ∃ w6, Sem.run Try.prog (Instr.mapUpdate 86 (.map (some cpb)) (.int .i64 (k : Int)) (.int .i64 f)) w5 = .ok () w6 ∧ Hid (HIn w w6 s r M j o oc first U F (shStep o.pgs first S k) (k + 1)) := by
  have m5 := h.mem.setPool (F' := F) p5 t5 (fun j hj => .inl hj)
  have nx := pool_next (s := s) (r := { r with FP := F }) (F' := F) t5 (fun j hj => .inl hj)
  obtain ⟨x, xt, hx1, hx2, hx3, hx4⟩ := m5.live (i := j) (o := { oc with pgs := S.g, cnt := S.c }) (updI_same _ _ _)
  simp only at hx1 hx2
  rw [hAc] at hx1
  rw [hBc] at hx2
  cases hx1
  cases hx2
  refine ⟨(ocells hx3).c7, ?_⟩
  obtain ⟨w6, hrun, pm6, t6⟩ := hx4.put (by have := h.cnt; show S.c < maxLen; unfold maxLen; omega) (k : Int) f (by unfold fit; omega) hfit
  have m6 := m5.setOb (o' := { oc with pgs := (shStep o.pgs first S k).g, cnt := (shStep o.pgs first S k).c }) hAc hBc t6 (fun j hj => .inr hj) (t6.heap hx3 (fun e => m5.aB hAc hBc e)) (by rw [shStep_some hg]; exact pm6)
  refine ⟨w6, hrun, ?_, ?_, ?_, ?_, ?_⟩
  · rw [h.eq]; rfl
  · have e : { { (setM M j oc S) with L := shareL S.L f } with O := updI (setM M j oc S).O j (some { oc with pgs := (shStep o.pgs first S k).g, cnt := (shStep o.pgs first S k).c }) } = setM M j oc (shStep o.pgs first S k) := by
      unfold setM
      simp only [updI_twice]
      rw [shStep_some hg]
    rw [← e]
    exact m6
  · exact (h.next.trans nx).trans ⟨t6.mono (fun j' hj => .inl (.inr (.inr (.inr (.inr ⟨j, by subst hj; exact hBc⟩))))), fun j hj => .inl hj⟩
  · rw [shStep_some hg]
    exact ub_share h.ub f
  · rw [shStep_some hg]
    have := h.cnt
    show (if (S.g (k : Int)).isSome then S.c else S.c + 1) ≤ oc.cnt + (k + 1)
    split <;> omega

set_option maxRecDepth 20000 in
set_option maxHeartbeats 2000000 in
theorem share8_any (h : SMem w s r M) {i j : Int} {o oc : Ob} {a ca cpb : Nat} (hO : M.O i = some o) (hA : r.A i = some a) (hij : i ≠ j) (hOc : M.O j = some oc) (hAc : r.A j = some ca) (hBc : r.B j = some cpb) (first n U : Nat) (hsz : oc.size = 64 * n) (hn : n ≤ 64) (hfirst : first ≤ 1152921504606846976)
    (hfit : ∀ q f, o.pgs q = some f → fit f) (hU : Ub M.L U) (hUs : U ≤ 1152921504606846976) (hcnt : oc.cnt ≤ 1152921504606846976) :
    Calls Try.prog 56 #[.pointer (some ⟨s, 0, none⟩), .pointer (some ⟨a, 0, none⟩), .pointer (some ⟨ca, 0, none⟩), .int .i64 (first : Int)] w fun e w' => e = .returned (.tuple #[]) ∧ ∃ F, HIn w w' s r M j o oc first U F (shAll o.pgs first ⟨M.L, oc.pgs, oc.cnt⟩ n) n := by
  have HC := Lib.hid (show HIn w w s r M j o oc first U r.FP ⟨M.L, oc.pgs, oc.cnt⟩ 0 from ⟨rfl, by rw [setM_start hOc]; exact h, next_refl w s r, hU, Nat.le_refl _⟩)
  have d0 : w.cell? ⟨ca, 0, none⟩ = some (.int .i64 ((64 * n : Nat) : Int)) := by
    obtain ⟨x, xt, hx1, hx2, hx3, hx4⟩ := h.live hOc
    rw [hAc] at hx1
    cases hx1
    rw [← hsz]
    exact (ocells hx3).c0
  have eq1 : (((64 * n : Nat) : Int)).tdiv 64 = (n : Int) := by rw [Int.tdiv_eq_ediv_of_nonneg (by omega)]; omega
  have eq2 : (((64 * n : Nat) : Int)) / 64 = (n : Int) := by omega
  have ew : IntKind.i64.wrap (n : Int) = (n : Int) := wrap_nat n (by omega)
  have hnI : (n : Int) ≤ 64 := by omega
  have H := Lib.hid (And.intro hO (And.intro hA (And.intro hAc (And.intro hBc (And.intro hfit hcnt)))))
  generalize ((64 * n : Nat) : Int) = Z at *
  clear h hO hA hOc hAc hBc hsz hfit hU hcnt
  go_enter Try.func56, Try.ntmps56
  go_wp2_with fail
  go_loopg [16] n (fun g s16 wr => ∃ (k : Nat) (F : Nat → Prop) (S : PL), g = n - k ∧ k ≤ n ∧ s16 = .int .i64 k ∧ Hid (HIn w wr s r M j o oc first U F S k))
  case atStart => exact ⟨0, r.FP, _, rfl, by omega, rfl, HC.out⟩
  case round =>
    obtain ⟨k, F, S, hg, hk, rfl, HA⟩ := hrel
    by_cases hlt : k < n
    · obtain ⟨hO, hA, hAc, hBc, hfit, hcnt⟩ := H.out
      have hklI : (k : Int) < (n : Int) := by omega
      have hOi : (setM M j oc S).O i = some o := by show updI M.O j _ i = _; unfold updI; rw [if_neg hij]; exact hO
      obtain ⟨x, xt, hx1, hx2, hx3, hx4⟩ := HA.out.mem.live hOi
      simp only at hx1 hx2
      rw [hA] at hx1
      cases hx1
      have d7 := (ocells hx3).c7
      have d0' := HA.out.mem.c0
      have lk := PMap.look hx4 ((first : Int) + (k : Int)) (by unfold fit; omega)
      have hwk : IntKind.i64.wrap ((first : Int) + (k : Int)) = (first : Int) + (k : Int) := wrap_nat (first + k) (by omega)
      cases hgp : o.pgs ((first : Int) + (k : Int)) with
      | none =>
        rw [hgp] at lk
        simp only [Option.getD_none, Option.isSome_none] at lk
        have HN := Lib.hid (show HIn w wr s r M j o oc first U F (shStep o.pgs first S k) (k + 1) from by
          have hA := HA.out
          refine ⟨by rw [hA.eq]; rfl, ?_, hA.next, ?_, ?_⟩
          · rw [shStep_none hgp]; exact hA.mem
          · rw [shStep_none hgp]; intro g; have := hA.ub g; omega
          · rw [shStep_none hgp]; have := hA.cnt; omega)
        clear hO hA hAc hBc hfit hcnt hOi hx3 hx4 hgp
        go_wp2
        go_roundg (n - (k + 1))
        case measure => omega
        case rel => exact ⟨k + 1, F, _, rfl, by omega, by go_num, HN.out⟩
      | some f =>
        rw [hgp] at lk
        simp only [Option.getD_some, Option.isSome_some] at lk
        have hfew : usersL S.L f < 4611686018427387904 := by have := HA.out.ub f; omega
        have HS := Lib.hid (show Calls Try.prog 35 #[.pointer (some ⟨r.p, 0, none⟩), .int .i64 f] wr fun e w5 => (∃ z, e = .returned (.int .i64 z)) ∧ w5.cell? ⟨ca, 7, none⟩ = some (.map (some cpb)) ∧
            ∃ w6, Sem.run Try.prog (Instr.mapUpdate 86 (.map (some cpb)) (.int .i64 (k : Int)) (.int .i64 f)) w5 = .ok () w6 ∧ Hid (HIn w w6 s r M j o oc first U F (shStep o.pgs first S k) (k + 1)) from by
          refine (share_any HA.out.mem.pool f hfew).mono ?_
          rintro e w5 ⟨rfl, p5, t5⟩
          obtain ⟨y7, w6, hrun, hC⟩ := share_step HA.out hAc hBc (by omega) hgp (hfit _ _ hgp) hcnt p5 t5
          exact ⟨⟨_, rfl⟩, y7, w6, hrun, hC⟩)
        clear hO hA hAc hBc hfit hcnt hOi hx3 hx4 hgp hfew
        go_wp2_with (go_at_call 35; (with_reducible refine HS.out.mono ?_); rintro e w5 ⟨⟨z5, rfl⟩, y7, w6, hrun, K6⟩)
        go_roundg (n - (k + 1))
        case measure => omega
        case rel => exact ⟨k + 1, F, _, rfl, by omega, by go_num, K6.out⟩
    · obtain rfl : k = n := by omega
      go_wp2
      go_end0
      have hC := HA.out
      have e := hC.eq
      rw [← e]
      exact ⟨rfl, F, hC⟩
end
end Go.Proofs.Ytdhbhigoboamfaa
