/-
  Snapshots: VShare, VSnap, VSnapM, VCopy and VApart in one text (a claim holds 60 files). No conditions but that the set is one that calls can make.
-/
import Derived.Test.YtdhbhigoboamfaaVCommit2
import Derived.Test.YtdhbhigoboamfaaVSlice2
import Derived.Test.YtdhbhigoboamfaaVGood2
import Derived.Test.YtdhbhigoboamfaaVInv
import Derived.Test.YtdhbhigoboamfaaVRead2
namespace Go.Proofs.Ytdhbhigoboamfaa
open Go.ChangeShapes Go.WideShapes Go.ChangeAt Go.RowKit

def shStep (pg : Int → Option Int) (first : Nat) (S : PL) (k : Nat) : PL :=
  match pg ((first : Int) + (k : Int)) with
  | none => S
  | some f => ⟨shareL S.L f, updI S.g (k : Int) (some f), if (S.g (k : Int)).isSome then S.c else S.c + 1⟩
def shAll (pg : Int → Option Int) (first : Nat) (S : PL) : Nat → PL
  | 0 => S
  | n + 1 => shStep pg first (shAll pg first S n) n
theorem shStep_none {pg : Int → Option Int} {first : Nat} {S : PL} {k : Nat} (h : pg ((first : Int) + (k : Int)) = none) : shStep pg first S k = S := by unfold shStep; rw [h]
theorem shStep_some {pg : Int → Option Int} {first : Nat} {S : PL} {k : Nat} {f : Int} (h : pg ((first : Int) + (k : Int)) = some f) : shStep pg first S k = ⟨shareL S.L f, updI S.g (k : Int) (some f), if (S.g (k : Int)).isSome then S.c else S.c + 1⟩ := by unfold shStep; rw [h]
def Ub (L : List Pg) (n : Nat) : Prop := ∀ f, usersL L f ≤ n
theorem ub_share {L : List Pg} {n : Nat} (h : Ub L n) (f : Int) : Ub (shareL L f) (n + 1) := fun g => by
  by_cases hu : usersL L f = 0
  · unfold shareL
    rw [if_pos hu]
    have := h g; omega
  · rw [share_users hu]
    have := h f
    have := h g
    split <;> omega

/-- What the loop of share holds. -/
structure HIn (w wr : World) (s : Nat) (r : Rep) (M : Mod) (j : Int) (o oc : Ob) (first U : Nat) (F : Nat → Prop) (S : PL) (k : Nat) : Prop where
  eq : S = shAll o.pgs first ⟨M.L, oc.pgs, oc.cnt⟩ k
  mem : SMem wr s { r with FP := F } (setM M j oc S)
  next : VNext w s r wr { r with FP := F }
  ub : Ub S.L (U + k)
  cnt : S.c ≤ oc.cnt + k

section
variable {w : World} {s : Nat} {r : Rep} {M : Mod}
theorem share_step {wr w5 : World} {j : Int} {o oc : Ob} {ca cpb first U k : Nat} {F : Nat → Prop} {S : PL} {f : Int} (h : HIn w wr s r M j o oc first U F S k) (hAc : r.A j = some ca) (hBc : r.B j = some cpb) (hk : k ≤ 64) (hg : o.pgs ((first : Int) + (k : Int)) = some f) (hfit : fit f) (hcnt : oc.cnt ≤ 1152921504606846976)
    (p5 : PoolAt w5 r.p F (shareL S.L f)) (t5 : Turn F wr w5) :
    w5.cell? ⟨ca, 7, none⟩ = some (.map (some cpb)) ∧ ∃ w6, Sem.run Try.prog (Instr.mapUpdate 86 (.map (some cpb)) (.int .i64 (k : Int)) (.int .i64 f)) w5 = .ok () w6 ∧ Hid (HIn w w6 s r M j o oc first U F (shStep o.pgs first S k) (k + 1)) := by
  have m5 := h.mem.setPool (F' := F) p5 t5 (fun j hj => .inl hj)
  have nx := pool_next (s := s) (r := { r with FP := F }) (F' := F) t5 (fun j hj => .inl hj)
  obtain ⟨x, xt, hx1, hx2, hx3, hx4⟩ := m5.live (i := j) (o := { oc with pgs := S.g, cnt := S.c }) (updI_same _ _ _)
  simp only at hx1 hx2
  rw [hAc] at hx1
  rw [hBc] at hx2
  cases hx1
  cases hx2
  refine ⟨(ocells hx3).c7, ?_⟩
  obtain ⟨w6, hrun, pm6, t6⟩ := hx4.put (by have := h.cnt; show S.c < maxLen; unfold maxLen; omega) (k : Int) f (by unfold fit; omega) hfit
  have m6 := m5.setOb (o' := { oc with pgs := (shStep o.pgs first S k).g, cnt := (shStep o.pgs first S k).c }) hAc hBc t6 (fun j hj => .inr hj) (t6.heap hx3 (fun e => m5.aB hAc hBc e)) (by rw [shStep_some hg]; exact pm6)
  refine ⟨w6, hrun, ?_, ?_, ?_, ?_, ?_⟩
  · rw [h.eq]; rfl
  · have e : { { (setM M j oc S) with L := shareL S.L f } with O := updI (setM M j oc S).O j (some { oc with pgs := (shStep o.pgs first S k).g, cnt := (shStep o.pgs first S k).c }) } = setM M j oc (shStep o.pgs first S k) := by
      unfold setM
      simp only [updI_twice]
      rw [shStep_some hg]
    rw [← e]
    exact m6
  · exact (h.next.trans nx).trans ⟨t6.mono (fun j' hj => .inl (.inr (.inr (.inr (.inr ⟨j, by subst hj; exact hBc⟩))))), fun j hj => .inl hj⟩
  · rw [shStep_some hg]
    exact ub_share h.ub f
  · rw [shStep_some hg]
    have := h.cnt
    show (if (S.g (k : Int)).isSome then S.c else S.c + 1) ≤ oc.cnt + (k + 1)
    split <;> omega

set_option maxRecDepth 20000 in
set_option maxHeartbeats 2000000 in
theorem share8_any (h : SMem w s r M) {i j : Int} {o oc : Ob} {a ca cpb : Nat} (hO : M.O i = some o) (hA : r.A i = some a) (hij : i ≠ j) (hOc : M.O j = some oc) (hAc : r.A j = some ca) (hBc : r.B j = some cpb) (first n U : Nat) (hsz : oc.size = 64 * n) (hn : n ≤ 64) (hfirst : first ≤ 1152921504606846976)
    (hfit : ∀ q f, o.pgs q = some f → fit f) (hU : Ub M.L U) (hUs : U ≤ 1152921504606846976) (hcnt : oc.cnt ≤ 1152921504606846976) :
    Calls Try.prog 56 #[.pointer (some ⟨s, 0, none⟩), .pointer (some ⟨a, 0, none⟩), .pointer (some ⟨ca, 0, none⟩), .int .i64 (first : Int)] w fun e w' => e = .returned (.tuple #[]) ∧ ∃ F, HIn w w' s r M j o oc first U F (shAll o.pgs first ⟨M.L, oc.pgs, oc.cnt⟩ n) n := by
  have HC := Lib.hid (show HIn w w s r M j o oc first U r.FP ⟨M.L, oc.pgs, oc.cnt⟩ 0 from ⟨rfl, by rw [setM_start hOc]; exact h, next_refl w s r, hU, Nat.le_refl _⟩)
  have d0 : w.cell? ⟨ca, 0, none⟩ = some (.int .i64 ((64 * n : Nat) : Int)) := by
    obtain ⟨x, xt, hx1, hx2, hx3, hx4⟩ := h.live hOc
    rw [hAc] at hx1
    cases hx1
    rw [← hsz]
    exact (ocells hx3).c0
  have eq1 : (((64 * n : Nat) : Int)).tdiv 64 = (n : Int) := by rw [Int.tdiv_eq_ediv_of_nonneg (by omega)]; omega
  have eq2 : (((64 * n : Nat) : Int)) / 64 = (n : Int) := by omega
  have ew : IntKind.i64.wrap (n : Int) = (n : Int) := wrap_nat n (by omega)
  have hnI : (n : Int) ≤ 64 := by omega
  have H := Lib.hid (And.intro hO (And.intro hA (And.intro hAc (And.intro hBc (And.intro hfit hcnt)))))
  generalize ((64 * n : Nat) : Int) = Z at *
  clear h hO hA hOc hAc hBc hsz hfit hU hcnt
  go_enter Try.func56, Try.ntmps56
  go_wp2_with fail
  go_loopg [16] n (fun g s16 wr => ∃ (k : Nat) (F : Nat → Prop) (S : PL), g = n - k ∧ k ≤ n ∧ s16 = .int .i64 k ∧ Hid (HIn w wr s r M j o oc first U F S k))
  case atStart => exact ⟨0, r.FP, _, rfl, by omega, rfl, HC.out⟩
  case round =>
    obtain ⟨k, F, S, hg, hk, rfl, HA⟩ := hrel
    by_cases hlt : k < n
    · obtain ⟨hO, hA, hAc, hBc, hfit, hcnt⟩ := H.out
      have hklI : (k : Int) < (n : Int) := by omega
      have hOi : (setM M j oc S).O i = some o := by show updI M.O j _ i = _; unfold updI; rw [if_neg hij]; exact hO
      obtain ⟨x, xt, hx1, hx2, hx3, hx4⟩ := HA.out.mem.live hOi
      simp only at hx1 hx2
      rw [hA] at hx1
      cases hx1
      have d7 := (ocells hx3).c7
      have d0' := HA.out.mem.c0
      have lk := PMap.look hx4 ((first : Int) + (k : Int)) (by unfold fit; omega)
      have hwk : IntKind.i64.wrap ((first : Int) + (k : Int)) = (first : Int) + (k : Int) := wrap_nat (first + k) (by omega)
      cases hgp : o.pgs ((first : Int) + (k : Int)) with
      | none =>
        rw [hgp] at lk
        simp only [Option.getD_none, Option.isSome_none] at lk
        have HN := Lib.hid (show HIn w wr s r M j o oc first U F (shStep o.pgs first S k) (k + 1) from by
          have hA := HA.out
          refine ⟨by rw [hA.eq]; rfl, ?_, hA.next, ?_, ?_⟩
          · rw [shStep_none hgp]; exact hA.mem
          · rw [shStep_none hgp]; intro g; have := hA.ub g; omega
          · rw [shStep_none hgp]; have := hA.cnt; omega)
        clear hO hA hAc hBc hfit hcnt hOi hx3 hx4 hgp
        go_wp2
        go_roundg (n - (k + 1))
        case measure => omega
        case rel => exact ⟨k + 1, F, _, rfl, by omega, by go_num, HN.out⟩
      | some f =>
        rw [hgp] at lk
        simp only [Option.getD_some, Option.isSome_some] at lk
        have hfew : usersL S.L f < 4611686018427387904 := by have := HA.out.ub f; omega
        have HS := Lib.hid (show Calls Try.prog 35 #[.pointer (some ⟨r.p, 0, none⟩), .int .i64 f] wr fun e w5 => (∃ z, e = .returned (.int .i64 z)) ∧ w5.cell? ⟨ca, 7, none⟩ = some (.map (some cpb)) ∧
            ∃ w6, Sem.run Try.prog (Instr.mapUpdate 86 (.map (some cpb)) (.int .i64 (k : Int)) (.int .i64 f)) w5 = .ok () w6 ∧ Hid (HIn w w6 s r M j o oc first U F (shStep o.pgs first S k) (k + 1)) from by
          refine (share_any HA.out.mem.pool f hfew).mono ?_
          rintro e w5 ⟨rfl, p5, t5⟩
          obtain ⟨y7, w6, hrun, hC⟩ := share_step HA.out hAc hBc (by omega) hgp (hfit _ _ hgp) hcnt p5 t5
          exact ⟨⟨_, rfl⟩, y7, w6, hrun, hC⟩)
        clear hO hA hAc hBc hfit hcnt hOi hx3 hx4 hgp hfew
        go_wp2_with (go_at_call 35; (with_reducible refine HS.out.mono ?_); rintro e w5 ⟨⟨z5, rfl⟩, y7, w6, hrun, K6⟩)
        go_roundg (n - (k + 1))
        case measure => omega
        case rel => exact ⟨k + 1, F, _, rfl, by omega, by go_num, K6.out⟩
    · obtain rfl : k = n := by omega
      go_wp2
      go_end0
      have hC := HA.out
      have e := hC.eq
      rw [← e]
      exact ⟨rfl, F, hC⟩
end


def snapB (M : Mod) (i : Int) (o : Ob) (N : Nat) : Mod := { addM M (newOb (64 * N) i.toNat 0 0) with O := updI (addM M (newOb (64 * N) i.toNat 0 0)).O i (some (kid o)) }
def snapP (M : Mod) (o : Ob) (T N : Nat) : PL := shAll o.pgs T ⟨M.L, fun _ => none, 0⟩ N
def snapM (M : Mod) (i : Int) (o : Ob) (T N : Nat) : Mod := setM (snapB M i o N) ((M.made : Int) + 1) (newOb (64 * N) i.toNat 0 0) (snapP M o T N)

section
variable {w : World} {s : Nat} {r : Rep} {M : Mod}
set_option maxRecDepth 20000 in
set_option maxHeartbeats 1000000 in
theorem snap_yes (h : SMem w s r M) (hc : Chain M.O) (hh : Held M) (i : Int) (T N : Nat) (hi : fit i) {o : Ob} (hO : M.O i = some o) (hs : winS M i ((64 * T : Nat) : Int) ((64 * N : Nat) : Int) = 0) (hN : N ≤ 64) (hT : T ≤ 1152921504606846976 / 64) (hd : o.depth = 0) (hl : M.live < M.most) (hm : M.most ≤ 65536) (hmd : M.made < 4611686018427387904) (hk : o.kids < 4611686018427387904)
    (U : Nat) (hU : Ub M.L U) (hUs : U ≤ 1152921504606846976) :
    Calls Try.prog 19 #[.pointer (some ⟨s, 0, none⟩), .int .i64 i, .int .i64 ((64 * T : Nat) : Int), .int .i64 ((64 * N : Nat) : Int)] w fun e w' => e = .returned (.tuple #[.int .i64 ((M.made : Int) + 1), .int .i64 0]) ∧
      (∃ r', SMem w' s r' (snapM M i o T N) ∧ VNext w s r w' r') ∧ Ub (snapP M o T N).L (U + N) := by
  obtain ⟨a, pb, hA, hB, hcell, hpm⟩ := h.live hO
  have c := window_yes h hc i ((64 * T : Nat) : Int) ((64 * N : Nat) : Int) hi hO hA hs
  have d4 := (ocells hcell).c4
  rw [hd] at d4
  have halt := lt_of_block hcell
  have hids := h.ids i a hA
  have has := h.aS hA
  have hlen := h.pool.len
  have t0 : ∀ ob, Turn NoBlock w (w.alloc ob) := fun ob => (Turn.refl NoBlock w).alloc ob
  have hne : i ≠ (M.made : Int) + 1 := by omega
  have hfit : ∀ q f, o.pgs q = some f → fit f := fun q f hq => by
    obtain ⟨r1, r2, r3⟩ := users_range (hh i o q f hO hq)
    unfold fit; omega
  have eO : (addM M (newOb (64 * N) i.toNat 0 0)).O i = some o := by simp [addM, updI, hne, hO]
  have H := Lib.hid (fun ob (e : ob = .cells (newOb (64 * N) i.toNat 0 0).raw 88 (0, 0)) =>
    (add_yes8 (a := w.heap.size) (h.past (t0 ob)) (by subst e; exact heap_alloc_new w _) (fresh_not h) rfl rfl hl hm hmd).mono fun e w2 hw => by
      obtain ⟨k1, k2, k3⟩ := hw
      have eA : (addR r ((M.made : Int) + 1) w.heap.size (w.alloc ob).heap.size).A i = some a := by simp [addR, updI, hne, hA]
      have eA2 : (addR r ((M.made : Int) + 1) w.heap.size (w.alloc ob).heap.size).A ((M.made : Int) + 1) = some w.heap.size := by simp [addR, updI]
      have eB2 : (addR r ((M.made : Int) + 1) w.heap.size (w.alloc ob).heap.size).B ((M.made : Int) + 1) = some (w.alloc ob).heap.size := by simp [addR, updI]
      have nx := addM_next (i := (M.made : Int) + 1) (b := (w.alloc ob).heap.size) h (t0 ob) (Nat.le_refl _) (by simp) k3
      obtain ⟨a2, pb2, g1, g2, g3, g4⟩ := k2.live eO
      rw [eA] at g1
      cases g1
      obtain ⟨b1, b2⟩ := bump1 k2 eO eA
      have oc := ocells g3
      have hOi : (snapB M i o N).O i = some (kid o) := updI_same _ _ _
      have hOj : (snapB M i o N).O ((M.made : Int) + 1) = some (newOb (64 * N) i.toNat 0 0) := by
        show updI (updI M.O _ _) i _ _ = _
        unfold updI
        rw [if_neg (Ne.symm hne), if_pos rfl]
      have lk := OMap.look b1.omap ((M.made : Int) + 1) (by unfold fit; omega)
      rw [eA2] at lk
      have nx2 : VNext w s r (w2.setCell ⟨a, 2, none⟩ (.int .i64 ((o.kids : Int) + 1))) (addR r ((M.made : Int) + 1) w.heap.size (w.alloc ob).heap.size) :=
        nx.trans ⟨b2.mono (fun j hj => .inl (.inr (.inr (.inr (.inl ⟨i, by subst hj; exact eA⟩))))), fun j hj => .inl hj⟩
      have cS := (share8_any (M := snapB M i o N) b1 (i := i) (j := (M.made : Int) + 1) (o := kid o) (oc := newOb (64 * N) i.toNat 0 0) hOi eA hne hOj eA2 eB2 T N U rfl hN (by omega) hfit hU hUs (by show 0 ≤ _; omega)).mono
        (R' := fun e w' => e = .returned (.tuple #[]) ∧ (∃ r', SMem w' s r' (snapM M i o T N) ∧ VNext w s r w' r') ∧ Ub (snapP M o T N).L (U + N)) fun e w' hw => by
          obtain ⟨q1, F, q2⟩ := hw
          exact ⟨q1, ⟨_, q2.mem, nx2.trans q2.next⟩, q2.ub⟩
      exact (⟨k1, oc.c2, oc.f, b1.c3, lk, cS⟩ :
        e = .returned (.tuple #[.int .i64 ((M.made : Int) + 1), .int .i64 0]) ∧ w2.cell? ⟨a, 2, none⟩ = some (.int .i64 (o.kids : Int)) ∧ (∀ j, w2.frozen? ⟨a, j, none⟩ = false) ∧
          (w2.setCell ⟨a, 2, none⟩ (.int .i64 ((o.kids : Int) + 1))).cell? ⟨s, 3, none⟩ = some (.map (some r.mo)) ∧
          Sem.run Try.prog (Instr.lookup 81 (.map (some r.mo)) (.int .i64 ((M.made : Int) + 1)) false) (w2.setCell ⟨a, 2, none⟩ (.int .i64 ((o.kids : Int) + 1))) = .ok (.pointer (some ⟨w.heap.size, 0, none⟩)) (w2.setCell ⟨a, 2, none⟩ (.int .i64 ((o.kids : Int) + 1))) ∧
          Calls Try.prog 56 #[.pointer (some ⟨s, 0, none⟩), .pointer (some ⟨a, 0, none⟩), .pointer (some ⟨w.heap.size, 0, none⟩), .int .i64 (T : Int)] (w2.setCell ⟨a, 2, none⟩ (.int .i64 ((o.kids : Int) + 1))) fun e w' => e = .returned (.tuple #[]) ∧ (∃ r', SMem w' s r' (snapM M i o T N) ∧ VNext w s r w' r') ∧ Ub (snapP M o T N).L (U + N)))
  have HE := Lib.hid (show (newOb (64 * N) i.toNat 0 0).raw = #[.int .i64 ((64 * N : Nat) : Int), .int .i64 i, .int .i64 0, .int .i64 0, .int .i64 0, .int .i64 0, .bool false, .map none] from by
    unfold Ob.raw newOb
    simp only
    rw [Int.toNat_of_nonneg (by omega)]
    rfl)
  have hwk : IntKind.i64.wrap ((o.kids : Int) + 1) = (o.kids : Int) + 1 := wrap_nat (o.kids + 1) (by omega)
  have eq1 : (((64 * T : Nat) : Int)).tdiv 64 = (T : Int) := by rw [Int.tdiv_eq_ediv_of_nonneg (by omega)]; omega
  have eq2 : (((64 * T : Nat) : Int)) / 64 = (T : Int) := by omega
  have ew : IntKind.i64.wrap (T : Int) = (T : Int) := wrap_nat T (by omega)
  have hn1 : ¬ (4096 : Int) < ((64 * N : Nat) : Int) := by omega
  generalize ((64 * T : Nat) : Int) = ZT at *
  generalize ((64 * N : Nat) : Int) = ZN at *
  clear h hs hc hh hO hA hB hcell hpm hids t0 hne eO hfit hlen hd hl hU
  generalize newOb (64 * N) i.toNat 0 0 = ob0 at *
  generalize snapM M i o T N = SM at *
  generalize snapP M o T N = SP at *
  go_enter Try.func19, Try.ntmps19
  go_wp2_with (first
    | (go_at_call 55; (with_reducible refine c.mono ?_); rintro x w1 ⟨rfl, rfl⟩)
    | (go_at_call 48; (with_reducible refine (H.out _ (by rw [HE.out])).mono ?_); rintro x w2 ⟨rfl, y2, yf, y3, lk, k1⟩; have yf2 := yf 2; have K := Lib.hid k1; clear k1 yf)
    | (go_at_call 56; (with_reducible refine K.out.mono ?_); rintro x w3 ⟨rfl, k3⟩; have K3 := Lib.hid k3; clear k3))
  go_ret2
  exact ⟨rfl, K3.out⟩
end


theorem usedN_share {L : List Pg} {f : Int} (hu : usersL L f ≠ 0) : roomN (shareL L f) = roomN L := by
  obtain ⟨r1, r2, r3⟩ := users_range hu
  have hn : L[f.toNat]? = some L[f.toNat] := List.getElem?_eq_getElem r2
  have e : usersL L f = L[f.toNat].users := by
    unfold usersL pgAt
    rw [if_pos (by omega), List.getD_eq_getElem?_getD, hn]; rfl
  have hne : L[f.toNat].users ≠ 0 := by rw [← e]; exact hu
  have h := used_set L f.toNat ⟨usersL L f + 1, (pgAt L f).bytes⟩ _ hn
  rw [if_pos hne, if_pos (by simp)] at h
  unfold roomN shareL
  rw [if_neg hu]
  have hl : (L.set f.toNat ⟨usersL L f + 1, (pgAt L f).bytes⟩).length = L.length := List.length_set
  rw [hl]
  omega
def famS (M : Mod) (j : Int) (g : Int → Option Int) : Key → Option Int := fun k => if k.1 = j then g k.2 else famOf M.O k
structure ShI (M : Mod) (j : Int) (pg : Int → Option Int) (T : Nat) (n : Nat) (S : PL) : Prop where
  good : Good S.L (famS M j S.g)
  pgs : ∀ q, S.g q = if 0 ≤ q ∧ q < (n : Int) then pg ((T : Int) + q) else none
  bytes : ∀ g, (pgAt S.L g).bytes = (pgAt M.L g).bytes
  room : roomN S.L = roomN M.L
  cnt : S.c ≤ n
theorem sh_all {M : Mod} {i j : Int} {o : Ob} (h : Good M.L (famOf M.O)) (hO : M.O i = some o) (hij : i ≠ j) (hj : M.O j = none) (T : Nat) : ∀ n, ShI M j o.pgs T n (shAll o.pgs T ⟨M.L, fun _ => none, 0⟩ n) := by
  intro n
  induction n with
  | zero =>
    refine ⟨h.congr (fun k => ?_), fun q => ?_, fun _ => rfl, rfl, Nat.le_refl _⟩
    · unfold famS
      by_cases e : k.1 = j
      · rw [if_pos e]; unfold famOf; rw [e, hj]; rfl
      · rw [if_neg e]
    · rw [if_neg (by omega)]; rfl
  | succ n ih =>
    show ShI M j o.pgs T (n + 1) (shStep o.pgs T (shAll o.pgs T ⟨M.L, fun _ => none, 0⟩ n) n)
    generalize shAll o.pgs T ⟨M.L, fun _ => none, 0⟩ n = S at *
    cases hg : o.pgs ((T : Int) + (n : Int)) with
    | none =>
      rw [shStep_none hg]
      refine ⟨ih.good, fun q => ?_, ih.bytes, ih.room, Nat.le_succ_of_le ih.cnt⟩
      rw [ih.pgs]
      by_cases e : q = (n : Int)
      · subst e
        rw [if_neg (by omega), if_pos (by omega), hg]
      · by_cases e2 : 0 ≤ q ∧ q < (n : Int)
        · rw [if_pos e2, if_pos (by omega)]
        · rw [if_neg e2, if_neg (by omega)]
    | some f =>
      rw [shStep_some hg]
      have hk : famS M j S.g (i, (T : Int) + (n : Int)) = some f := by
        unfold famS
        rw [if_neg hij, fam_at hO, hg]
      have hn0 : S.g (n : Int) = none := by rw [ih.pgs, if_neg (by omega)]
      have hk' : famS M j S.g (j, (n : Int)) = none := by
        unfold famS
        rw [if_pos rfl]; exact hn0
      have hu := ih.good.pos hk
      refine ⟨(ih.good.share hk hk').congr (fun k => ?_), fun q => ?_, fun g => ?_, ?_, ?_⟩
      · show (if k.1 = j then updI S.g (n : Int) (some f) k.2 else famOf M.O k) = (if k = (j, (n : Int)) then some f else if k.1 = j then S.g k.2 else famOf M.O k)
        unfold updI
        by_cases e : k = (j, (n : Int))
        · subst e
          rw [if_pos rfl, if_pos rfl, if_pos rfl]
        · rw [if_neg e]
          by_cases e2 : k.1 = j
          · rw [if_pos e2, if_pos e2, if_neg (fun h => e (Prod.ext e2 h))]
          · rw [if_neg e2, if_neg e2]
      · show updI S.g (n : Int) (some f) q = _
        unfold updI
        by_cases e : q = (n : Int)
        · subst e
          rw [if_pos rfl, if_pos (by omega), hg]
        · rw [if_neg e, ih.pgs]
          by_cases e2 : 0 ≤ q ∧ q < (n : Int)
          · rw [if_pos e2, if_pos (by omega)]
          · rw [if_neg e2, if_neg (by omega)]
      · show (pgAt (shareL S.L f) g).bytes = _
        rw [share_bytes, ih.bytes]
      · show roomN (shareL S.L f) = _
        rw [usedN_share hu, ih.room]
      · show (if (S.g (n : Int)).isSome then S.c else S.c + 1) ≤ n + 1
        have := ih.cnt
        split <;> omega

theorem Chain.add {O : Int → Option Ob} (h : Chain O) {j : Int} {x : Ob} (hj : O j = none) (hs : x.size ≤ 4294967296 ∧ x.frm ≤ 4294967296 ∧ x.depth ≤ 16) (hu : 0 < x.depth → ∃ q, O (x.par : Int) = some q ∧ q.depth + 1 = x.depth) (hp : 0 < x.depth → x.pgs = fun _ => none) : Chain (updI O j (some x)) := by
  have keep : ∀ k q, O k = some q → updI O j (some x) k = some q := fun k q hk => by
    unfold updI
    rw [if_neg (fun e => by rw [e, hj] at hk; cases hk)]
    exact hk
  refine ⟨fun k y hy hd => ?_, fun k y hy => ?_, fun k y hy hd => ?_⟩
  all_goals
    unfold updI at hy
    by_cases e : k = j
    · rw [if_pos e] at hy
      cases hy
      first
        | (obtain ⟨q, h1, h2⟩ := hu hd; exact ⟨q, keep _ _ h1, h2⟩)
        | exact hs
        | exact hp hd
    · rw [if_neg e] at hy
      first
        | (obtain ⟨q, h1, h2⟩ := h.up k y hy hd; exact ⟨q, keep _ _ h1, h2⟩)
        | exact h.small k y hy
        | exact h.pgs k y hy hd
theorem Ub.few {L : List Pg} {n : Nat} (h : Ub L n) (hn : n < 4611686018427387904) : Few L := fun p hp => by
  obtain ⟨k, hk, rfl⟩ := List.getElem_of_mem hp
  have h2 := h k
  unfold usersL at h2
  rw [pgAt_nat, List.getD_eq_getElem?_getD, List.getElem?_eq_getElem hk] at h2
  have h3 : L[k].users ≤ n := h2
  omega
def snapO (M : Mod) (i : Int) (o : Ob) (T N : Nat) : Ob := { newOb (64 * N) i.toNat 0 0 with pgs := (snapP M o T N).g, cnt := (snapP M o T N).c }
structure SnI (M : Mod) (i : Int) (o : Ob) (T N : Nat) : Prop where
  inv : Inv8 (snapM M i o T N)
  ob : ∀ k, (snapM M i o T N).O k = if k = (M.made : Int) + 1 then some (snapO M i o T N) else if k = i then some (kid o) else M.O k
  flat : ∀ g x, fl (snapM M i o T N).L g x = fl M.L g x
  child : ∀ x, x < 64 * N → fl (snapM M i o T N).L (snapO M i o T N).pgs x = fl M.L o.pgs (64 * T + x)
  room : roomN (snapM M i o T N).L = roomN M.L
  cnt : (snapO M i o T N).cnt ≤ N
theorem snap_inv {M : Mod} {i : Int} {o : Ob} (h : Inv8 M) (hO : M.O i = some o) (hd : o.depth = 0) (hj : M.O ((M.made : Int) + 1) = none) (T N U : Nat) (hN : N ≤ 64) (hub : Ub (snapP M o T N).L U) (hU : U < 4611686018427387904) : SnI M i o T N := by
  have hij : i ≠ (M.made : Int) + 1 := fun e => by rw [e, hj] at hO; cases hO
  have sh : ShI M ((M.made : Int) + 1) o.pgs T N (snapP M o T N) := sh_all h.good hO hij hj T N
  have eO : ∀ k, (snapM M i o T N).O k = if k = (M.made : Int) + 1 then some (snapO M i o T N) else if k = i then some (kid o) else M.O k := fun k => by
    show updI (updI (updI M.O _ _) i _) _ _ k = _
    unfold updI
    by_cases e : k = (M.made : Int) + 1
    · rw [if_pos e, if_pos e]; rfl
    · rw [if_neg e, if_neg e, if_neg e]
  have eF : (snapM M i o T N).O = updI (updI M.O ((M.made : Int) + 1) (some (snapO M i o T N))) i (some (kid o)) := by
    funext k
    rw [eO]
    unfold updI
    by_cases e : k = (M.made : Int) + 1
    · rw [if_pos e, if_neg (fun e2 : k = i => hij (by rw [← e2, e])), if_pos e]
    · rw [if_neg e, if_neg e]
  have efl : ∀ g x, fl (snapM M i o T N).L g x = fl M.L g x := fun g x => by
    unfold fl cont
    show (match g ((x / 64 : Nat) : Int) with | none => blank | some f => (pgAt (snapP M o T N).L f).bytes).getD _ 0 = _
    cases g ((x / 64 : Nat) : Int) with
    | none => rfl
    | some f => simp only; rw [sh.bytes]
  refine ⟨⟨?_, ?_, hub.few hU⟩, eO, efl, fun x hx => ?_, sh.room, sh.cnt⟩
  · refine sh.good.congr (fun k => ?_)
    unfold famS famOf
    rw [eO]
    by_cases e : k.1 = (M.made : Int) + 1
    · rw [if_pos e, if_pos e]; rfl
    · rw [if_neg e, if_neg e]
      by_cases e2 : k.1 = i
      · rw [if_pos e2, e2, hO]; rfl
      · rw [if_neg e2]
  · rw [eF]
    exact (h.chain.add hj (by refine ⟨?_, ?_, ?_⟩ <;> (show _ ≤ _; unfold snapO newOb; simp; try omega)) (fun h => by exact absurd h (Nat.lt_irrefl 0)) (fun h => by exact absurd h (Nat.lt_irrefl 0))).upd (i := i) (o := o) (by unfold updI; rw [if_neg hij]; exact hO) rfl rfl rfl rfl (fun h => by have : 0 < o.depth := h; omega)
  · rw [efl]
    unfold fl
    show (cont M.L ((snapP M o T N).g _)).getD _ 0 = _
    rw [sh.pgs, if_pos (by omega), show (64 * T + x) / 64 = T + x / 64 by omega, show (64 * T + x) % 64 = x % 64 by omega]
    rfl


set_option maxRecDepth 20000 in
theorem copy7_any (w : World) (g c n : Nat) (bs : List UInt8) (hl : bs.length = n) (h0 : 0 < n) (hn : n ≤ 4096) (hs : Byts (.slice (some ⟨g, 0, none⟩) n c) bs w) :
    Calls Try.prog 22 #[.slice (some ⟨g, 0, none⟩) n c] w fun e w' => ∃ g' c', e = .returned (.slice (some ⟨g', 0, none⟩) n c') ∧ Byts (.slice (some ⟨g', 0, none⟩) n c') bs w' ∧ w.heap.size ≤ g' ∧ Turn NoBlock w w' := by
  obtain ⟨iv, hi5, hz0, hz1, hz2⟩ := info_parts info5
  obtain ⟨g0, c0, hv, -, hnews⟩ := byts_news hs hl h0
  simp only [Value.slice.injEq, Option.some.injEq, Addr.mk.injEq, true_and, and_true] at hv
  obtain ⟨rfl, rfl⟩ := hv
  have HN := Lib.hid hnews
  have q1 : 0 + n ≤ maxLen := by unfold maxLen; omega
  have q2 : (0 + n) * 1 ≤ 140737488355328 := by omega
  have HQ := Lib.hid (And.intro q1 q2)
  have HL := Lib.hid hl
  have H0 := Lib.hid h0
  clear hs hl hnews hn q1 q2 h0
  go_enter Try.func22, Try.ntmps22
  go_wp2_with (at_builtin; refine wpList_append_lies _ rfl (.tmp 4) (.tmp 5) 22 rfl 0 5 iv _ 1 1 bytes31 hi5 hz0 hz1 hz2 rfl (by decide) (.slice none 0 0) 0 [] rfl (World.ownsRow_nil _ _ _ _) ⟨g, 0, none⟩ n c (bcells bs) rfl (by rw [bcells_len, HL.out, Nat.mul_one]) HN.out (bcells_one _) H0.out HQ.out.1 HQ.out.2 (Nat.zero_le _) _ rfl ?_; intro g6 c6 w6 hown hgrow hat hlt6; rw [Nat.zero_add] at hown ⊢; have K6 := Lib.hid (And.intro hown (And.intro hgrow hat)); clear hown hgrow hat hlt6)
  go_ret
  obtain ⟨k1, k2, k3⟩ := K6.out
  refine ⟨g6, c6, rfl, ?_, ?_, (Turn.refl NoBlock w).grown k2 (fun k e => by cases e)⟩
  · unfold Byts
    rw [HL.out]
    simpa using k1
  · rcases k3 with k3 | k3
    · cases k3
    · omega

theorem byts_cap {w : World} {g n c : Nat} {bs : List UInt8} (h : Byts (.slice (some ⟨g, 0, none⟩) n c) bs w) (hl : bs.length = n) : n ≤ c := by
  unfold Byts at h
  rw [hl] at h
  rcases h.2 with ⟨h1, _⟩ | ⟨g', cap, cur, h1, h2⟩
  · cases h1
  · simp only [Value.slice.injEq, Option.some.injEq, Addr.mk.injEq, true_and, and_true] at h1
    obtain ⟨rfl, rfl⟩ := h1
    omega

/-- Bytes laid over others, in a slice of the call's own. -/
theorem copy_in8 (w : World) (gw o m n sc dc N c : Nat) (D sp : Option Addr) (xs bs : List UInt8) (hD : 0 < n → D = some ⟨gw, o, none⟩) (hm : n ≤ m) (hb : o + n ≤ N) (hx : xs.length = N) (hbl : bs.length = n) (hv : Src w (.slice sp n sc) bs)
    (hown : Byts (.slice (some ⟨gw, 0, none⟩) N c) xs w) :
    ∃ W, (∀ ty, (Builtin.copy_ #[22, 22] ty #[.slice D m dc, .slice sp n sc]).run Try.prog w = .ok (goInt n) W) ∧ Byts (.slice (some ⟨gw, 0, none⟩) N c) (putB xs o bs) W ∧ Turn (fun j => j = gw) w W := by
  have hl : (putB xs o bs).length = N := by rw [putB_len (by omega), hx]
  unfold Byts at hown ⊢
  rw [hx] at hown
  have hput := own_putAt (bcells bs) o w (bcells xs) hown (by rw [bcells_len, bcells_len, hx, hbl]; omega)
  have e : putAt (bcells xs) o (bcells bs) = bcells (putB xs o bs) := by
    unfold putAt putB
    rw [bcells_len]
    simp [bcells]
  rw [e] at hput
  rw [hl]
  refine ⟨w.setCells gw o (bcells bs), fun ty => ?_, hput, turn_setCells (F := fun j => j = gw) rfl _ _ _ _ (Turn.refl _ _)⟩
  by_cases h0 : n = 0
  · subst h0
    obtain rfl : bs = [] := List.eq_nil_of_length_eq_zero hbl
    exact run_copy_none (P := Try.prog) w 22 22 ty 5 D sp m dc 0 sc bytes31 elem5 (Nat.zero_min _)
  · rw [hD (by omega)]
    rcases hv with ⟨h1, h2⟩ | ⟨g', off, c, h1, h2⟩
    · subst h2; simp at hbl; omega
    · simp only [Value.slice.injEq] at h1
      obtain ⟨rfl, -, rfl⟩ := h1
      have := run_copy_cells (P := Try.prog) w 22 22 ty 5 gw o m dc ⟨g', off, none⟩ n sc (bcells bs) bytes31 elem5 (by rw [bcells_len, hbl]; exact (Nat.min_eq_left (by omega)).symm) (fun j v hj => ?_) (fun j hj => ?_) (fun j _ => hown.frozenAt _) (bcells_one bs)
      · rw [bcells_len, hbl] at this
        exact this
      · have hlt : j < bs.length := by
          have := (List.getElem?_eq_some_iff.1 hj).1
          rwa [bcells_len] at this
        rw [Addr.add_mid, h2 j hlt, ← hj]
        simp [bcells, List.getD, List.getElem?_eq_getElem hlt]
      · rw [bcells_len, hbl] at hj
        rw [hown.cellAt (o + j) (by omega), List.getElem?_eq_getElem (by rw [bcells_len]; omega)]; rfl
theorem win_from8 (g b N c : Nat) (hb : b < N) (hN : N ≤ c) : ∀ w, Sem.run Try.prog (Instr.slice 22 (.slice (some ⟨g, 0, none⟩) N c) (some (.int .i64 (b : Int))) none none) w = .ok (.slice (some ⟨g, b, none⟩) (N - b) (c - b)) w := fun w => by
  have ht : Try.prog.underlying 22 = some (.slice (Try.prog.elem 22)) := by kernel_rfl
  have hsz : (sizeOf (Try.prog.elem 22)).run Try.prog w = .ok 1 w := by kernel_rfl
  have := run_slice_l (P := Try.prog) w 22 (some ⟨g, 0, none⟩) N c ht .i64 (b : Int) (by omega) (by omega)
  rw [hsz] at this
  simp only [Result.andThen, Int.toNat_natCast] at this
  rw [this]
  have h0 : ¬ c = b := by omega
  simp [sliced, h0, Addr.add]
  try omega
/-- Bytes of the call's own and what a call does to others. -/
theorem Byts.beside8 {w w' : World} {g n c : Nat} {F : Nat → Prop} {bs : List UInt8} (h : Byts (.slice (some ⟨g, 0, none⟩) n c) bs w) (t : Turn F w w') (hn : ¬ F g) : Byts (.slice (some ⟨g, 0, none⟩) n c) bs w' :=
  (own_byts _ bs).kept _ _ _ h t (fun j hj e => by
    simp [Blk, Value.ownBlock] at hj
    subst hj; exact hn e)
theorem src_from {w : World} {g b n c : Nat} {bs : List UInt8} (h : Byts (.slice (some ⟨g, 0, none⟩) n c) bs w) (hl : bs.length = n) (hb : b < n) (c' : Nat) : Src w (.slice (some ⟨g, b, none⟩) (n - b) c') (bs.drop b) := by
  obtain ⟨g0, c0, hv, -, hnews⟩ := byts_news h hl (by omega)
  simp only [Value.slice.injEq, Option.some.injEq, Addr.mk.injEq, true_and, and_true] at hv
  obtain ⟨rfl, rfl⟩ := hv
  refine .inr ⟨g, b, c', by rw [List.length_drop, hl], fun j hj => ?_⟩
  rw [List.length_drop] at hj
  have h2 := hnews (b + j) (.int .u8 ((bs.getD (b + j) 0).toNat : Int)) (by
    unfold bcells
    rw [List.getElem?_map, List.getElem?_eq_getElem (by omega)]
    simp [List.getD, List.getElem?_eq_getElem (show b + j < bs.length by omega)])
  rw [add_plain] at h2
  rw [← show b + j = b + j from rfl]
  have e : (bs.drop b).getD j 0 = bs.getD (b + j) 0 := by simp [List.getD, List.getElem?_drop]
  rw [e]
  simpa using h2


theorem slice_inv {M : Mod} {i : Int} {o : Ob} (h : Inv8 M) (hO : M.O i = some o) (hi : 0 ≤ i) (hj : M.O ((M.made : Int) + 1) = none) (t n : Int) (ht : t.toNat ≤ 4294967296) (hn : n.toNat ≤ 4294967296) (hd : o.depth < 16) :
    Inv8 (sliceM M i o t n) ∧ ∀ k, (sliceM M i o t n).O k = if k = (M.made : Int) + 1 then some (newOb n.toNat i.toNat (o.depth + 1) t.toNat) else if k = i then some (kidS o) else M.O k := by
  have hij : i ≠ (M.made : Int) + 1 := fun e => by rw [e, hj] at hO; cases hO
  have eO : ∀ k, (sliceM M i o t n).O k = if k = (M.made : Int) + 1 then some (newOb n.toNat i.toNat (o.depth + 1) t.toNat) else if k = i then some (kidS o) else M.O k := fun k => by
    show updI (updI M.O _ _) i _ k = _
    unfold updI
    by_cases e : k = (M.made : Int) + 1
    · rw [if_neg (fun e2 : k = i => hij (by rw [← e2, e])), if_pos e, if_pos e]
    · rw [if_neg e, if_neg e]
  refine ⟨⟨h.good.congr (fun k => ?_), ?_, h.few⟩, eO⟩
  · unfold famOf
    rw [eO]
    by_cases e : k.1 = (M.made : Int) + 1
    · rw [if_pos e, e, hj]; rfl
    · rw [if_neg e]
      by_cases e2 : k.1 = i
      · rw [if_pos e2, e2, hO]; rfl
      · rw [if_neg e2]
  · show Chain (updI (updI M.O _ _) i _)
    exact (h.chain.add hj (x := newOb n.toNat i.toNat (o.depth + 1) t.toNat) ⟨hn, ht, by show o.depth + 1 ≤ 16; omega⟩ (fun _ => ⟨o, by show M.O ((i.toNat : Nat) : Int) = _; rw [Int.toNat_of_nonneg hi]; exact hO, rfl⟩) (fun _ => rfl)).upd (i := i) (o := o) (by unfold updI; rw [if_neg hij]; exact hO) rfl rfl rfl rfl (fun h0 => h.chain.pgs i o hO h0)

/-- Bytes read from a place on; bytes laid over others. -/
def cut (C : Nat → UInt8) (t n : Nat) : List UInt8 := (List.range n).map fun j => C (t + j)
def lay (C : Nat → UInt8) (t : Nat) (bs : List UInt8) : Nat → UInt8 := fun x => if t ≤ x ∧ x < t + bs.length then bs.getD (x - t) 0 else C x
theorem cut_len (C : Nat → UInt8) (t n : Nat) : (cut C t n).length = n := by simp [cut]
theorem cut_at (C : Nat → UInt8) (t n j : Nat) (h : j < n) : (cut C t n).getD j 0 = C (t + j) := by simp [cut, List.getD, h]
theorem list_ext {a b : List UInt8} (hl : a.length = b.length) (h : ∀ j, j < a.length → a.getD j 0 = b.getD j 0) : a = b := by
  apply List.ext_getElem hl
  intro j h1 h2
  have := h j h1
  simpa [List.getD, List.getElem?_eq_getElem h1, List.getElem?_eq_getElem h2] using this
theorem cut_lay (C : Nat → UInt8) (t N : Nat) (bs : List UInt8) (h : t + bs.length ≤ N) : cut (lay C t bs) 0 N = putB (cut C 0 N) t bs := by
  refine list_ext (by rw [cut_len, putB_len (by rw [cut_len]; exact h), cut_len]) (fun j hj => ?_)
  rw [cut_len] at hj
  rw [cut_at _ _ _ _ hj, putB_at _ _ _ _ (by rw [cut_len]; exact h), cut_at _ _ _ _ hj, Nat.zero_add]
  rfl
theorem cut_drop (C : Nat → UInt8) (t N : Nat) (h : t ≤ N) : (cut C 0 N).drop t = cut C t (N - t) := by
  refine list_ext (by rw [List.length_drop, cut_len, cut_len]) (fun j hj => ?_)
  rw [List.length_drop, cut_len] at hj
  rw [cut_at _ _ _ _ hj]
  have e : ((cut C 0 N).drop t).getD j 0 = (cut C 0 N).getD (t + j) 0 := by simp [List.getD, List.getElem?_drop]
  rw [e, cut_at _ _ _ _ (by omega), Nat.zero_add]
theorem cut_same (C : Nat → UInt8) (t : Nat) (bs : List UInt8) : cut (lay C t bs) t bs.length = bs := by
  refine list_ext (cut_len _ _ _) (fun j hj => ?_)
  rw [cut_len] at hj
  rw [cut_at _ _ _ _ hj]
  unfold lay
  rw [if_pos (by omega), show t + j - t = j by omega]

/-- Bytes of the law's own beside its set. -/
structure Mine (w : World) (s : Nat) (r : Rep) (g n c : Nat) (bs : List UInt8) : Prop where
  byts : Byts (.slice (some ⟨g, 0, none⟩) n c) bs w
  apart : ¬ SFoot s r g
  len : bs.length = n
theorem byts_lt {w : World} {g n c : Nat} {bs : List UInt8} (h : Byts (.slice (some ⟨g, 0, none⟩) n c) bs w) : g < w.heap.size := by
  obtain ⟨cur, hb⟩ := own_block (w := w) h (k := g) rfl
  exact lt_of_block hb
section
variable {w w' : World} {s : Nat} {r r' : Rep} {g n c : Nat} {bs : List UInt8}
theorem Mine.next (h : Mine w s r g n c bs) (k : VNext w s r w' r') : Mine w' s r' g n c bs :=
  ⟨h.byts.beside8 k.turn h.apart, fun hk => by
    rcases k.foot g hk with e | e
    · exact h.apart e
    · have := byts_lt h.byts; omega, h.len⟩
theorem Mine.past (h : Mine w s r g n c bs) (t : Turn NoBlock w w') : Mine w' s r g n c bs := ⟨h.byts.beside8 t (fun h => h), h.apart, h.len⟩
theorem Mine.beside {g' : Nat} (h : Mine w s r g n c bs) (t : Turn (fun j => j = g') w w') (hne : g ≠ g') : Mine w' s r g n c bs := ⟨h.byts.beside8 t hne, h.apart, h.len⟩
theorem Mine.src (h : Mine w s r g n c bs) : Src w (.slice (some ⟨g, 0, none⟩) n c) bs := h.byts.src
theorem VSt.beside {w0 : World} {M : Mod} (h : VSt w0 w s r M) (t : Turn (fun j => j = g) w w') (h0 : w0.heap.size ≤ g) (hg : ¬ SFoot s r g) : VSt w0 w' s r M :=
  ⟨h.mem.kept t (fun k hk e => hg (by subst e; exact hk)), h.turn.trans t (fun j hj => .inr (by subst hj; exact h0)), h.fresh⟩
end

theorem goP_cnt8 (k : Nat) : ∀ p i n, i < 64 → (goP k p i n).length * 64 ≤ i + n + 63 := by
  induction k with
  | zero => intro p i n _; simp [goP]
  | succ k ih =>
    intro p i n hi
    rw [goP_succ]
    by_cases h : n = 0
    · rw [if_pos h]; simp
    · rw [if_neg h, List.length_cons]
      have := ih (p + 1) 0 (n - min n (64 - i)) (by decide)
      by_cases h2 : n ≤ 64 - i
      · rw [show n - min n (64 - i) = 0 by omega, goP_nil]
        simp only [List.length_nil]
        omega
      · omega
theorem parts_cnt8 (t n : Nat) : (partsL t n).length * 64 ≤ t % 64 + n + 63 := goP_cnt8 n _ _ n (Nat.mod_lt _ (by decide))


/-- One object of 256 bytes. -/
structure Ap1 (M : Mod) (C : Nat → UInt8) (o : Ob) : Prop where
  ob : ∀ k, M.O k = if k = 1 then some o else none
  size : o.size = 256
  drp : o.drp = false
  dep : o.depth = 0
  kids : o.kids = 0
  slc : o.slc = 0
  inv : Inv8 M
  made : M.made = 1
  most : M.most = 8
  live : M.live = 1
  cnt : o.cnt ≤ 5
  flat : ∀ x, fl M.L o.pgs x = C x
  room : 59 ≤ roomN M.L
  ub : Ub M.L 1
/-- And its snapshot. -/
structure Ap2 (M : Mod) (C : Nat → UInt8) (o1 o2 : Ob) : Prop where
  ob : ∀ k, M.O k = if k = 2 then some o2 else if k = 1 then some o1 else none
  size : o1.size = 256 ∧ o2.size = 256
  drp : o1.drp = false ∧ o2.drp = false
  dep : o1.depth = 0 ∧ o2.depth = 0
  kids : o1.kids = 1
  slc : o1.slc = 0
  inv : Inv8 M
  made : M.made = 2
  most : M.most = 8
  live : M.live = 2
  cnt : o1.cnt ≤ 5 ∧ o2.cnt ≤ 5
  flat : ∀ x, fl M.L o1.pgs x = C x
  flat2 : ∀ x, x < 256 → fl M.L o2.pgs x = C x
  room : 59 ≤ roomN M.L
/-- And the slice; m writes later. -/
structure Ap3 (M : Mod) (C1 C2 : Nat → UInt8) (o1 o2 : Ob) (m : Nat) : Prop where
  ob : ∀ k, M.O k = if k = 3 then some (newOb 192 1 1 64) else if k = 2 then some o2 else if k = 1 then some o1 else none
  size : o1.size = 256 ∧ o2.size = 256
  drp : o1.drp = false ∧ o2.drp = false
  dep : o1.depth = 0 ∧ o2.depth = 0
  inv : Inv8 M
  made : M.made = 3
  cnt : o1.cnt ≤ 5 * (m + 1) ∧ o2.cnt ≤ 5 * (m + 1)
  flat : ∀ x, fl M.L o1.pgs x = C1 x
  flat2 : ∀ x, x < 256 → fl M.L o2.pgs x = C2 x
  room : 59 ≤ roomN M.L + 5 * m
def ZA : Mod := ⟨8, 1, 1, updI (fun _ => none) 1 (some (newOb 256 0 0 0)), List.replicate 64 Pg.none⟩
theorem ub_start (n : Nat) : Ub (List.replicate n Pg.none) 0 := fun f => by
  unfold usersL pgAt
  split
  · rw [List.getD_eq_getElem?_getD, List.getElem?_replicate]
    split <;> exact Nat.le_refl _
  · exact Nat.le_refl _
theorem za_room : roomN ZA.L = 64 := by show roomN (List.replicate 64 Pg.none) = 64; decide +kernel
theorem za_inv : Inv8 ZA := by
  refine ⟨(Good.start 64).congr (fun k => ?_), chain_one (n := 0) (m := 0) (o := newOb 256 0 0 0) rfl (by decide) (Nat.zero_le _), few_start 64⟩
  unfold famOf ZA updI
  simp only
  by_cases e : k.1 = 1
  · rw [if_pos e]; rfl
  · rw [if_neg e]
theorem za_flat (x : Nat) : fl ZA.L (newOb 256 0 0 0).pgs x = 0 := by
  unfold fl
  show (cont _ none).getD _ 0 = 0
  rw [cont_none]
  unfold blank
  rw [List.getD_eq_getElem?_getD, List.getElem?_replicate, if_pos (Nat.mod_lt _ (by decide))]
  rfl
def UbM (L : List Pg) (n : Nat) : Prop := ∀ p ∈ L, p.users ≤ n
theorem ubm_users {L : List Pg} {n : Nat} (h : UbM L n) : Ub L n := fun f => by
  unfold usersL pgAt
  split
  · rw [List.getD_eq_getElem?_getD]
    cases hf : L[f.toNat]? with
    | none => simp [Pg.none]
    | some p => exact h p (List.mem_of_getElem? hf)
  · simp [Pg.none]
theorem ubm_set {L : List Pg} {n : Nat} (h : UbM L n) (k : Nat) (q : Pg) (hq : q.users ≤ n) : UbM (L.set k q) n := fun p hp => by
  rcases List.mem_or_eq_of_mem_set hp with hp | rfl
  · exact h p hp
  · exact hq
theorem ubm_pg {S : PL} {n : Nat} (h : UbM S.L n) (hn : 1 ≤ n) (p : Nat) : UbM (pgL S p) n := by
  have ha : UbM (allocL S.L) n := by
    unfold allocL
    split
    · exact ubm_set h _ _ hn
    · exact h
  unfold pgL
  split
  · exact ha
  · rename_i f hf
    have := ubm_users h f
    unfold ownL
    split
    · exact h
    · split
      · exact ubm_set (ubm_set h _ _ hn) _ _ (by simp; omega)
      · exact h
theorem ubm_commit {n : Nat} (hn : 1 ≤ n) (ps : List Pt) : ∀ S : PL, UbM S.L n → UbM (commitAll S ps).L n := by
  induction ps with
  | nil => intro S h; exact h
  | cons p ps ih => intro S h; exact ih _ (ubm_pg h hn p.pg)

theorem users_wAll (S : PL) (f : Int) (ps : List Pt) : ∀ (x : List Pg × List UInt8), usersL (ps.foldl (wstep S) x).1 f = usersL x.1 f := by
  induction ps with
  | nil => intro x; rfl
  | cons p ps ih =>
    intro x
    rw [List.foldl_cons, ih]
    unfold wstep
    exact write_users _ _ _ _

section
variable {w : World} {s : Nat} {r : Rep} {M : Mod} {C C1 C2 : Nat → UInt8} {o o1 o2 : Ob} {m : Nat}
theorem za_create (h : SMem w s r (M0 64 8)) : Calls Try.prog 16 #[.pointer (some ⟨s, 0, none⟩), .int .i64 256] w fun e w' => e = .returned (.tuple #[.int .i64 1, .int .i64 0]) ∧ ∃ r', SMem w' s r' ZA ∧ VNext w s r w' r' :=
  create_yes h 256 (by decide) (by decide) (by decide)
theorem lack5 (S : PL) (t n : Nat) (hn : n ≤ 256) : lackN S (partsL t n) ≤ 5 ∧ (partsL t n).length ≤ 5 := by
  have h1 := lackN_le S (partsL t n)
  have h2 := parts_cnt8 t n
  have h3 := Nat.mod_lt t (show 0 < 64 by decide)
  omega
theorem za_write (h : SMem w s r ZA) (v : Value) (bs : List UInt8) (hv : SrcF w s r v bs) (hl : bs.length ≤ 256) :
    Calls Try.prog 17 #[.pointer (some ⟨s, 0, none⟩), .int .i64 1, .int .i64 0, v] w fun e w' => e = .returned (.int .i64 0) ∧ ∃ r' M' o', (SMem w' s r' M' ∧ Ap1 M' (lay (fun _ => 0) 0 bs) o') ∧ VNext w s r w' r' := by
  have hO : ZA.O 1 = some (newOb 256 0 0 0) := rfl
  have L5 := lack5 ⟨ZA.L, (newOb 256 0 0 0).pgs, (newOb 256 0 0 0).cnt⟩ 0 bs.length hl
  have hlk : (lackN ⟨ZA.L, (newOb 256 0 0 0).pgs, (newOb 256 0 0 0).cnt⟩ (partsL 0 bs.length) : Int) ≤ roomN ZA.L := by rw [za_room]; omega
  have W := write_inv za_inv hO rfl (full_pool h.pool) 0 bs hlk
  have c := write8_ok h za_inv.chain (by decide) (i := 1) (by unfold fit; omega) hO rfl 0 v bs hv (by omega) (by show 0 + bs.length ≤ 256; omega) (j := 1) (q := newOb 256 0 0 0) (t' := 0) rfl hO (by decide) za_inv.few (Nat.zero_le _) hlk
  refine Calls.mono c ?_
  rintro e w' ⟨rfl, r', mm, k⟩
  refine ⟨rfl, r', wrM ZA 1 (newOb 256 0 0 0) 0 bs, wrO ZA (newOb 256 0 0 0) 0 bs, ⟨mm, fun k => ?_, rfl, rfl, rfl, rfl, rfl, W.inv, rfl, rfl, rfl, ?_, fun x => ?_, ?_, ?_⟩, k⟩
  · rw [W.obj]
    unfold updI
    by_cases e : k = 1
    · rw [if_pos e, if_pos e]
    · rw [if_neg e, if_neg e]
      unfold ZA updI
      simp only
      rw [if_neg e]
  · refine Nat.le_trans W.cnt ?_
    show 0 + _ ≤ _
    omega
  · rw [W.flat, za_flat]
    rfl
  · have := W.room
    rw [za_room] at this
    omega
  · have hu : UbM (commitAll ⟨ZA.L, (newOb 256 0 0 0).pgs, (newOb 256 0 0 0).cnt⟩ (partsL 0 bs.length)).L 1 := ubm_commit (Nat.le_refl _) _ _ (fun p hp => by
      have hp' : p ∈ List.replicate 64 Pg.none := hp
      rw [List.eq_of_mem_replicate hp']
      exact Nat.zero_le _)
    intro f
    have h1 := ubm_users hu f
    have h2 : usersL (wrM ZA 1 (newOb 256 0 0 0) 0 bs).L f = usersL (commitAll ⟨ZA.L, (newOb 256 0 0 0).pgs, (newOb 256 0 0 0).cnt⟩ (partsL 0 bs.length)).L f := by
      show usersL (wAll _ _ _).1 f = _
      unfold wAll
      rw [users_wAll]
    rw [h2]
    exact h1
theorem a1_snap (h : SMem w s r M) (z : Ap1 M C o) : Calls Try.prog 19 #[.pointer (some ⟨s, 0, none⟩), .int .i64 1, .int .i64 0, .int .i64 256] w fun e w' => e = .returned (.tuple #[.int .i64 2, .int .i64 0]) ∧
    ∃ r' M' o1 o2, (SMem w' s r' M' ∧ Ap2 M' C o1 o2) ∧ VNext w s r w' r' := by
  have hO : M.O 1 = some o := by rw [z.ob, if_pos rfl]
  have hj : M.O ((M.made : Int) + 1) = none := by rw [z.ob, z.made, if_neg (by omega)]
  have hw : winS M 1 ((64 * 0 : Nat) : Int) ((64 * 4 : Nat) : Int) = 0 := by
    unfold winS
    rw [if_neg (fun e => e (find_of hO z.drp)), if_neg (by omega), hO]
    show (if _ then (0 : Int) else -14) = 0
    rw [if_pos (by rw [z.size]; omega)]
  have c := snap_yes h z.inv.chain z.inv.held 1 0 4 (by unfold fit; omega) hO hw (by omega) (by omega) z.dep (by rw [z.live, z.most]; omega) (by rw [z.most]; omega) (by rw [z.made]; omega) (by rw [z.kids]; omega) 1 z.ub (by omega)
  refine Calls.mono c ?_
  rintro e w' ⟨rfl, ⟨r', mm, k⟩, hub⟩
  have S := snap_inv z.inv hO z.dep hj 0 4 5 (by omega) hub (by omega)
  refine ⟨by rw [z.made]; rfl, r', snapM M 1 o 0 4, kid o, snapO M 1 o 0 4, ⟨mm, fun k => ?_, ⟨z.size, rfl⟩, ⟨z.drp, rfl⟩, ⟨z.dep, rfl⟩, ?_, z.slc, S.inv, ?_, z.most, ?_, ⟨z.cnt, Nat.le_trans S.cnt (by omega)⟩, fun x => ?_, fun x hx => ?_, ?_⟩, k⟩
  · rw [S.ob, z.made, z.ob]
    by_cases e : k = 2
    · rw [if_pos (by omega), if_pos e]
    · rw [if_neg (by omega), if_neg e]
      by_cases e1 : k = 1
      · rw [if_pos e1, if_pos e1]
      · rw [if_neg e1, if_neg e1, if_neg e1]
  · show o.kids + 1 = 1
    rw [z.kids]
  · show M.made + 1 = 2
    rw [z.made]
  · show M.live + 1 = 2
    rw [z.live]
  · show fl _ o.pgs x = _
    rw [S.flat, z.flat]
  · rw [S.child x (by omega), Nat.mul_zero, Nat.zero_add, z.flat]
  · rw [S.room]; exact z.room
theorem a2_slice (h : SMem w s r M) (z : Ap2 M C o1 o2) : Calls Try.prog 20 #[.pointer (some ⟨s, 0, none⟩), .int .i64 1, .int .i64 64, .int .i64 192] w fun e w' => e = .returned (.tuple #[.int .i64 3, .int .i64 0]) ∧
    ∃ r' M' o1 o2, (SMem w' s r' M' ∧ Ap3 M' C C o1 o2 0) ∧ VNext w s r w' r' := by
  have hO : M.O 1 = some o1 := by rw [z.ob, if_neg (by omega), if_pos rfl]
  have hj : M.O ((M.made : Int) + 1) = none := by rw [z.ob, z.made, if_neg (by omega), if_neg (by omega)]
  have hw : winS M 1 64 192 = 0 := by
    unfold winS
    rw [if_neg (fun e => e (find_of hO z.drp.1)), if_neg (by omega), hO]
    show (if _ then (0 : Int) else -14) = 0
    rw [if_pos (by rw [z.size.1]; omega)]
  have hs : sliceS M 1 64 192 = 0 := by
    unfold sliceS
    rw [if_neg (fun e => e hw), hO]
    show (if o1.depth = 16 then (-2 : Int) else if M.most ≤ M.live then -4 else 0) = 0
    rw [if_neg (by rw [z.dep.1]; omega), if_neg (by rw [z.live, z.most]; omega)]
  have c := slice_yes h z.inv.chain 1 64 192 (by unfold fit; omega) hO hs (by rw [z.most]; omega) (by rw [z.made]; omega) (by rw [z.kids]; omega) (by rw [z.slc]; omega)
  refine Calls.mono c ?_
  rintro e w' ⟨rfl, r', mm, k⟩
  obtain ⟨i1, i2⟩ := slice_inv z.inv hO (by omega) hj 64 192 (by decide) (by decide) (by rw [z.dep.1]; omega)
  refine ⟨by rw [z.made]; rfl, r', sliceM M 1 o1 64 192, kidS o1, o2, ⟨mm, fun k => ?_, z.size, z.drp, z.dep, i1, ?_, z.cnt, z.flat, z.flat2, by have := z.room; show 59 ≤ roomN M.L + 5 * ((0 : Nat) : Int); omega⟩, k⟩
  · rw [i2, z.made, z.ob, z.dep.1]
    by_cases e : k = 3
    · rw [if_pos (by omega), if_pos e]; rfl
    · rw [if_neg (by omega), if_neg e]
      by_cases e2 : k = 2
      · rw [if_pos e2, if_pos e2, if_neg (by omega)]
      · rw [if_neg e2, if_neg e2]
        by_cases e1 : k = 1
        · rw [if_pos e1, if_pos e1]
        · rw [if_neg e1, if_neg e1, if_neg e1]
  · show M.made + 1 = 3
    rw [z.made]
theorem a1_read (h : SMem w s r M) (z : Ap1 M C o) : Calls Try.prog 18 #[.pointer (some ⟨s, 0, none⟩), .int .i64 1, .int .i64 0, .int .i64 256] w fun e w' => ∃ g c, e = .returned (.tuple #[.slice (some ⟨g, 0, none⟩) 256 c, .int .i64 0]) ∧ Mine w' s r g 256 c (cut C 0 256) ∧ w.heap.size ≤ g ∧ Turn NoBlock w w' := by
  have hO : M.O 1 = some o := by rw [z.ob, if_pos rfl]
  have c := read8_ok h z.inv.chain z.inv.held (by rw [z.made]; decide) (i := 1) (by unfold fit; omega) hO z.drp 0 256 (by omega) (by rw [z.size]; omega) (j := 1) (q := o) (t' := 0) (by rw [z.dep]; rfl) hO (by omega)
  refine Calls.mono c ?_
  rintro e w' ⟨u, rfl, hB, hf, tt⟩
  rw [read_flat (S := ⟨M.L, o.pgs, o.cnt⟩) (full_pool h.pool)] at hB
  rw [show ((List.range 256).map fun j => fl M.L o.pgs (0 + j)) = cut C 0 256 from List.map_congr_left (fun j _ => z.flat _)] at hB
  obtain ⟨g, cc, rfl, hg, -⟩ := byts_news hB (cut_len _ _ _) (by omega)
  have hge : w.heap.size ≤ g := hf g rfl
  exact ⟨g, cc, rfl, ⟨hB, fun hk => by have := h.lt hk; omega, cut_len _ _ _⟩, hge, tt⟩
theorem a3_at1 (z : Ap3 M C1 C2 o1 o2 m) : M.O 1 = some o1 := by rw [z.ob, if_neg (by omega), if_neg (by omega), if_pos rfl]
theorem a3_at2 (z : Ap3 M C1 C2 o1 o2 m) : M.O 2 = some o2 := by rw [z.ob, if_neg (by omega), if_pos rfl]
theorem a3_at3 (z : Ap3 M C1 C2 o1 o2 m) : M.O 3 = some (newOb 192 1 1 64) := by rw [z.ob, if_pos rfl]
theorem a3_root (z : Ap3 M C1 C2 o1 o2 m) (t : Int) : rootI M.O 1 3 t = (1, t + 64) := by
  rw [rootI_succ (a3_at3 z)]
  rfl
theorem a3_read1 (h : SMem w s r M) (z : Ap3 M C1 C2 o1 o2 m) (t n : Nat) (htn : t + n ≤ 256) : Calls Try.prog 18 #[.pointer (some ⟨s, 0, none⟩), .int .i64 1, .int .i64 t, .int .i64 n] w fun e w' => ∃ u, e = .returned (.tuple #[u, .int .i64 0]) ∧ Src w' u (cut C1 t n) ∧ Turn NoBlock w w' := by
  have c := read8_ok h z.inv.chain z.inv.held (by rw [z.made]; decide) (i := 1) (by unfold fit; omega) (a3_at1 z) z.drp.1 t n (by omega) (by rw [z.size.1]; omega) (j := 1) (q := o1) (t' := t) (by rw [z.dep.1]; rfl) (a3_at1 z) (by omega)
  refine Calls.mono c ?_
  rintro e w' ⟨u, rfl, hB, hf, tt⟩
  rw [read_flat (S := ⟨M.L, o1.pgs, o1.cnt⟩) (full_pool h.pool)] at hB
  rw [show ((List.range n).map fun j => fl M.L o1.pgs (t + j)) = cut C1 t n from List.map_congr_left (fun j _ => z.flat _)] at hB
  exact ⟨u, rfl, hB.src, tt⟩
theorem a3_read2 (h : SMem w s r M) (z : Ap3 M C1 C2 o1 o2 m) : Calls Try.prog 18 #[.pointer (some ⟨s, 0, none⟩), .int .i64 2, .int .i64 0, .int .i64 256] w fun e w' => ∃ u, e = .returned (.tuple #[u, .int .i64 0]) ∧ Src w' u (cut C2 0 256) ∧ Turn NoBlock w w' := by
  have c := read8_ok h z.inv.chain z.inv.held (by rw [z.made]; decide) (i := 2) (by unfold fit; omega) (a3_at2 z) z.drp.2 0 256 (by omega) (by rw [z.size.2]; omega) (j := 2) (q := o2) (t' := 0) (by rw [z.dep.2]; rfl) (a3_at2 z) (by omega)
  refine Calls.mono c ?_
  rintro e w' ⟨u, rfl, hB, hf, tt⟩
  rw [read_flat (S := ⟨M.L, o2.pgs, o2.cnt⟩) (full_pool h.pool)] at hB
  rw [show ((List.range 256).map fun j => fl M.L o2.pgs (0 + j)) = cut C2 0 256 from List.map_congr_left (fun j hj => z.flat2 _ (by have := List.mem_range.1 hj; omega))] at hB
  exact ⟨u, rfl, hB.src, tt⟩
theorem a3_read3 (h : SMem w s r M) (z : Ap3 M C1 C2 o1 o2 m) : Calls Try.prog 18 #[.pointer (some ⟨s, 0, none⟩), .int .i64 3, .int .i64 0, .int .i64 192] w fun e w' => ∃ u, e = .returned (.tuple #[u, .int .i64 0]) ∧ Src w' u (cut C1 64 192) ∧ Turn NoBlock w w' := by
  have c := read8_ok h z.inv.chain z.inv.held (by rw [z.made]; decide) (i := 3) (by unfold fit; omega) (a3_at3 z) rfl 0 192 (by omega) (by show 0 + 192 ≤ 192; omega) (j := 1) (q := o1) (t' := 64) (a3_root z 0) (a3_at1 z) (by omega)
  refine Calls.mono c ?_
  rintro e w' ⟨u, rfl, hB, hf, tt⟩
  rw [read_flat (S := ⟨M.L, o1.pgs, o1.cnt⟩) (full_pool h.pool)] at hB
  rw [show ((List.range 192).map fun j => fl M.L o1.pgs (64 + j)) = cut C1 64 192 from List.map_congr_left (fun j _ => z.flat _)] at hB
  exact ⟨u, rfl, hB.src, tt⟩
theorem a3_wrote1 (h : SMem w s r M) (z : Ap3 M C1 C2 o1 o2 m) (hm : m ≤ 5) (t : Nat) (bs : List UInt8) (hl : bs.length ≤ 100) :
    (lackN ⟨M.L, o1.pgs, o1.cnt⟩ (partsL t bs.length) : Int) ≤ roomN M.L ∧ Ap3 (wrM M 1 o1 t bs) (lay C1 t bs) C2 (wrO M o1 t bs) o2 (m + 1) := by
  have L5 := lack5 ⟨M.L, o1.pgs, o1.cnt⟩ t bs.length (by omega)
  have hr := z.room
  have hlk : (lackN ⟨M.L, o1.pgs, o1.cnt⟩ (partsL t bs.length) : Int) ≤ roomN M.L := by omega
  have W := write_inv z.inv (a3_at1 z) z.dep.1 (full_pool h.pool) t bs hlk
  refine ⟨hlk, fun k => ?_, z.size, z.drp, z.dep, W.inv, z.made, ⟨?_, ?_⟩, fun x => ?_, fun x hx => ?_, ?_⟩
  · rw [W.obj]
    unfold updI
    by_cases e : k = 1
    · rw [if_pos e, if_neg (by omega), if_neg (by omega), if_pos e]
    · rw [if_neg e, z.ob, if_neg e, if_neg e]
  · have := W.cnt; have := z.cnt.1; omega
  · have := z.cnt.2; omega
  · rw [W.flat, z.flat]; rfl
  · rw [W.other 2 o2 (by omega) (a3_at2 z), z.flat2 x hx]
  · have := W.room; omega
theorem a3_wrote2 (h : SMem w s r M) (z : Ap3 M C1 C2 o1 o2 m) (hm : m ≤ 5) (t : Nat) (bs : List UInt8) (hl : bs.length ≤ 100) :
    (lackN ⟨M.L, o2.pgs, o2.cnt⟩ (partsL t bs.length) : Int) ≤ roomN M.L ∧ Ap3 (wrM M 2 o2 t bs) C1 (lay C2 t bs) o1 (wrO M o2 t bs) (m + 1) := by
  have L5 := lack5 ⟨M.L, o2.pgs, o2.cnt⟩ t bs.length (by omega)
  have hr := z.room
  have hlk : (lackN ⟨M.L, o2.pgs, o2.cnt⟩ (partsL t bs.length) : Int) ≤ roomN M.L := by omega
  have W := write_inv z.inv (a3_at2 z) z.dep.2 (full_pool h.pool) t bs hlk
  refine ⟨hlk, fun k => ?_, z.size, z.drp, z.dep, W.inv, z.made, ⟨?_, ?_⟩, fun x => ?_, fun x hx => ?_, ?_⟩
  · rw [W.obj]
    unfold updI
    by_cases e : k = 2
    · rw [if_pos e, if_neg (by omega), if_pos e]
    · rw [if_neg e, z.ob, if_neg e, if_neg e]
  · have := z.cnt.1; omega
  · have := W.cnt; have := z.cnt.2; omega
  · rw [W.other 1 o1 (by omega) (a3_at1 z), z.flat x]
  · rw [W.flat, z.flat2 x hx]; rfl
  · have := W.room; omega
theorem a3_write1 (h : SMem w s r M) (z : Ap3 M C1 C2 o1 o2 m) (hm : m ≤ 5) (t : Nat) (v : Value) (bs : List UInt8) (hv : SrcF w s r v bs) (hl : bs.length ≤ 100) (ht : t ≤ 150) :
    Calls Try.prog 17 #[.pointer (some ⟨s, 0, none⟩), .int .i64 1, .int .i64 t, v] w fun e w' => e = .returned (.int .i64 0) ∧ ∃ r' M' o', (SMem w' s r' M' ∧ Ap3 M' (lay C1 t bs) C2 o' o2 (m + 1)) ∧ VNext w s r w' r' := by
  obtain ⟨hlk, a⟩ := a3_wrote1 h z hm t bs hl
  have c := write8_ok h z.inv.chain (by rw [z.made]; decide) (i := 1) (by unfold fit; omega) (a3_at1 z) z.drp.1 t v bs hv (by omega) (by rw [z.size.1]; omega) (j := 1) (q := o1) (t' := t) (by rw [z.dep.1]; rfl) (a3_at1 z) (by omega) z.inv.few (by have := z.cnt.1; omega) hlk
  refine Calls.mono c ?_
  rintro e w' ⟨rfl, r', mm, k⟩
  exact ⟨rfl, r', _, _, ⟨mm, a⟩, k⟩
theorem a3_write2 (h : SMem w s r M) (z : Ap3 M C1 C2 o1 o2 m) (hm : m ≤ 5) (t : Nat) (v : Value) (bs : List UInt8) (hv : SrcF w s r v bs) (hl : bs.length ≤ 100) (ht : t ≤ 150) :
    Calls Try.prog 17 #[.pointer (some ⟨s, 0, none⟩), .int .i64 2, .int .i64 t, v] w fun e w' => e = .returned (.int .i64 0) ∧ ∃ r' M' o', (SMem w' s r' M' ∧ Ap3 M' C1 (lay C2 t bs) o1 o' (m + 1)) ∧ VNext w s r w' r' := by
  obtain ⟨hlk, a⟩ := a3_wrote2 h z hm t bs hl
  have c := write8_ok h z.inv.chain (by rw [z.made]; decide) (i := 2) (by unfold fit; omega) (a3_at2 z) z.drp.2 t v bs hv (by omega) (by rw [z.size.2]; omega) (j := 2) (q := o2) (t' := t) (by rw [z.dep.2]; rfl) (a3_at2 z) (by omega) z.inv.few (by have := z.cnt.2; omega) hlk
  refine Calls.mono c ?_
  rintro e w' ⟨rfl, r', mm, k⟩
  exact ⟨rfl, r', _, _, ⟨mm, a⟩, k⟩
theorem a3_write3 (h : SMem w s r M) (z : Ap3 M C1 C2 o1 o2 m) (hm : m ≤ 5) (v : Value) (bs : List UInt8) (hv : SrcF w s r v bs) (hl : bs.length ≤ 100) :
    Calls Try.prog 17 #[.pointer (some ⟨s, 0, none⟩), .int .i64 3, .int .i64 3, v] w fun e w' => e = .returned (.int .i64 0) ∧ ∃ r' M' o', (SMem w' s r' M' ∧ Ap3 M' (lay C1 67 bs) C2 o' o2 (m + 1)) ∧ VNext w s r w' r' := by
  obtain ⟨hlk, a⟩ := a3_wrote1 h z hm 67 bs hl
  have c := write8_ok h z.inv.chain (by rw [z.made]; decide) (i := 3) (by unfold fit; omega) (a3_at3 z) rfl 3 v bs hv (by omega) (by show 3 + bs.length ≤ 192; omega) (j := 1) (q := o1) (t' := 67) (a3_root z 3) (a3_at1 z) (by omega) z.inv.few (by have := z.cnt.1; omega) hlk
  refine Calls.mono c ?_
  rintro e w' ⟨rfl, r', mm, k⟩
  exact ⟨rfl, r', _, _, ⟨mm, a⟩, k⟩
end

end Go.Proofs.Ytdhbhigoboamfaa
