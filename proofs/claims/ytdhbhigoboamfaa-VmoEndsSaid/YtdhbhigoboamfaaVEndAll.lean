/-
  The end of objects: VEnd to LawEnds2 in one text (a claim holds 60 files). No conditions but that the set is one that calls can make.
-/
import Derived.Test.YtdhbhigoboamfaaVSnapAll
import Derived.Test.YtdhbhigoboamfaaVFrom
import Derived.Test.YtdhbhigoboamfaaVCreate
import Derived.Test.YtdhbhigoboamfaaVSizesM
import Derived.Test.YtdhbhigoboamfaaVView
import Derived.Test.YtdhbhigoboamfaaVOp
import Derived.Test.YtdhbhigoboamfaaVInfo
import Derived.Test.YtdhbhigoboamfaaPNums
namespace Go.Proofs.Ytdhbhigoboamfaa
open Go.ChangeShapes Go.WideShapes Go.ChangeAt Go.RowKit

def delR (r : Rep) (i : Int) : Rep := { r with A := updI r.A i none, B := updI r.B i none }
def delM (M : Mod) (i : Int) : Mod := { M with O := updI M.O i none, live := M.live - 1 }
/-- An object that has lost a child. -/
def lose (q : Ob) (d : Nat) : Ob := { q with kids := q.kids - 1, slc := if 0 < d then q.slc - 1 else q.slc }
def endM (M : Mod) (i : Int) (o : Ob) (S : PL) : Mod :=
  match M.O (o.par : Int) with
  | none => delM (setM M i o S) i
  | some q => { delM (setM M i o S) i with O := updI (delM (setM M i o S) i).O (o.par : Int) (some (lose q o.depth)) }
theorem delR_foot {s : Nat} {r : Rep} {i : Int} {k : Nat} (h : SFoot s (delR r i) k) : SFoot s r k := by
  rcases h with h | h | h | ⟨j, h⟩ | ⟨j, h⟩
  · exact .inl h
  · exact .inr (.inl h)
  · exact .inr (.inr (.inl h))
  · have h' : updI r.A i none j = some k := h
    unfold updI at h'
    split at h'
    · cases h'
    · exact .inr (.inr (.inr (.inl ⟨j, h'⟩)))
  · have h' : updI r.B i none j = some k := h
    unfold updI at h'
    split at h'
    · cases h'
    · exact .inr (.inr (.inr (.inr ⟨j, h'⟩)))

section
variable {w : World} {s : Nat} {r : Rep} {M : Mod}
theorem SMem.del (h : SMem w s r M) {i : Int} {a : Nat} (hA : r.A i = some a) (hi : fit i) : ∃ w', (∀ ty, Sem.run Try.prog (Builtin.delete_ #[81, 3] ty #[.map (some r.mo), .int .i64 i]) w = .ok (.tuple #[]) w') ∧ SMem w' s (delR r i) (delM M i) ∧ Turn (fun k => k = r.mo) w w' := by
  obtain ⟨w', hrun, om, t⟩ := h.omap.drop i hi 0
  rw [hA] at om
  refine ⟨w', fun ty => hrun, ⟨?_, ?_, om, fun j c hj => ?_, fun j hj => ?_, fun j k c hj hk => ?_, fun j k c hj hk => ?_, fun j c hj => ?_, fun j c hj => ?_, h.pS, h.pM, fun j c hj => ?_, fun j c hj => ?_⟩, t⟩
  · exact t.heap h.head (fun e => h.mS e.symm)
  · exact (pool_own _ _ _).kept _ _ _ h.pool t (fun k hk e => by subst e; exact h.pM hk)
  all_goals try (have hj' : updI r.A i none j = some c := hj; unfold updI at hj'; split at hj'; cases hj')
  all_goals try (have hj' : updI r.B i none j = some c := hj; unfold updI at hj'; split at hj'; cases hj')
  · rename_i e
    obtain ⟨o, pb, h1, h2, h3, h4⟩ := h.ob j c hj'
    exact ⟨o, pb, by show updI M.O i none j = _; unfold updI; rw [if_neg e]; exact h1, by show updI r.B i none j = _; unfold updI; rw [if_neg e]; exact h2, t.heap h3 (h.aM hj'), IMap.past h4 t (h.bmo j pb h2)⟩
  · have hj' : updI r.A i none j = none := hj
    unfold updI at hj'
    split at hj'
    · rename_i e
      exact ⟨by show updI M.O i none j = _; unfold updI; rw [if_pos e], by show updI r.B i none j = _; unfold updI; rw [if_pos e]⟩
    · rename_i e
      exact ⟨by show updI M.O i none j = _; unfold updI; rw [if_neg e]; exact (h.no j hj').1, by show updI r.B i none j = _; unfold updI; rw [if_neg e]; exact (h.no j hj').2⟩
  · have hk' : updI r.A i none k = some c := hk
    unfold updI at hk'
    split at hk'
    · cases hk'
    · exact h.injA j k c hj' hk'
  · have hk' : updI r.B i none k = some c := hk
    unfold updI at hk'
    split at hk'
    · cases hk'
    · exact h.injB j k c hj' hk'
  · exact h.bmo j c hj'
  · exact h.ids j c hj'
  · exact h.pA j c hj'
  · exact h.pB j c hj'
theorem lose1 (h : SMem w s r M) {j : Int} {q : Ob} {aq : Nat} (hO : M.O j = some q) (hA : r.A j = some aq) :
    SMem (w.setCell ⟨aq, 2, none⟩ (.int .i64 ((q.kids - 1 : Nat) : Int))) s r { M with O := updI M.O j (some (lose q 0)) } ∧ Turn (fun k => k = aq) w (w.setCell ⟨aq, 2, none⟩ (.int .i64 ((q.kids - 1 : Nat) : Int))) := by
  obtain ⟨a', pb, hA', hB, hcell, hpm⟩ := h.live hO
  rw [hA] at hA'
  cases hA'
  have t2 : Turn (fun k => k = aq) w (w.setCell ⟨aq, 2, none⟩ (.int .i64 ((q.kids - 1 : Nat) : Int))) := (Turn.refl (fun k => k = aq) _).setCell (p := ⟨aq, 2, none⟩) (.inl rfl) _
  exact ⟨h.setOb (o' := lose q 0) hA hB t2 (fun k hk => .inl hk) (set_at hcell 2 _) (IMap.past hpm t2 (fun e => h.aB hA hB e.symm)), t2⟩
theorem lose2 (h : SMem w s r M) {j : Int} {q : Ob} {aq : Nat} (hO : M.O j = some q) (hA : r.A j = some aq) (d : Nat) (hd : 0 < d) :
    SMem ((w.setCell ⟨aq, 2, none⟩ (.int .i64 ((q.kids - 1 : Nat) : Int))).setCell ⟨aq, 3, none⟩ (.int .i64 ((q.slc - 1 : Nat) : Int))) s r { M with O := updI M.O j (some (lose q d)) } ∧ Turn (fun k => k = aq) w ((w.setCell ⟨aq, 2, none⟩ (.int .i64 ((q.kids - 1 : Nat) : Int))).setCell ⟨aq, 3, none⟩ (.int .i64 ((q.slc - 1 : Nat) : Int))) := by
  obtain ⟨m1, t1⟩ := lose1 h hO hA
  generalize w.setCell ⟨aq, 2, none⟩ (.int .i64 ((q.kids - 1 : Nat) : Int)) = W at *
  obtain ⟨a', pb, hA', hB, hcell, hpm⟩ := m1.live (i := j) (o := lose q 0) (updI_same _ _ _)
  rw [hA] at hA'
  cases hA'
  have t2 : Turn (fun k => k = aq) W (W.setCell ⟨aq, 3, none⟩ (.int .i64 ((q.slc - 1 : Nat) : Int))) := (Turn.refl (fun k => k = aq) _).setCell (p := ⟨aq, 3, none⟩) (.inl rfl) _
  have e : lose q d = { lose q 0 with slc := q.slc - 1 } := by unfold lose; simp [hd]
  have m2 := m1.setOb (o' := lose q d) hA hB t2 (fun k hk => .inl hk) (by rw [e]; exact set_at hcell 3 _) (IMap.past hpm t2 (fun e => m1.aB hA hB e.symm))
  simp only [updI_twice] at m2
  exact ⟨m2, t1.trans t2 (fun j hj => .inl hj)⟩

/-- What end leaves. -/
structure Ended (w w' : World) (s : Nat) (r : Rep) (M : Mod) (i : Int) (o : Ob) (a : Nat) (r' : Rep) (S' : PL) (ks : List Int) : Prop where
  eq : S' = ks.foldl rel1 ⟨M.L, o.pgs, o.cnt⟩
  gone : ∀ q, 0 ≤ q → S'.g q = none
  keep : ∀ q, S'.g q = if q ∈ ks then none else o.pgs q
  few : Few S'.L
  mem : SMem w' s r' (endM M i o S')
  next : VNext w s r w' r'
  par : w'.cell? ⟨a, 1, none⟩ = some (.int .i64 (o.par : Int))

set_option maxRecDepth 20000 in
set_option maxHeartbeats 1000000 in
theorem end_any (h : SMem w s r M) {i : Int} {o : Ob} {a : Nat} (hO : M.O i = some o) (hA : r.A i = some a) (hf : Few M.L) (hi : fit i) (hpar : fit (o.par : Int)) (hne : (o.par : Int) ≠ i)
    (hq : ∀ q, M.O (o.par : Int) = some q → 1 ≤ q.kids ∧ q.kids < 4611686018427387904 ∧ (0 < o.depth → 1 ≤ q.slc) ∧ q.slc < 4611686018427387904) :
    Calls Try.prog 57 #[.pointer (some ⟨s, 0, none⟩), .int .i64 i, .pointer (some ⟨a, 0, none⟩)] w fun e w' => e = .returned (.tuple #[]) ∧ ∃ r' S' ks, Ended w w' s r M i o a r' S' ks := by
  obtain ⟨x, pb, hx1, hB, hx3, hx4⟩ := h.live hO
  rw [hA] at hx1
  cases hx1
  have HR := Lib.hid ((from_any h hO hA hB hf 0).mono (R' := fun e w2 => e = .returned (.tuple #[]) ∧ w2.cell? ⟨s, 3, none⟩ = some (.map (some r.mo)) ∧ ∃ w3, (∀ ty, Sem.run Try.prog (Builtin.delete_ #[81, 3] ty #[.map (some r.mo), .int .i64 i]) w2 = .ok (.tuple #[]) w3) ∧
      w3.cell? ⟨s, 3, none⟩ = some (.map (some r.mo)) ∧ w3.cell? ⟨a, 1, none⟩ = some (.int .i64 (o.par : Int)) ∧ w3.cell? ⟨a, 4, none⟩ = some (.int .i64 (o.depth : Int)) ∧
      ∃ (r3 : Rep) (S' : PL) (ks : List Int), r3.A = updI r.A i none ∧ r3.mo = r.mo ∧ S' = ks.foldl rel1 ⟨M.L, o.pgs, o.cnt⟩ ∧ (∀ q, 0 ≤ q → S'.g q = none) ∧ (∀ q, S'.g q = if q ∈ ks then none else o.pgs q) ∧ Few S'.L ∧ SMem w3 s r3 (delM (setM M i o S') i) ∧ VNext w s r w3 r3) fun e w2 hw => by
    obtain ⟨k1, F', S', ks, g1, g2, g3, g4, g5, g6, g7, g8⟩ := hw
    obtain ⟨y, yb, y1, y2, y3, y4⟩ := g6.live (i := i) (o := { o with pgs := S'.g, cnt := S'.c }) (updI_same _ _ _)
    simp only at y1
    rw [hA] at y1
    cases y1
    obtain ⟨w3, hrun, m3, t3⟩ := g6.del (i := i) hA hi
    have y3' := ocells (t3.heap y3 (fun e => g6.aM hA e))
    exact ⟨k1, g6.c3, w3, hrun, m3.c3, y3'.c1, y3'.c4, delR { r with FP := F' } i, S', ks, rfl, rfl, g1, fun q hq => g5 q hq, g4, g8, m3,
      g7.trans ⟨t3.mono (fun j hj => .inl (.inr (.inl hj))), fun k hk => .inl (delR_foot hk)⟩⟩)
  have hshow : ∀ (W : World) (m : Nat), Turn NoBlock W (W.drewN m) := fun W m => (Turn.refl NoBlock W).drewN m
  cases hM : M.O (o.par : Int) with
  | none =>
    have hAp : updI r.A i none (o.par : Int) = none := by unfold updI; rw [if_neg hne]; exact h.dead hM
    have HM := Lib.hid hM
    have HAp := Lib.hid hAp
    have HP := Lib.hid hpar
    clear h hO hA hB hx3 hx4 hf hq hpar hM hAp
    go_enter Try.func57, Try.ntmps57
    go_wp2_with (go_at_call 58; (with_reducible refine HR.out.mono ?_); rintro e w2 ⟨rfl, y3, w3, hrun, z3, z1, z4, r3, S', ks, e1, e2, g1, g2, g3, g4, m3, nx3⟩; have lk0 := m3.omap.look (o.par : Int) HP.out; have lkd := (m3.past ((Turn.refl NoBlock w3).drew)).omap.look (o.par : Int) HP.out; rw [e1, HAp.out, e2] at lk0 lkd; unfold ptrOf at lk0 lkd; have K := Lib.hid (And.intro g1 (And.intro g2 (And.intro g3 (And.intro g4 (And.intro m3 nx3))))); clear g1 g2 g3 g4 m3 nx3 e1 e2)
    go_region
    all_goals
      go_wp2
      refine bodyPost_ret (results_none rfl _ _ _) rfl ?_
      obtain ⟨g1, g2, g3, g4, m3, nx3⟩ := K.out
      refine ⟨rfl, r3, S', ks, g1, g2, g3, g4, ?_, nx3.past ((Turn.refl NoBlock w3).drew), z1⟩
      have e : endM M i o S' = delM (setM M i o S') i := by unfold endM; rw [HM.out]
      rw [e]
      exact m3.past ((Turn.refl NoBlock w3).drew)
  | some q =>
    obtain ⟨q1, q2, q3, q4⟩ := hq q hM
    obtain ⟨aq, qb, hAq, -, -, -⟩ := h.live hM
    have hAp : updI r.A i none (o.par : Int) = some aq := by unfold updI; rw [if_neg hne]; exact hAq
    have haq : a ≠ aq := fun e => by subst e; exact hne (h.injA _ _ _ hAq hA)
    have haqs : aq ≠ s := h.aS hAq
    have HM := Lib.hid hM
    have HAp := Lib.hid hAp
    have HP := Lib.hid hpar
    have HAq := Lib.hid hAq
    have hwk : IntKind.i64.wrap ((q.kids : Int) - 1) = ((q.kids - 1 : Nat) : Int) := by rw [show (q.kids : Int) - 1 = ((q.kids - 1 : Nat) : Int) by omega]; exact wrap_nat _ (by omega)
    have HMO := Lib.hid (fun S' => show (delM (setM M i o S') i).O (o.par : Int) = some q from by
      show updI (updI M.O i _) i none _ = _
      unfold updI
      rw [if_neg hne, if_neg hne]
      exact hM)
    have HE := Lib.hid (fun S' => show endM M i o S' = { delM (setM M i o S') i with O := updI (delM (setM M i o S') i).O (o.par : Int) (some (lose q o.depth)) } from by unfold endM; rw [hM])
    clear h hO hA hB hx3 hx4 hf hq hpar hM hAp hAq
    by_cases hd : 0 < o.depth
    · have hwk2 : IntKind.i64.wrap ((q.slc : Int) - 1) = ((q.slc - 1 : Nat) : Int) := by
        have := q3 hd
        rw [show (q.slc : Int) - 1 = ((q.slc - 1 : Nat) : Int) by omega]; exact wrap_nat _ (by omega)
      have hdI : (0 : Int) < (o.depth : Int) := by omega
      have HD := Lib.hid hd
      clear hd q3
      go_enter Try.func57, Try.ntmps57
      go_wp2_with (go_at_call 58; (with_reducible refine HR.out.mono ?_); rintro e w2 ⟨rfl, y3, w3, hrun, z3, z1, z4, r3, S', ks, e1, e2, g1, g2, g3, g4, m3, nx3⟩; have lk0 := m3.omap.look (o.par : Int) HP.out; have lkd := (m3.past ((Turn.refl NoBlock w3).drew)).omap.look (o.par : Int) HP.out; rw [e1, HAp.out, e2] at lk0 lkd; unfold ptrOf at lk0 lkd; have hA3 : r3.A (o.par : Int) = some aq := (by rw [e1]; exact HAp.out); obtain ⟨aq', qb', hq1, -, hq3, -⟩ := m3.live (HMO.out S'); rw [hA3] at hq1; obtain rfl : aq = aq' := (by cases hq1; rfl); have b2 := (ocells hq3).c2; have b3 := (ocells hq3).c3; have bf2 := (ocells hq3).f 2; have bf3 := (ocells hq3).f 3; have K := Lib.hid (And.intro hA3 (And.intro g1 (And.intro g2 (And.intro g3 (And.intro g4 (And.intro m3 nx3)))))); clear g1 g2 g3 g4 m3 nx3 e1 e2 hA3 hq1 hq3)
      go_region
      all_goals
        go_wp2
        go_end0
        obtain ⟨hA3, g1, g2, g3, g4, m3, nx3⟩ := K.out
        obtain ⟨m4, t4⟩ := lose2 (m3.past ((Turn.refl NoBlock w3).drew)) (HMO.out S') hA3 o.depth HD.out
        refine ⟨rfl, r3, S', ks, g1, g2, g3, g4, by rw [HE.out]; exact m4, (nx3.past ((Turn.refl NoBlock w3).drew)).trans ⟨t4.mono (fun j hj => .inl (.inr (.inr (.inr (.inl ⟨_, by subst hj; exact hA3⟩))))), fun j hj => .inl hj⟩, t4.cell z1 haq⟩
    · have hdI : ¬ (0 : Int) < (o.depth : Int) := by omega
      have HD := Lib.hid (show o.depth = 0 by omega)
      clear hd q3
      go_enter Try.func57, Try.ntmps57
      go_wp2_with (go_at_call 58; (with_reducible refine HR.out.mono ?_); rintro e w2 ⟨rfl, y3, w3, hrun, z3, z1, z4, r3, S', ks, e1, e2, g1, g2, g3, g4, m3, nx3⟩; have lk0 := m3.omap.look (o.par : Int) HP.out; have lkd := (m3.past ((Turn.refl NoBlock w3).drew)).omap.look (o.par : Int) HP.out; rw [e1, HAp.out, e2] at lk0 lkd; unfold ptrOf at lk0 lkd; have hA3 : r3.A (o.par : Int) = some aq := (by rw [e1]; exact HAp.out); obtain ⟨aq', qb', hq1, -, hq3, -⟩ := m3.live (HMO.out S'); rw [hA3] at hq1; obtain rfl : aq = aq' := (by cases hq1; rfl); have b2 := (ocells hq3).c2; have bf2 := (ocells hq3).f 2; have K := Lib.hid (And.intro hA3 (And.intro g1 (And.intro g2 (And.intro g3 (And.intro g4 (And.intro m3 nx3)))))); clear g1 g2 g3 g4 m3 nx3 e1 e2 hA3 hq1 hq3)
      go_region
      all_goals
        go_wp2
        go_end0
        obtain ⟨hA3, g1, g2, g3, g4, m3, nx3⟩ := K.out
        obtain ⟨m4, t4⟩ := lose1 (m3.past ((Turn.refl NoBlock w3).drew)) (HMO.out S') hA3
        refine ⟨rfl, r3, S', ks, g1, g2, g3, g4, by rw [HE.out, HD.out]; exact m4, (nx3.past ((Turn.refl NoBlock w3).drew)).trans ⟨t4.mono (fun j hj => .inl (.inr (.inr (.inr (.inl ⟨_, by subst hj; exact hA3⟩))))), fun j hj => .inl hj⟩, t4.cell z1 haq⟩
end


def cntI (f : Int → Bool) : Nat → Nat
  | 0 => 0
  | n + 1 => cntI f n + (if f ((n : Int) + 1) then 1 else 0)
theorem cntI_congr {f g : Int → Bool} (n : Nat) (h : ∀ j, 1 ≤ j → j ≤ (n : Int) → f j = g j) : cntI f n = cntI g n := by
  induction n with
  | zero => rfl
  | succ n ih =>
    unfold cntI
    rw [ih (fun j h1 h2 => h j h1 (by omega)), h ((n : Int) + 1) (by omega) (by omega)]
theorem cntI_upd {f g : Int → Bool} (n : Nat) (i : Int) (h1 : 1 ≤ i) (h2 : i ≤ (n : Int)) (h : ∀ j, j ≠ i → f j = g j) : cntI g n + (if f i then 1 else 0) = cntI f n + (if g i then 1 else 0) := by
  induction n with
  | zero => omega
  | succ n ih =>
    unfold cntI
    by_cases e : i = (n : Int) + 1
    · subst e
      rw [cntI_congr (f := f) (g := g) n (fun j _ hj => h j (by omega))]
      omega
    · have := ih (by omega)
      rw [h ((n : Int) + 1) (fun e2 => e e2.symm)]
      omega
theorem cntI_pos {f : Int → Bool} (n : Nat) (i : Int) (h1 : 1 ≤ i) (h2 : i ≤ (n : Int)) (h : f i = true) : 1 ≤ cntI f n := by
  induction n with
  | zero => omega
  | succ n ih =>
    unfold cntI
    by_cases e : i = (n : Int) + 1
    · subst e; rw [if_pos h]; omega
    · have := ih (by omega); omega
theorem cntI_le (f : Int → Bool) (n : Nat) : cntI f n ≤ n := by
  induction n with
  | zero => exact Nat.le_refl _
  | succ n ih => unfold cntI; split <;> omega
theorem cntI_ex {f : Int → Bool} (n : Nat) (h : 1 ≤ cntI f n) : ∃ i, 1 ≤ i ∧ i ≤ (n : Int) ∧ f i = true := by
  induction n with
  | zero => exact absurd h (by unfold cntI; omega)
  | succ n ih =>
    unfold cntI at h
    by_cases e : f ((n : Int) + 1) = true
    · exact ⟨_, by omega, by omega, e⟩
    · rw [if_neg e] at h
      obtain ⟨i, h1, h2, h3⟩ := ih (by omega)
      exact ⟨i, h1, by omega, h3⟩

def isL (O : Int → Option Ob) (j : Int) : Bool := (O j).isSome
def isK (O : Int → Option Ob) (i j : Int) : Bool := match O j with | none => false | some q => decide ((q.par : Int) = i)
def isS (O : Int → Option Ob) (i j : Int) : Bool := match O j with | none => false | some q => decide ((q.par : Int) = i) && decide (0 < q.depth)
structure Tree (M : Mod) : Prop where
  ids : ∀ i o, M.O i = some o → 1 ≤ i ∧ i ≤ (M.made : Int)
  par : ∀ i o, M.O i = some o → (o.par : Int) < i ∧ (o.par = 0 ∨ ∃ q, M.O (o.par : Int) = some q)
  kids : ∀ i o, M.O i = some o → o.kids = cntI (isK M.O i) M.made
  slc : ∀ i o, M.O i = some o → o.slc = cntI (isS M.O i) M.made
  live : M.live = cntI (isL M.O) M.made
  neg : ∀ i o q, M.O i = some o → q < 0 → o.pgs q = none
theorem Tree.zero {M : Mod} (h : Tree M) : M.O 0 = none := by
  cases hO : M.O 0 with
  | none => rfl
  | some o => have := h.ids 0 o hO; omega
/-- What end wants of an object's parent. -/
theorem Tree.up {M : Mod} (h : Tree M) {i : Int} {o q : Ob} (hO : M.O i = some o) (hq : M.O (o.par : Int) = some q) : 1 ≤ q.kids ∧ q.kids ≤ M.made ∧ (0 < o.depth → 1 ≤ q.slc) ∧ q.slc ≤ M.made := by
  obtain ⟨i1, i2⟩ := h.ids i o hO
  refine ⟨?_, ?_, fun hd => ?_, ?_⟩
  · rw [h.kids _ _ hq]
    exact cntI_pos _ i i1 i2 (by unfold isK; rw [hO]; simp)
  · rw [h.kids _ _ hq]; exact cntI_le _ _
  · rw [h.slc _ _ hq]
    exact cntI_pos _ i i1 i2 (by unfold isS; rw [hO]; simp [hd])
  · rw [h.slc _ _ hq]; exact cntI_le _ _
/-- An object that has become another one at the same place of the tree. -/
theorem Tree.same {M M' : Mod} (h : Tree M) {i : Int} {o o' : Ob} (hO : M.O i = some o) (hM : M'.O = updI M.O i (some o')) (hm : M'.made = M.made) (hl : M'.live = M.live) (h1 : o'.par = o.par) (h2 : o'.depth = o.depth) (h3 : o'.kids = o.kids) (h4 : o'.slc = o.slc) (h5 : ∀ q, q < 0 → o'.pgs q = none) : Tree M' := by
  have hat : ∀ j x, M'.O j = some x → ∃ y, M.O j = some y ∧ x.par = y.par ∧ x.depth = y.depth ∧ x.kids = y.kids ∧ x.slc = y.slc ∧ (∀ q, q < 0 → y.pgs q = none → x.pgs q = none) := fun j x hx => by
    rw [hM] at hx
    unfold updI at hx
    by_cases e : j = i
    · subst e
      rw [if_pos rfl] at hx
      cases hx
      exact ⟨o, hO, h1, h2, h3, h4, fun q hq _ => h5 q hq⟩
    · rw [if_neg e] at hx
      exact ⟨x, hx, rfl, rfl, rfl, rfl, fun _ _ h => h⟩
  have hK : ∀ p j, isK M'.O p j = isK M.O p j := fun p j => by
    rw [hM]
    unfold isK updI
    by_cases e : j = i
    · subst e; rw [if_pos rfl, hO]; simp only [h1]
    · rw [if_neg e]
  have hS : ∀ p j, isS M'.O p j = isS M.O p j := fun p j => by
    rw [hM]
    unfold isS updI
    by_cases e : j = i
    · subst e; rw [if_pos rfl, hO]; simp only [h1, h2]
    · rw [if_neg e]
  have hL : ∀ j, isL M'.O j = isL M.O j := fun j => by
    rw [hM]
    unfold isL updI
    by_cases e : j = i
    · subst e; rw [if_pos rfl, hO]; rfl
    · rw [if_neg e]
  refine ⟨fun j x hx => ?_, fun j x hx => ?_, fun j x hx => ?_, fun j x hx => ?_, ?_, fun j x q hx hq => ?_⟩
  · obtain ⟨y, k0, k1, k2, k3, k4, k5⟩ := hat j x hx
    rw [hm]; exact h.ids j y k0
  · obtain ⟨y, k0, k1, k2, k3, k4, k5⟩ := hat j x hx
    obtain ⟨p1, p2⟩ := h.par j y k0
    rw [k1]
    refine ⟨p1, p2.imp id (fun ⟨z, hz⟩ => ?_)⟩
    rw [hM]
    unfold updI
    split
    · exact ⟨_, rfl⟩
    · exact ⟨z, hz⟩
  · obtain ⟨y, k0, k1, k2, k3, k4, k5⟩ := hat j x hx
    rw [k3, h.kids j y k0, hm]
    exact (cntI_congr _ (fun k _ _ => hK j k)).symm
  · obtain ⟨y, k0, k1, k2, k3, k4, k5⟩ := hat j x hx
    rw [k4, h.slc j y k0, hm]
    exact (cntI_congr _ (fun k _ _ => hS j k)).symm
  · rw [hl, h.live, hm]
    exact (cntI_congr _ (fun k _ _ => hL k)).symm
  · obtain ⟨y, k0, k1, k2, k3, k4, k5⟩ := hat j x hx
    exact k5 q hq (h.neg j y q k0 hq)
/-- What end makes of the objects. -/
theorem endM_O {M : Mod} {i : Int} {o : Ob} {S : PL} (hne : (o.par : Int) ≠ i) (j : Int) : (endM M i o S).O j = if j = i then none else if j = (o.par : Int) then (M.O j).map (fun q => lose q o.depth) else M.O j := by
  unfold endM
  cases hM : M.O (o.par : Int) with
  | none =>
    show updI (updI M.O i _) i none j = _
    unfold updI
    by_cases e : j = i
    · rw [if_pos e, if_pos e]
    · rw [if_neg e, if_neg e, if_neg e]
      by_cases e2 : j = (o.par : Int)
      · rw [if_pos e2, e2, hM]; rfl
      · rw [if_neg e2]
  | some q =>
    show updI (updI (updI M.O i _) i none) _ _ j = _
    unfold updI
    by_cases e2 : j = (o.par : Int)
    · rw [if_pos e2, if_neg (fun e => hne (by rw [← e2, e])), if_pos e2, e2, hM]; rfl
    · rw [if_neg e2]
      by_cases e : j = i
      · rw [if_pos e, if_pos e]
      · rw [if_neg e, if_neg e, if_neg e, if_neg e2]
theorem endM_rest (M : Mod) (i : Int) (o : Ob) (S : PL) : (endM M i o S).made = M.made ∧ (endM M i o S).live = M.live - 1 ∧ (endM M i o S).L = S.L ∧ (endM M i o S).most = M.most := by
  unfold endM
  split <;> exact ⟨rfl, rfl, rfl, rfl⟩
theorem Tree.ended {M M' : Mod} (h : Tree M) {i : Int} {o : Ob} (hO : M.O i = some o) (hk : o.kids = 0) (hM : ∀ j, M'.O j = if j = i then none else if j = (o.par : Int) then (M.O j).map (fun q => lose q o.depth) else M.O j) (hm : M'.made = M.made) (hl : M'.live = M.live - 1) : Tree M' ∧ 1 ≤ M.live := by
  obtain ⟨i1, i2⟩ := h.ids i o hO
  have hat : ∀ j x, M'.O j = some x → j ≠ i ∧ ∃ y, M.O j = some y ∧ x = if j = (o.par : Int) then lose y o.depth else y := fun j x hx => by
    rw [hM] at hx
    by_cases e : j = i
    · rw [if_pos e] at hx; cases hx
    · rw [if_neg e] at hx
      refine ⟨e, ?_⟩
      by_cases e2 : j = (o.par : Int)
      · rw [if_pos e2] at hx
        cases hy : M.O j with
        | none => rw [hy] at hx; cases hx
        | some y => rw [hy] at hx; cases hx; exact ⟨y, rfl, by rw [if_pos e2]⟩
      · rw [if_neg e2] at hx
        exact ⟨x, hx, by rw [if_neg e2]⟩
  have hsame : ∀ j x y, x = (if j = (o.par : Int) then lose y o.depth else y) → x.par = y.par ∧ x.depth = y.depth ∧ x.pgs = y.pgs := fun j x y e => by
    subst e
    split <;> exact ⟨rfl, rfl, rfl⟩
  have hnk : ∀ j y, M.O j = some y → (y.par : Int) ≠ i := fun j y hy e => by
    have := h.ids j y hy
    have h1 := cntI_pos (f := isK M.O i) M.made j this.1 this.2 (by unfold isK; rw [hy]; simp [e])
    rw [← h.kids i o hO] at h1
    omega
  have hK : ∀ p j, j ≠ i → isK M.O p j = isK M'.O p j := fun p j e => by
    unfold isK
    rw [hM, if_neg e]
    by_cases e2 : j = (o.par : Int)
    · rw [if_pos e2]; cases M.O j <;> rfl
    · rw [if_neg e2]
  have hS : ∀ p j, j ≠ i → isS M.O p j = isS M'.O p j := fun p j e => by
    unfold isS
    rw [hM, if_neg e]
    by_cases e2 : j = (o.par : Int)
    · rw [if_pos e2]; cases M.O j <;> rfl
    · rw [if_neg e2]
  have hL : ∀ j, j ≠ i → isL M.O j = isL M'.O j := fun j e => by
    unfold isL
    rw [hM, if_neg e]
    by_cases e2 : j = (o.par : Int)
    · rw [if_pos e2]; cases M.O j <;> rfl
    · rw [if_neg e2]
  have hi0 : M'.O i = none := by rw [hM, if_pos rfl]
  have cK := fun p => cntI_upd (f := isK M.O p) (g := isK M'.O p) M.made i i1 i2 (hK p)
  have cS := fun p => cntI_upd (f := isS M.O p) (g := isS M'.O p) M.made i i1 i2 (hS p)
  have cL := cntI_upd (f := isL M.O) (g := isL M'.O) M.made i i1 i2 hL
  have eL : isL M.O i = true := by unfold isL; rw [hO]; rfl
  have eL' : isL M'.O i = false := by unfold isL; rw [hi0]; rfl
  rw [eL, eL'] at cL
  simp only [if_true, Bool.false_eq_true, if_false] at cL
  have hlive := h.live
  refine ⟨⟨fun j x hx => ?_, fun j x hx => ?_, fun j x hx => ?_, fun j x hx => ?_, ?_, fun j x q hx hq => ?_⟩, by omega⟩
  · obtain ⟨e, y, hy, -⟩ := hat j x hx
    rw [hm]; exact h.ids j y hy
  · obtain ⟨e, y, hy, hxy⟩ := hat j x hx
    obtain ⟨s1, s2, s3⟩ := hsame j x y hxy
    obtain ⟨p1, p2⟩ := h.par j y hy
    rw [s1]
    refine ⟨p1, p2.imp id (fun ⟨z, hz⟩ => ?_)⟩
    rw [hM, if_neg (hnk j y hy), hz]
    split <;> exact ⟨_, rfl⟩
  · obtain ⟨e, y, hy, hxy⟩ := hat j x hx
    have c := cK j
    have e1 : isK M.O j i = decide ((o.par : Int) = j) := by unfold isK; rw [hO]
    have e2 : isK M'.O j i = false := by unfold isK; rw [hi0]
    rw [e1, e2] at c
    have hy2 := h.kids j y hy
    rw [hm, hxy]
    by_cases e3 : j = (o.par : Int)
    · rw [if_pos e3]
      rw [decide_eq_true e3.symm] at c
      simp only [if_true, Bool.false_eq_true, if_false] at c
      show y.kids - 1 = _
      omega
    · rw [if_neg e3]
      rw [decide_eq_false (fun e => e3 e.symm)] at c
      simp only [Bool.false_eq_true, if_false] at c
      omega
  · obtain ⟨e, y, hy, hxy⟩ := hat j x hx
    have c := cS j
    have e1 : isS M.O j i = (decide ((o.par : Int) = j) && decide (0 < o.depth)) := by unfold isS; rw [hO]
    have e2 : isS M'.O j i = false := by unfold isS; rw [hi0]
    rw [e1, e2] at c
    have hy2 := h.slc j y hy
    rw [hm, hxy]
    by_cases e3 : j = (o.par : Int)
    · rw [if_pos e3]
      rw [decide_eq_true e3.symm] at c
      by_cases hd : 0 < o.depth
      · rw [decide_eq_true hd] at c
        simp only [Bool.and_self, if_true, Bool.false_eq_true, if_false] at c
        show (if 0 < o.depth then y.slc - 1 else y.slc) = _
        rw [if_pos hd]
        omega
      · rw [decide_eq_false hd] at c
        simp only [Bool.and_false, Bool.false_eq_true, if_false] at c
        show (if 0 < o.depth then y.slc - 1 else y.slc) = _
        rw [if_neg hd]
        omega
    · rw [if_neg e3]
      rw [decide_eq_false (fun e => e3 e.symm)] at c
      simp only [Bool.false_and, Bool.false_eq_true, if_false] at c
      omega
  · rw [hl, hm]; omega
  · obtain ⟨e, y, hy, hxy⟩ := hat j x hx
    obtain ⟨s1, s2, s3⟩ := hsame j x y hxy
    rw [s3]; exact h.neg j y q hy hq


theorem intsUnder : Try.prog.underlying 39 = some (.slice 3) := by kernel_rfl
/-- It was dropped, or it has ended. -/
def Dr (M : Mod) (j : Int) : Prop := ∀ o, M.O j = some o → o.drp = true
def dropM (M : Mod) (i : Int) (o : Ob) : Mod := { M with O := updI M.O i (some { o with drp := true }) }
theorem Inv8.ended {M : Mod} (h : Inv8 M) (t : Tree M) (hF : Full M.L) {i : Int} {o : Ob} (hO : M.O i = some o) (hk : o.kids = 0) {S' : PL} {ks : List Int} (h1 : S' = ks.foldl rel1 ⟨M.L, o.pgs, o.cnt⟩) (h2 : ∀ q, 0 ≤ q → S'.g q = none) (h3 : ∀ q, S'.g q = if q ∈ ks then none else o.pgs q) (h4 : Few S'.L) : Inv8 (endM M i o S') := by
  obtain ⟨A', rr⟩ := relo_fold (i := i) ks ⟨M.L, o.pgs, o.cnt⟩ (famOf M.O) h.good hF (fun q => (fam_at hO q).symm)
  rw [← h1] at rr
  have hne : (o.par : Int) ≠ i := by have := (t.par i o hO).1; omega
  have eO := endM_O (M := M) (S := S') hne
  have eL := (endM_rest M i o S').2.2.1
  have hall : ∀ q, S'.g q = none := fun q => by
    by_cases e : 0 ≤ q
    · exact h2 q e
    · rw [h3]
      split
      · rfl
      · exact t.neg i o q hO (by omega)
  have hnk : ∀ j y, M.O j = some y → (y.par : Int) ≠ i := fun j y hy e => by
    have := t.ids j y hy
    have h1 := cntI_pos (f := isK M.O i) M.made j this.1 this.2 (by unfold isK; rw [hy]; simp [e])
    rw [← t.kids i o hO] at h1
    omega
  have hat : ∀ j x, (endM M i o S').O j = some x → ∃ y, M.O j = some y ∧ x.par = y.par ∧ x.depth = y.depth ∧ x.pgs = y.pgs ∧ x.size = y.size ∧ x.frm = y.frm := fun j x hx => by
    rw [eO] at hx
    by_cases e : j = i
    · rw [if_pos e] at hx; cases hx
    · rw [if_neg e] at hx
      by_cases e2 : j = (o.par : Int)
      · rw [if_pos e2] at hx
        cases hy : M.O j with
        | none => rw [hy] at hx; cases hx
        | some y => rw [hy] at hx; cases hx; exact ⟨y, rfl, rfl, rfl, rfl, rfl, rfl⟩
      · rw [if_neg e2] at hx
        exact ⟨x, hx, rfl, rfl, rfl, rfl, rfl⟩
  refine ⟨?_, ⟨fun j x hx hd => ?_, fun j x hx => ?_, fun j x hx hd => ?_⟩, by rw [eL]; exact h4⟩
  · rw [eL]
    refine rr.good.congr (fun k => ?_)
    unfold famOf
    rw [eO]
    by_cases e : k.1 = i
    · rw [if_pos e]
      have := rr.fam k.2
      rw [hall, ← e] at this
      exact this
    · rw [if_neg e, rr.other k e]
      by_cases e2 : k.1 = (o.par : Int)
      · rw [if_pos e2]
        unfold famOf
        cases M.O k.1 <;> rfl
      · rw [if_neg e2]; rfl
  · obtain ⟨y, hy, a1, a2, -, -, -⟩ := hat j x hx
    rw [a2] at hd
    obtain ⟨q, hq, hqd⟩ := h.chain.up j y hy hd
    rw [a1, a2]
    rw [eO, if_neg (hnk j y hy), hq]
    split
    · exact ⟨_, rfl, hqd⟩
    · exact ⟨_, rfl, hqd⟩
  · obtain ⟨y, hy, a1, a2, a3, a4, a5⟩ := hat j x hx
    rw [a2, a4, a5]
    exact h.chain.small j y hy
  · obtain ⟨y, hy, a1, a2, a3, a4, a5⟩ := hat j x hx
    rw [a3]
    rw [a2] at hd
    exact h.chain.pgs j y hy hd

theorem len_rel (L : List Pg) (f : Int) : (relL L f).length = L.length := by
  unfold relL
  split
  · rfl
  · split <;> simp
theorem len_relAll (ks : List Int) : ∀ S : PL, (ks.foldl rel1 S).L.length = S.L.length := by
  induction ks with
  | nil => intro S; rfl
  | cons k ks ih =>
    intro S
    rw [List.foldl_cons, ih]
    unfold rel1
    split
    · rfl
    · exact len_rel _ _
/-- What the loop of Drop holds; c is the object that may end next. -/
structure DropI (w wr : World) (s : Nat) (r : Rep) (M1 : Mod) (rr : Rep) (M : Mod) (c : Int) (v : Value) (l : List Int) : Prop where
  mem : SMem wr s rr M
  next : VNext w s r wr rr
  inv : Inv8 M
  tree : Tree M
  dead : ∀ j o, M.O j = some o → o.drp = true → j ≠ c → 0 < o.kids
  made : M.made = M1.made
  most : M.most = M1.most
  live : M.live + l.length = M1.live
  gone : ∀ k ∈ l, M.O k = none
  drs : ∀ j, Dr M1 j → Dr M j
  ints : Ints v l wr
  apart : ∀ j, Blk v j → ¬ SFoot s rr j
  fresh : ∀ j, Blk v j → w.heap.size ≤ j
  rng : ∀ k ∈ l, 1 ≤ k ∧ k ≤ (M1.made : Int)
  len : M.L.length = M1.L.length
section
variable {w wr w5 wx w6 : World} {s : Nat} {r rr r5 : Rep} {M M1 : Mod} {c : Int} {v : Value} {l : List Int}
theorem DropI.past (h : DropI w wr s r M1 rr M c v l) (t : Turn NoBlock wr w5) : DropI w w5 s r M1 rr M c v l :=
  ⟨h.mem.past t, h.next.past t, h.inv, h.tree, h.dead, h.made, h.most, h.live, h.gone, h.drs, h.ints.past t, h.apart, h.fresh, h.rng, h.len⟩
theorem DropI.step (h : DropI w wr s r M1 rr M c v l) {o : Ob} {a : Nat} {S' : PL} {ks : List Int} (hO : M.O c = some o) (hA : rr.A c = some a) (hk : o.kids = 0) (E : Ended wr w5 s rr M c o a r5 S' ks) (ob : Obj) {n g cap : Nat} (hn : l.length = n)
    (hown : w6.ownsRow 0 3 1 (.slice (some ⟨g, 0, none⟩) (n + 1) cap) (n + 1) (l.map (Value.int .i64) ++ [.int .i64 c])) (hgrow : (w5.alloc ob).grownBy w6 v.ownBlock) (hat : v.ownBlock = some g ∨ g = w5.heap.size + 1) :
    DropI w w6 s r M1 r5 (endM M c o S') (o.par : Int) (.slice (some ⟨g, 0, none⟩) (n + 1) cap) (l ++ [c]) ∧ w6.cell? ⟨a, 1, none⟩ = some (.int .i64 (o.par : Int)) := by
  obtain ⟨p1, p2, p3⟩ := ints_push (w := w5) hn hown hgrow hat
  have hne : (o.par : Int) ≠ c := by have := (h.tree.par c o hO).1; omega
  have eO := endM_O (M := M) (S := S') hne
  obtain ⟨e1, e2, e3, e4⟩ := endM_rest M c o S'
  obtain ⟨t1, t2⟩ := h.tree.ended hO hk eO e1 e2
  have hv5 : ∀ j, Blk v j → ¬ SFoot s r5 j := fun j hj hF => by
    rcases E.next.foot j hF with e | e
    · exact h.apart j hj e
    · obtain ⟨cur, hb⟩ := own_block (w := wr) h.ints hj
      have := lt_of_block hb
      omega
  have m6 : SMem w6 s r5 (endM M c o S') := E.mem.kept p2 (fun k hk hb => hv5 k hb hk)
  refine ⟨⟨m6, ?_, h.inv.ended h.tree (full_pool h.mem.pool) hO hk E.eq E.gone E.keep E.few, t1, fun j x hx hd hj => ?_, by rw [e1, h.made], by rw [e4, h.most], ?_, fun k hk2 => ?_, fun j hj x hx => ?_, p1, fun j hj hF => ?_, fun j hj => ?_, fun k hk2 => ?_, by rw [e3, E.eq, len_relAll]; exact h.len⟩, ?_⟩
  · have nx := h.next.trans E.next
    exact ⟨nx.turn.trans p2 (fun j hj => .inr (h.fresh j hj)), fun j hj => nx.foot j hj⟩
  · rw [eO] at hx
    by_cases e : j = c
    · rw [if_pos e] at hx; cases hx
    · rw [if_neg e, if_neg hj] at hx
      exact h.dead j x hx hd e
  · rw [e2, List.length_append]
    have := h.live
    show M.live - 1 + (l.length + 1) = _
    omega
  · rw [eO]
    by_cases e : k = c
    · rw [if_pos e]
    · rw [if_neg e]
      have hk3 : k ∈ l := by
        rcases List.mem_append.1 hk2 with hh | hh
        · exact hh
        · exact absurd (by simpa using hh) e
      rw [h.gone k hk3]
      split <;> rfl
  · rw [eO] at hx
    by_cases e : j = c
    · rw [if_pos e] at hx; cases hx
    · rw [if_neg e] at hx
      by_cases e2 : j = (o.par : Int)
      · rw [if_pos e2] at hx
        cases hy : M.O j with
        | none => rw [hy] at hx; cases hx
        | some y =>
          rw [hy] at hx
          cases hx
          exact h.drs j hj y hy
      · rw [if_neg e2] at hx
        exact h.drs j hj x hx
  · rcases p3 j hj with e | e
    · exact hv5 j e hF
    · have := E.mem.lt hF; omega
  · rcases p3 j hj with e | e
    · exact h.fresh j e
    · exact Nat.le_trans (h.next.trans E.next).turn.size e
  · rcases List.mem_append.1 hk2 with hh | hh
    · exact h.rng k hh
    · have e : k = c := by simpa using hh
      subst e
      have := h.tree.ids k o hO
      rw [h.made] at this
      exact this
  · exact p2.cell E.par (fun hb => h.apart a hb (.inr (.inr (.inr (.inl ⟨c, hA⟩)))))
theorem Tree.fit {M : Mod} (h : Tree M) (hm : M.made < 4611686018427387904) {i : Int} {o : Ob} (hO : M.O i = some o) : Go.Proofs.Ytdhbhigoboamfaa.fit i ∧ Go.Proofs.Ytdhbhigoboamfaa.fit (o.par : Int) := by
  have h1 := h.ids i o hO
  have h2 := (h.par i o hO).1
  unfold Go.Proofs.Ytdhbhigoboamfaa.fit
  omega
theorem drop_start (h : SMem w s r M) (hi : Inv8 M) (ht : Tree M) (hd : ∀ j o, M.O j = some o → o.drp = true → 0 < o.kids) {i : Int} {o : Ob} {a : Nat} (hO : M.O i = some o) (hA : r.A i = some a) :
    DropI w (w.setCell ⟨a, 6, none⟩ (.bool true)) s r (dropM M i o) r (dropM M i o) i (.slice none 0 0) [] := by
  obtain ⟨a', pb, hA', hB, hcell, hpm⟩ := h.live hO
  rw [hA] at hA'
  cases hA'
  have t2 : Turn (fun k => k = a) w (w.setCell ⟨a, 6, none⟩ (.bool true)) := (Turn.refl (fun k => k = a) _).setCell (p := ⟨a, 6, none⟩) (.inl rfl) _
  refine ⟨h.setOb (o' := { o with drp := true }) hA hB t2 (fun k hk => .inl hk) (set_at hcell 6 _) (IMap.past hpm t2 (fun e => h.aB hA hB e.symm)), ⟨t2.mono (fun k hk => .inl (.inr (.inr (.inr (.inl ⟨i, by subst hk; exact hA⟩))))), fun k hk => .inl hk⟩, ⟨?_, ?_, hi.few⟩, ?_, fun j x hx hxd hj => ?_, rfl, rfl, rfl, fun k hk => (by cases hk), fun j hj => hj, ints_nil _, fun j hj => (blk_nil j hj).elim, fun j hj => (blk_nil j hj).elim, fun k hk => (by cases hk), rfl⟩
  · refine hi.good.congr (fun k => ?_)
    unfold famOf dropM updI
    by_cases e : k.1 = i
    · simp only [if_pos e]; rw [e, hO]
    · simp only [if_neg e]
  · exact hi.chain.upd hO rfl rfl rfl rfl (fun hp => hi.chain.pgs i o hO hp)
  · exact ht.same hO rfl rfl rfl rfl rfl rfl rfl (fun q hq => ht.neg i o q hO hq)
  · have hx' : updI M.O i _ j = some x := hx
    unfold updI at hx'
    rw [if_neg hj] at hx'
    exact hd j x hx' hxd

/-- What Drop leaves. -/
structure Dropped (w w' : World) (s : Nat) (r : Rep) (M : Mod) (i : Int) (r' : Rep) (M' : Mod) (v : Value) (l : List Int) : Prop where
  mem : SMem w' s r' M'
  next : VNext w s r w' r'
  inv : Inv8 M'
  tree : Tree M'
  dead : ∀ j o, M'.O j = some o → o.drp = true → 0 < o.kids
  made : M'.made = M.made
  most : M'.most = M.most
  live : M'.live + l.length = M.live
  gone : ∀ k ∈ l, M'.O k = none
  drs : ∀ j, Dr M j → Dr M' j
  dr : Dr M' i
  ints : Ints v l w'
  apart : ∀ j, Blk v j → ¬ SFoot s r' j
  fresh : ∀ j, Blk v j → w.heap.size ≤ j
  rng : ∀ k ∈ l, 1 ≤ k ∧ k ≤ (M.made : Int)
  len : M'.L.length = M.L.length
theorem DropI.done {rr : Rep} {M0 : Mod} {i : Int} {o : Ob} (h : DropI w wr s r (dropM M0 i o) rr M c v l) (_hO : M0.O i = some o) (hx : ∀ x, M.O c = some x → x.drp = true → 0 < x.kids) : Dropped w wr s r M0 i rr M v l := by
  refine ⟨h.mem, h.next, h.inv, h.tree, fun j x hj hd => ?_, h.made, h.most, h.live, h.gone, fun j hj => h.drs j (fun y hy => ?_), h.drs i (fun y hy => ?_), h.ints, h.apart, h.fresh, h.rng, h.len⟩
  · by_cases e : j = c
    · subst e; exact hx x hj hd
    · exact h.dead j x hj hd e
  · have hy' : updI M0.O i _ j = some y := hy
    unfold updI at hy'
    split at hy'
    · cases hy'; rfl
    · exact hj y hy'
  · have hy' : updI M0.O i _ i = some y := hy
    rw [updI_same] at hy'
    cases hy'; rfl

theorem drop_no (h : SMem w s r M) (i : Int) (hi : Go.Proofs.Ytdhbhigoboamfaa.fit i) (hn : findS M i ≠ 0) :
    Calls Try.prog 24 #[.pointer (some ⟨s, 0, none⟩), .int .i64 i] w fun e w' => e = .returned (.tuple #[.slice none 0 0, .int .i64 (-25)]) ∧ w = w' := by
  have c := find_no h i hi hn
  clear h hn
  go_enter Try.func24, Try.ntmps24
  go_wp2_with (go_at_call 49; (with_reducible refine c.mono ?_); rintro x w1 ⟨rfl, rfl⟩)
  go_ret2
  exact ⟨rfl, rfl⟩

set_option maxRecDepth 20000 in
set_option maxHeartbeats 4000000 in
theorem drop_yes (h : SMem w s r M) (hi : Inv8 M) (ht : Tree M) (hd : ∀ j o, M.O j = some o → o.drp = true → 0 < o.kids) (hmd : M.made < 140737488355) {i : Int} {o : Ob} (hO : M.O i = some o) (hdr : o.drp = false) :
    Calls Try.prog 24 #[.pointer (some ⟨s, 0, none⟩), .int .i64 i] w fun e w' => ∃ p cp l r' M', e = .returned (.tuple #[.slice p l.length cp, .int .i64 0]) ∧ Dropped w w' s r M i r' M' (.slice p l.length cp) l := by
  obtain ⟨iv, hi3, hz0, hz1, hz2⟩ := info_parts info3
  obtain ⟨a0, pb0, hA0, hB0, hcell0, hpm0⟩ := h.live hO
  have c49 := find_yes h i (ht.fit (by omega) hO).1 hO hdr hA0
  have hf6 := (ocells hcell0).f 6
  have hc6 := (ocells hcell0).c6
  have halt := lt_of_block hcell0
  have HS := Lib.hid (drop_start h hi ht hd hO hA0)
  have HO := Lib.hid hO
  have Hm := Lib.hid hmd
  have HA0 := Lib.hid hA0
  have Hlv := Lib.hid (show (dropM M i o).live ≤ M.made from by show M.live ≤ _; rw [ht.live]; exact cntI_le _ _)
  clear h hi ht hd hO hA0 hB0 hcell0 hpm0 hmd hdr
  go_enter Try.func24, Try.ntmps24
  go_wp2_with (go_at_call 49; (with_reducible refine c49.mono ?_); rintro x w1 ⟨rfl, rfl⟩)
  go_loopg [1, 4, 6] M.live (fun g s1 s4 s6 wr => ∃ (c : Int) (M' : Mod) (rr : Rep) (p : Option Addr) (cp n : Nat) (l : List Int), g = M'.live ∧ s1 = .int .i64 c ∧ s4 = .slice p n cp ∧ ((s6 = .pointer none ∧ rr.A c = none) ∨ ∃ a, s6 = .pointer (some ⟨a, 0, none⟩) ∧ rr.A c = some a) ∧
    Hid (DropI w wr s r (dropM M i o) rr M' c (.slice p n cp) l ∧ l.length = n))
  case atStart => exact ⟨i, dropM M i o, r, none, 0, 0, [], rfl, rfl, rfl, .inr ⟨a0, rfl, HA0.out⟩, HS.out, rfl⟩
  case round =>
    obtain ⟨c, M', rr, p, cp, n, l, hg, rfl, rfl, hs6, HA⟩ := hrel
    rcases hs6 with ⟨rfl, hAc⟩ | ⟨a, rfl, hAc⟩
    · have HX := Lib.hid hAc
      clear hAc
      go_wp2
      go_ret2
      obtain ⟨h1, h2⟩ := HA.out
      subst h2
      exact ⟨p, cp, l, rr, M', rfl, h1.done HO.out (fun x hx => by
        have := (h1.mem.no c HX.out).1
        rw [this] at hx; cases hx)⟩
    · obtain ⟨oc, pbc, hOc, hBc, hcell, hpm⟩ := HA.out.1.mem.ob c a hAc
      have oo := ocells hcell
      have d6 := oo.c6
      have d2 := oo.c2
      by_cases hdc : oc.drp = true ∧ oc.kids = 0
      · obtain ⟨hd1, hd2⟩ := hdc
        rw [hd1] at d6
        rw [hd2] at d2
        have T := HA.out.1.tree
        have hmade : M'.made < 140737488355 := by rw [HA.out.1.made]; exact Hm.out
        have hfit := T.fit (by omega) hOc
        have hln : n ≤ 140737488355 := by
          have h1 := HA.out.1.live
          have h2 := HA.out.2
          have h3 : (dropM M i o).live ≤ M.made := Hlv.out
          have := Hm.out
          omega
        have cE := end_any HA.out.1.mem hOc hAc HA.out.1.inv.few hfit.1 hfit.2 (by have := (T.par c oc hOc).1; omega) (fun q hq => by
          obtain ⟨u1, u2, u3, u4⟩ := T.up hOc hq
          exact ⟨u1, by omega, u3, by omega⟩)
        have q3 : n + 1 ≤ maxLen := by unfold maxLen; omega
        have q4 : (n + 1) * 8 ≤ 140737488355328 := by omega
        have HST := Lib.hid (fun (w5 w6 : World) r5 S' ks (E : Ended wr w5 s rr M' c oc a r5 S' ks) g cap hown hgrow hat => HA.out.1.step (w5 := w5) (w6 := w6) hOc hAc hd2 E (.cells #[.int .i64 c] 3) (g := g) (cap := cap) HA.out.2 hown hgrow hat)
        have HI := Lib.hid (fun (w5 : World) r5 S' ks (E : Ended wr w5 s rr M' c oc a r5 S' ks) => show (w5.alloc (.cells #[.int .i64 c] 3)).ownsRow 0 3 1 (.slice p n cp) n (l.map (Value.int .i64)) from by
          have h1 := HA.out.1.ints
          unfold Ints at h1
          rw [HA.out.2] at h1
          exact World.ownsRow.alloc (E.next.turn.own h1 (fun j hj hF => HA.out.1.apart j hj hF)) _)
        have HF := Lib.hid hfit.2
        have HLV := Lib.hid (show 1 ≤ M'.live ∧ ∀ S', (endM M' c oc S').live = M'.live - 1 from ⟨(T.ended (M' := endM M' c oc ⟨[], fun _ => none, 0⟩) hOc hd2 (endM_O (by have := (T.par c oc hOc).1; omega)) (endM_rest _ _ _ _).1 (endM_rest _ _ _ _).2.1).2, fun S' => (endM_rest _ _ _ _).2.1⟩)
        clear hAc hOc hBc hcell hpm oo hd1 hd2 T hmade hfit hln
        go_wp2_with (first
          | (go_at_call 57; (with_reducible refine cE.mono ?_); rintro x w5 ⟨rfl, r5, S5, ks5, E5⟩; have KE := Lib.hid E5; clear E5)
          | (at_builtin; refine wpList_append_lies _ rfl (.tmp 38) (.tmp 40) 39 rfl 0 3 iv _ 1 8 intsUnder hi3 hz0 hz1 hz2 rfl (by decide) (.slice p n cp) n (l.map (Value.int .i64)) rfl (HI.out _ _ _ _ KE.out) ⟨w5.heap.size, 0, none⟩ 1 1 [.int .i64 c] rfl rfl (fun j u hu => World.news_of_block (heap_alloc_new w5 _) j u (by simpa using hu)) (by simp [Value.oneCell']) (by decide) q3 q4 (Nat.zero_le _) (w5.heap.size + 1) (by simp) ?_; intro g6 c6 w6 hown hgrow hat hlt6; obtain ⟨k6, z1⟩ := HST.out _ w6 _ _ _ KE.out g6 c6 hown hgrow hat; have z3 := k6.mem.c3; have lk0 := k6.mem.omap.look (oc.par : Int) HF.out; have lkd := (k6.mem.past ((Turn.refl NoBlock w6).drew)).omap.look (oc.par : Int) HF.out; have K6 := Lib.hid k6; clear k6 hown hgrow hat hlt6))
        go_region
        all_goals
          go_wp2
          go_roundg (M'.live - 1)
          case measure => have := HLV.out.1; omega
          case rel =>
            refine ⟨(oc.par : Int), endM M' c oc S5, r5, _, c6, n + 1, l ++ [c], (HLV.out.2 _).symm, rfl, rfl, ?_, K6.out.past ((Turn.refl NoBlock w6).drew), by rw [List.length_append, HA.out.2]; rfl⟩
            cases hx : r5.A (oc.par : Int) with
            | none => exact .inl ⟨rfl, rfl⟩
            | some b => exact .inr ⟨b, rfl, rfl⟩
      · have hcs : (oc.drp = false) ∨ (oc.drp = true ∧ ((oc.kids : Int) == 0) = false) := by
          cases hdd : oc.drp with
          | false => exact .inl rfl
          | true =>
            have hk0 : oc.kids ≠ 0 := fun e => hdc ⟨(by first | exact hdd | rfl), e⟩
            exact .inr ⟨rfl, by simp; omega⟩
        have HX := Lib.hid (And.intro hOc hdc)
        clear hAc hOc hBc hcell hpm oo hdc
        have fin : ∀ (_ : True), Dropped w wr s r M i rr M' (.slice p n cp) l := fun _ => by
          refine HA.out.1.done HO.out (fun x hx hxd => ?_)
          rw [HX.out.1] at hx
          cases hx
          have := HX.out.2
          rcases Nat.eq_zero_or_pos oc.kids with e | e
          · exact absurd ⟨hxd, e⟩ this
          · exact e
        have FIN := Lib.hid fin
        clear fin
        rcases hcs with e | ⟨e, e2⟩
        · rw [e] at d6
          go_wp2
          go_ret2
          obtain ⟨h1, h2⟩ := HA.out
          subst h2
          exact ⟨p, cp, l, rr, M', rfl, FIN.out trivial⟩
        · rw [e] at d6
          go_wp2
          go_ret2
          obtain ⟨h1, h2⟩ := HA.out
          subst h2
          exact ⟨p, cp, l, rr, M', rfl, FIN.out trivial⟩
end


def gain (q : Ob) (d : Nat) : Ob := { q with kids := q.kids + 1, slc := if 0 < d then q.slc + 1 else q.slc }
theorem Tree.added {M M' : Mod} (h : Tree M) {x : Ob} (k0 : x.kids = 0) (s0 : x.slc = 0) (g0 : ∀ q, q < 0 → x.pgs q = none) (hp : x.par = 0 ∨ ∃ q, M.O (x.par : Int) = some q)
    (hM : ∀ j, M'.O j = if j = (M.made : Int) + 1 then some x else if j = (x.par : Int) then (M.O j).map (fun q => gain q x.depth) else M.O j) (hm : M'.made = M.made + 1) (hl : M'.live = M.live + 1) : Tree M' := by
  have hnew : M.O ((M.made : Int) + 1) = none := by
    cases hO : M.O ((M.made : Int) + 1) with
    | none => rfl
    | some o => have := h.ids _ _ hO; omega
  have hple : (x.par : Int) ≤ M.made := by
    rcases hp with e | ⟨q, hq⟩
    · omega
    · exact (h.ids _ _ hq).2
  have hat : ∀ j y, M'.O j = some y → (j = (M.made : Int) + 1 ∧ y = x) ∨ (j ≠ (M.made : Int) + 1 ∧ ∃ z, M.O j = some z ∧ y = if j = (x.par : Int) then gain z x.depth else z) := fun j y hy => by
    rw [hM] at hy
    by_cases e : j = (M.made : Int) + 1
    · rw [if_pos e] at hy; cases hy; exact .inl ⟨e, rfl⟩
    · rw [if_neg e] at hy
      refine .inr ⟨e, ?_⟩
      by_cases e2 : j = (x.par : Int)
      · rw [if_pos e2] at hy
        cases hz : M.O j with
        | none => rw [hz] at hy; cases hy
        | some z => rw [hz] at hy; cases hy; exact ⟨z, rfl, by rw [if_pos e2]⟩
      · rw [if_neg e2] at hy
        exact ⟨y, hy, by rw [if_neg e2]⟩
  have hsame : ∀ j y z, y = (if j = (x.par : Int) then gain z x.depth else z) → y.par = z.par ∧ y.depth = z.depth ∧ y.pgs = z.pgs := fun j y z e => by
    subst e
    split <;> exact ⟨rfl, rfl, rfl⟩
  have hK : ∀ p j, j ≤ (M.made : Int) → isK M'.O p j = isK M.O p j := fun p j e => by
    unfold isK
    rw [hM, if_neg (by omega)]
    by_cases e2 : j = (x.par : Int)
    · rw [if_pos e2]; cases M.O j <;> rfl
    · rw [if_neg e2]
  have hS : ∀ p j, j ≤ (M.made : Int) → isS M'.O p j = isS M.O p j := fun p j e => by
    unfold isS
    rw [hM, if_neg (by omega)]
    by_cases e2 : j = (x.par : Int)
    · rw [if_pos e2]; cases M.O j <;> rfl
    · rw [if_neg e2]
  have hL : ∀ j, j ≤ (M.made : Int) → isL M'.O j = isL M.O j := fun j e => by
    unfold isL
    rw [hM, if_neg (by omega)]
    by_cases e2 : j = (x.par : Int)
    · rw [if_pos e2]; cases M.O j <;> rfl
    · rw [if_neg e2]
  have hx : M'.O ((M.made : Int) + 1) = some x := by rw [hM, if_pos rfl]
  have cK : ∀ p, cntI (isK M'.O p) (M.made + 1) = cntI (isK M.O p) M.made + (if (x.par : Int) = p then 1 else 0) := fun p => by
    show cntI (isK M'.O p) M.made + (if isK M'.O p ((M.made : Int) + 1) then 1 else 0) = _
    rw [cntI_congr (f := isK M'.O p) (g := isK M.O p) _ (fun j _ hj => hK p j hj)]
    unfold isK
    rw [hx]
    simp only [decide_eq_true_eq]
  have cS : ∀ p, cntI (isS M'.O p) (M.made + 1) = cntI (isS M.O p) M.made + (if (x.par : Int) = p ∧ 0 < x.depth then 1 else 0) := fun p => by
    show cntI (isS M'.O p) M.made + (if isS M'.O p ((M.made : Int) + 1) then 1 else 0) = _
    rw [cntI_congr (f := isS M'.O p) (g := isS M.O p) _ (fun j _ hj => hS p j hj)]
    unfold isS
    rw [hx]
    simp only [Bool.and_eq_true, decide_eq_true_eq]
  have cL : cntI (isL M'.O) (M.made + 1) = cntI (isL M.O) M.made + 1 := by
    show cntI (isL M'.O) M.made + (if isL M'.O ((M.made : Int) + 1) then 1 else 0) = _
    rw [cntI_congr (f := isL M'.O) (g := isL M.O) _ (fun j _ hj => hL j hj)]
    unfold isL
    rw [hx]
    rfl
  have none_new : ∀ f : Int → Bool, cntI f M.made = 0 → ∀ j, 1 ≤ j → j ≤ (M.made : Int) → f j = false := fun f hf j h1 h2 => by
    cases hfj : f j with
    | false => rfl
    | true => have := cntI_pos M.made j h1 h2 hfj; omega
  have zK : cntI (isK M.O ((M.made : Int) + 1)) M.made = 0 := by
    rcases Nat.eq_zero_or_pos (cntI (isK M.O ((M.made : Int) + 1)) M.made) with e | e
    · exact e
    · obtain ⟨j, h1, h2, h3⟩ := cntI_ex M.made e
      unfold isK at h3
      cases hz : M.O j with
      | none => rw [hz] at h3; cases h3
      | some z =>
        rw [hz] at h3
        have h4 : (z.par : Int) = (M.made : Int) + 1 := of_decide_eq_true h3
        have := (h.par j z hz).1
        omega
  have zS : cntI (isS M.O ((M.made : Int) + 1)) M.made = 0 := by
    rcases Nat.eq_zero_or_pos (cntI (isS M.O ((M.made : Int) + 1)) M.made) with e | e
    · exact e
    · obtain ⟨j, h1, h2, h3⟩ := cntI_ex M.made e
      unfold isS at h3
      cases hz : M.O j with
      | none => rw [hz] at h3; cases h3
      | some z =>
        rw [hz] at h3
        simp only [Bool.and_eq_true, decide_eq_true_eq] at h3
        have := (h.par j z hz).1
        omega
  refine ⟨fun j y hy => ?_, fun j y hy => ?_, fun j y hy => ?_, fun j y hy => ?_, ?_, fun j y q hy hq => ?_⟩
  · rcases hat j y hy with ⟨e, -⟩ | ⟨e, z, hz, -⟩
    · rw [hm]; omega
    · have := h.ids j z hz; rw [hm]; omega
  · have up : ∀ p : Nat, (p = 0 ∨ ∃ q, M.O (p : Int) = some q) → p = 0 ∨ ∃ q, M'.O (p : Int) = some q := fun p hpp => hpp.imp id (fun ⟨q, hq⟩ => by
      have := h.ids _ _ hq
      rw [hM, if_neg (by omega), hq]
      split <;> exact ⟨_, rfl⟩)
    rcases hat j y hy with ⟨e, e2⟩ | ⟨e, z, hz, hyz⟩
    · subst e2
      exact ⟨by omega, up _ hp⟩
    · obtain ⟨s1, s2, s3⟩ := hsame j y z hyz
      rw [s1]
      exact ⟨(h.par j z hz).1, up _ (h.par j z hz).2⟩
  · rw [hm, cK]
    rcases hat j y hy with ⟨e, e2⟩ | ⟨e, z, hz, hyz⟩
    · subst e2
      rw [k0, e, zK, if_neg (by omega)]
    · rw [hyz, ← h.kids j z hz]
      by_cases e3 : j = (x.par : Int)
      · rw [if_pos e3, if_pos e3.symm]; rfl
      · rw [if_neg e3, if_neg (fun e => e3 e.symm)]; rfl
  · rw [hm, cS]
    rcases hat j y hy with ⟨e, e2⟩ | ⟨e, z, hz, hyz⟩
    · subst e2
      rw [s0, e, zS, if_neg (by omega)]
    · rw [hyz, ← h.slc j z hz]
      by_cases e3 : j = (x.par : Int)
      · rw [if_pos e3]
        show (if 0 < x.depth then z.slc + 1 else z.slc) = _
        by_cases hd : 0 < x.depth
        · rw [if_pos hd, if_pos ⟨e3.symm, hd⟩]
        · rw [if_neg hd, if_neg (fun e => hd e.2)]; rfl
      · rw [if_neg e3, if_neg (fun e => e3 e.1.symm)]; rfl
  · rw [hl, hm, cL, h.live]
  · rcases hat j y hy with ⟨e, e2⟩ | ⟨e, z, hz, hyz⟩
    · subst e2; exact g0 q hq
    · obtain ⟨s1, s2, s3⟩ := hsame j y z hyz
      rw [s3]; exact h.neg j z q hz hq

theorem root_ex {O : Int → Option Ob} (hc : Chain O) : ∀ d i o, O i = some o → o.depth = d → ∀ t : Nat, ∃ (j : Int) (q : Ob) (t' : Nat), rootI O d i (t : Int) = (j, (t' : Int)) ∧ O j = some q ∧ q.depth = 0 ∧ t' ≤ t + d * 4294967296 := by
  intro d
  induction d with
  | zero => intro i o hO hd t; exact ⟨i, o, t, rfl, hO, hd, by omega⟩
  | succ d ih =>
    intro i o hO hd t
    obtain ⟨q, hq, hqd⟩ := hc.up i o hO (by omega)
    have hf := (hc.small i o hO).2.1
    obtain ⟨j, q', t', h1, h2, h3, h4⟩ := ih (o.par : Int) q hq (by omega) (t + o.frm)
    refine ⟨j, q', t', ?_, h2, h3, ?_⟩
    · rw [rootI_succ hO, ← h1]
      congr 1
    · have : (d + 1) * 4294967296 = d * 4294967296 + 4294967296 := by omega
      omega
/-- All have ended. -/
theorem Tree.empty {M : Mod} (h : Tree M) (hd : ∀ j o, M.O j = some o → o.drp = true → 0 < o.kids) (ha : ∀ j, 1 ≤ j → j ≤ (M.made : Int) → Dr M j) : ∀ j, M.O j = none := by
  have key : ∀ n : Nat, ∀ j : Int, (M.made : Int) - n < j → M.O j = none := by
    intro n
    induction n with
    | zero =>
      intro j hj
      cases hO : M.O j with
      | none => rfl
      | some o => have := h.ids j o hO; omega
    | succ n ih =>
      intro j hj
      cases hO : M.O j with
      | none => rfl
      | some o =>
        obtain ⟨i1, i2⟩ := h.ids j o hO
        have hk := hd j o hO (ha j i1 i2 o hO)
        rw [h.kids j o hO] at hk
        obtain ⟨k, k1, k2, k3⟩ := cntI_ex M.made hk
        unfold isK at k3
        cases hz : M.O k with
        | none => rw [hz] at k3; cases k3
        | some z =>
          rw [hz] at k3
          have h4 : (z.par : Int) = j := of_decide_eq_true k3
          have h5 := (h.par k z hz).1
          have h6 := ih k (by omega)
          rw [hz] at h6; cases h6
  intro j
  rcases Int.le_total j 0 with h0 | h0
  · cases hO : M.O j with
    | none => rfl
    | some o => have := h.ids j o hO; omega
  · exact key (M.made + 1) j (by omega)
theorem Tree.none_live {M : Mod} (h : Tree M) (hn : ∀ j, M.O j = none) : M.live = 0 := by
  rw [h.live]
  rcases Nat.eq_zero_or_pos (cntI (isL M.O) M.made) with e | e
  · exact e
  · obtain ⟨j, h1, h2, h3⟩ := cntI_ex M.made e
    unfold isL at h3
    rw [hn] at h3; cases h3
theorem none_room {M : Mod} (h : Inv8 M) (hn : ∀ j, M.O j = none) : roomN M.L = M.L.length := by
  have hz : usedN M.L = 0 := by
    unfold usedN
    rw [List.length_eq_zero_iff, List.filter_eq_nil_iff]
    intro p hp
    obtain ⟨k, hk, rfl⟩ := List.getElem_of_mem hp
    have hu : usersL M.L (k : Int) = 0 := by
      rcases Nat.eq_zero_or_pos (usersL M.L (k : Int)) with e | e
      · exact e
      · obtain ⟨ks, _, h2, h3⟩ := h.good.ex (k : Int)
        rw [← h3] at e
        obtain ⟨key, hkey⟩ := List.exists_mem_of_length_pos e
        have := (h2 key).1 hkey
        unfold famOf at this
        rw [hn] at this; cases this
    unfold usersL at hu
    rw [pgAt_nat, List.getD_eq_getElem?_getD, List.getElem?_eq_getElem hk] at hu
    simpa using hu
  unfold roomN
  rw [hz]
  simp


structure OpX where
  kind : Int
  id : Int
  op : Int
  at' : Int
  n : Int
  lp : Option Addr
  ll : Nat
  lc : Nat
  bs : List UInt8
def OpX.cells (o : OpX) : List Value := [.int .i64 o.kind, .int .i64 o.id, .int .i64 o.op, .int .i64 o.at', .int .i64 o.n, .slice o.lp o.ll o.lc]
def OpX.Fit (o : OpX) : Prop := fit o.kind ∧ fit o.id ∧ fit o.op ∧ fit o.at' ∧ fit o.n
theorem cellsX : Try.prog.cellsOf 41 = 6 := by kernel_rfl
theorem sliceX : Try.prog.underlying 38 = some (.slice 41) := by kernel_rfl
theorem fieldsX : fieldsOf (Try.prog.underlying 41) = [(3, 0), (3, 1), (3, 2), (3, 3), (3, 4), (22, 5)] := by kernel_rfl
def BytesOf8 (W : World) (o : OpX) : Prop := o.bs.length = o.ll ∧ o.ll ≤ maxLen ∧ ArgB W (.slice o.lp o.ll o.lc) o.bs
def OpsAt8 (W : World) (p : Option Addr) (len : Nat) (os : Nat → OpX) : Prop := 0 < len → ∃ b off, p = some ⟨b, off, none⟩ ∧ ∀ j, j < len → ∀ i, i < 6 → W.cell? ⟨b, off + j * 6 + i, none⟩ = (os j).cells[i]?
def OpsOK8 (W : World) (len : Nat) (os : Nat → OpX) : Prop := ∀ j, j < len → (os j).Fit ∧ BytesOf8 W (os j)
section
variable {H : Type} {enc : TypeId × Value → H} {W : World}
set_option maxRecDepth 100000 in
theorem op_read8 {fuel : Nat} {cs : List Value} {x : DataW H × List MemPlace} (h : DataW.trod enc Try.prog W 0 (fun _ => true) true fuel 41 cs = some x) :
    ∃ o : OpX, cs = o.cells ∧ o.Fit ∧ BytesOf8 W o := by
  obtain ⟨hl, n, hp⟩ := parts_read fieldsX (by simp) h
  rw [cellsX] at hl
  match cs, hl with
  | [c0, c1, c2, c3, c5, c4], _ =>
    obtain ⟨y0, h0⟩ := hp 0 3 0 rfl
    obtain ⟨y1, h1⟩ := hp 1 3 1 rfl
    obtain ⟨y2, h2⟩ := hp 2 3 2 rfl
    obtain ⟨y3, h3⟩ := hp 3 3 3 rfl
    obtain ⟨y5, h5⟩ := hp 4 3 4 rfl
    obtain ⟨y4, h4⟩ := hp 5 22 5 rfl
    rw [cells3] at h0 h1 h2 h3 h5
    rw [cells31] at h4
    obtain ⟨z0, rfl, f0⟩ := int_read int3 h0
    obtain ⟨z1, rfl, f1⟩ := int_read int3 h1
    obtain ⟨z2, rfl, f2⟩ := int_read int3 h2
    obtain ⟨z3, rfl, f3⟩ := int_read int3 h3
    obtain ⟨z5, rfl, f5⟩ := int_read int3 h5
    obtain ⟨p, l, c, bs, e4, b1, b2, b3⟩ := arg_read h4
    simp at e4
    subst e4
    exact ⟨⟨z0, z1, z2, z3, z5, p, l, c, bs⟩, rfl, ⟨f0, f1, f2, f3, f5⟩, b1, b2, b3⟩
theorem ops_view8 {p : Option Addr} {len cap : Nat} {d : DataW H} {ps : List MemPlace} (h : DataW.Trod enc Try.prog W 0 (fun _ => true) true 38 (.slice p len cap) d ps) :
    ∃ os : Nat → OpX, OpsAt8 W p len os ∧ OpsOK8 W len os := by
  obtain ⟨fuel, hf⟩ := h
  rcases DataW.trod_slice sliceX hf with ⟨hcs, hx⟩ | ⟨a, len', cap', elems, rest, n, _, hcs, hx, hb, hlc, hm, hlen, hel, _⟩
  · simp [Value.cells] at hcs
    obtain ⟨rfl, rfl, rfl⟩ := hcs
    exact ⟨fun _ => ⟨0, 0, 0, 0, 0, none, 0, 0, []⟩, fun h => by omega, fun j hj => by omega⟩
  · simp [Value.cells] at hcs
    obtain ⟨rfl, rfl, rfl⟩ := hcs
    have each : ∀ j, j < len → ∃ o : OpX, W.cells? 0 (a.add (j * 6)) 6 = some o.cells ∧ o.Fit ∧ BytesOf8 W o := by
      intro j hj
      have h1 := hel j hj
      rw [cellsX] at h1
      have h2 : elems[j]? = some (elems[j]'(by omega)) := List.getElem?_eq_getElem (by omega)
      rw [h2] at h1
      cases hc : W.cells? 0 (a.add (j * 6)) 6 with
      | none => rw [hc] at h1; simp at h1
      | some cs =>
        rw [hc] at h1
        simp only [Option.bind_some] at h1
        obtain ⟨o, rfl, w⟩ := op_read8 h1
        exact ⟨o, rfl, w⟩
    have key : ∀ j, ∃ o : OpX, j < len → W.cells? 0 (a.add (j * 6)) 6 = some o.cells ∧ o.Fit ∧ BytesOf8 W o := by
      intro j
      by_cases hj : j < len
      · obtain ⟨o, ho⟩ := each j hj
        exact ⟨o, fun _ => ho⟩
      · exact ⟨⟨0, 0, 0, 0, 0, none, 0, 0, []⟩, fun h => absurd h hj⟩
    obtain ⟨os, hos⟩ : ∃ os : Nat → OpX, ∀ j, j < len → W.cells? 0 (a.add (j * 6)) 6 = some (os j).cells ∧ (os j).Fit ∧ BytesOf8 W (os j) :=
      ⟨fun j => Classical.choose (key j), fun j => Classical.choose_spec (key j)⟩
    refine ⟨os, fun h0 => ?_, fun j hj => (hos j hj).2⟩
    have cell : ∀ j, j < len → ∀ i, i < 6 → W.cell? ((a.add (j * 6)).add i) = (os j).cells[i]? := by
      intro j hj i hi
      exact (World.cells?_some (hos j hj).1).2.2 i hi
    obtain ⟨b, off, spot⟩ := a
    have hspot : spot = none := by
      have h1 := cell 0 h0 0 (by omega)
      simp only [OpX.cells, List.getElem?_cons_zero] at h1
      have h2 := World.cell?_spot h1
      simpa [Addr.add] using h2
    subst hspot
    refine ⟨b, off, rfl, fun j hj i hi => ?_⟩
    have c := cell j hj i hi
    simp only [add_plain] at c
    exact c
end


theorem len_alloc (L : List Pg) : (allocL L).length = L.length := by unfold allocL; split <;> simp
theorem len_own (L : List Pg) (f : Int) : (ownL L f).length = L.length := by
  unfold ownL
  split
  · rfl
  · split <;> simp
theorem len_share (L : List Pg) (f : Int) : (shareL L f).length = L.length := by unfold shareL; split <;> simp
theorem len_commit (ps : List Pt) : ∀ S : PL, (commitAll S ps).L.length = S.L.length := by
  induction ps with
  | nil => intro S; rfl
  | cons p ps ih =>
    intro S
    refine (ih (commit1 S p.pg)).trans ?_
    show (pgL S p.pg).length = _
    unfold pgL
    split
    · exact len_alloc _
    · exact len_own _ _
theorem len_wAll (S : PL) (ps : List Pt) : ∀ (x : List Pg × List UInt8), (ps.foldl (wstep S) x).1.length = x.1.length := by
  induction ps with
  | nil => intro x; rfl
  | cons p ps ih =>
    intro x
    rw [List.foldl_cons, ih]
    unfold wstep
    exact write_len _ _ _ _
theorem len_shAll (pg : Int → Option Int) (T : Nat) (S : PL) (n : Nat) : (shAll pg T S n).L.length = S.L.length := by
  induction n with
  | zero => rfl
  | succ n ih =>
    show (shStep pg T (shAll pg T S n) n).L.length = _
    rw [← ih]
    unfold shStep
    split
    · rfl
    · exact len_share _ _
theorem neg_commit (ps : List Pt) (q : Int) (hq : q < 0) : ∀ S : PL, (commitAll S ps).g q = S.g q := by
  induction ps with
  | nil => intro S; rfl
  | cons p ps ih =>
    intro S
    refine (ih (commit1 S p.pg)).trans ?_
    show updI S.g _ _ q = _
    unfold updI
    rw [if_neg (by omega)]
theorem ub_mem {L : List Pg} {n : Nat} (h : Ub L n) : UbM L n := fun p hp => by
  obtain ⟨k, hk, rfl⟩ := List.getElem_of_mem hp
  have h2 := h k
  unfold usersL at h2
  rw [pgAt_nat, List.getD_eq_getElem?_getD, List.getElem?_eq_getElem hk] at h2
  exact h2

/-- What the script's calls keep: nothing was dropped yet. -/
structure EI (M : Mod) (k : Nat) : Prop where
  inv : Inv8 M
  tree : Tree M
  nd : ∀ j o, M.O j = some o → o.drp = false
  most : M.most = 40
  made : M.made ≤ k
  cnt : ∀ j o, M.O j = some o → o.cnt ≤ 64 + 5 * k
  ub : Ub M.L (64 * k + 1)
  len : M.L.length = 256
  live : M.live = M.made
theorem EI.more {M : Mod} {k : Nat} (h : EI M k) : EI M (k + 1) :=
  ⟨h.inv, h.tree, h.nd, h.most, by have := h.made; omega, fun j o ho => by have := h.cnt j o ho; omega, fun f => by have := h.ub f; omega, h.len, h.live⟩

section
variable {w : World} {s : Nat} {r : Rep} {M : Mod} {k : Nat}
set_option maxRecDepth 20000 in
theorem write8_gone (h : SMem w s r M) (i t : Int) (v : Value) (hi : fit i) (hO : M.O i = none) :
    Calls Try.prog 17 #[.pointer (some ⟨s, 0, none⟩), .int .i64 i, .int .i64 t, v] w fun e w' => e = .returned (.int .i64 (-25)) ∧ w = w' := by
  have c := find_no h i hi (by unfold findS; rw [hO]; decide)
  clear h hO
  go_enter Try.func17, Try.ntmps17
  go_wp2_with (go_at_call 49; (with_reducible refine c.mono ?_); rintro x w1 ⟨rfl, rfl⟩)
  go_ret
  exact ⟨rfl, rfl⟩
set_option maxRecDepth 20000 in
set_option maxHeartbeats 1000000 in
theorem write8_full (h : SMem w s r M) (hc : Chain M.O) (hmd : M.made < 4611686018427387904) {i : Int} {o : Ob} (hi : fit i) (hO : M.O i = some o) (hd : o.drp = false) (t n : Nat) (p : Option Addr) (cp : Nat) (hn : n ≤ 4096) (htn : t + n ≤ o.size)
    {j : Int} {q : Ob} {t' : Nat} (hR : rootI M.O o.depth i (t : Int) = (j, (t' : Int))) (hq : M.O j = some q) (ht' : t' ≤ 1152921504606846976) (hl : roomN M.L < (lackN ⟨M.L, q.pgs, q.cnt⟩ (partsL t' n) : Nat)) :
    Calls Try.prog 17 #[.pointer (some ⟨s, 0, none⟩), .int .i64 i, .int .i64 t, .slice p n cp] w fun e w' => e = .returned (.int .i64 (-4)) ∧ Turn NoBlock w w' := by
  obtain ⟨a, pb, hA, hB, hcell, hpm⟩ := h.live hO
  obtain ⟨a', pb', hA', hB', -, -⟩ := h.live hq
  have c49 := find_yes h i hi hO hd hA
  have hsm := hc.small i o hO
  have c50 := fun w => within_yes (t : Int) (n : Int) (o.size : Int) w (by omega) (by omega)
  have d0 := (ocells hcell).c0
  have HBh := Lib.hid (behind_at h hc hmd hO hA t n htn hR hA')
  have HP := Lib.hid (parts_at h t' n hn ht')
  have HC := Lib.hid (fun w' (tt : Turn NoBlock w w') u (hu : Parts u (partsL t' n) w') =>
    (commit_no (h.past tt) hq hA' hB' hu (Nat.le_trans (parts_len t' n) hn) (fun p hp => by have := (parts_mem hp).1; omega) hl).mono fun e w2 hw => (⟨hw.1, tt.trans hw.2 (fun _ h => .inl h)⟩ : e = .returned (.int .i64 (-4)) ∧ Turn NoBlock w w2))
  have HT0 := Lib.hid (Turn.refl NoBlock w)
  have hn1 : ¬ (4096 : Int) < (n : Int) := by omega
  generalize partsL t' n = ps at *
  clear h hc hmd hi hO hd hn htn hR hq ht' hl hA hB hcell hpm hA' hB' hsm
  go_enter Try.func17, Try.ntmps17
  go_wp2_with (first
    | (go_at_call 49; (with_reducible refine c49.mono ?_); rintro e w1 ⟨rfl, rfl⟩)
    | (go_at_call 50; (with_reducible refine (c50 _).mono ?_); rintro e w1 ⟨rfl, rfl⟩)
    | (go_at_call 53; (with_reducible refine (HC.out _ K3.out.2.1 _ K3.out.1).mono ?_); rintro e w4 ⟨rfl, k1⟩; have K4 := Lib.hid k1; clear k1)
    | (go_at_call 52; (with_reducible refine (HP.out _ T2).mono ?_); rintro e w3 ⟨gp, cp, rfl, k1, k2, k3⟩; have K3 := Lib.hid (And.intro k1 (And.intro k2 k3)); clear k1 k2 k3)
    | (go_at_call 51; (with_reducible refine (HBh.out _ HT0.out).mono ?_); rintro e w2 ⟨rfl, T2⟩))
  go_ret
  exact ⟨rfl, K4.out⟩
theorem next_turn {w' : World} (h : SMem w s r M) (t : Turn NoBlock w w') : SMem w' s r M ∧ VNext w s r w' r := ⟨h.past t, (next_refl w s r).past t⟩
theorem end_write (h : SMem w s r M) (e : EI M k) (hk : k ≤ 100) (i t : Int) (hi : fit i) (ht : fit t) (v : Value) (bs : List UInt8) (hv : SrcF w s r v bs) (hl : bs.length ≤ 200) :
    Calls Try.prog 17 #[.pointer (some ⟨s, 0, none⟩), .int .i64 i, .int .i64 t, v] w fun x w' => ∃ st r' M', x = .returned (.int .i64 st) ∧ (SMem w' s r' M' ∧ EI M' (k + 1) ∧ M'.made = M.made) ∧ VNext w s r w' r' := by
  have hmd : M.made < 4611686018427387904 := by have := e.made; omega
  cases hO : M.O i with
  | none =>
    refine (write8_gone h i t v hi hO).mono ?_
    rintro x w' ⟨rfl, rfl⟩
    exact ⟨_, r, M, rfl, ⟨h, e.more, rfl⟩, next_refl _ _ _⟩
  | some o =>
    have hd := e.nd i o hO
    have hsm := e.inv.chain.small i o hO
    by_cases hin : 0 ≤ t ∧ t + bs.length ≤ (o.size : Int)
    · obtain ⟨tn, rfl⟩ : ∃ n : Nat, t = n := ⟨t.toNat, by omega⟩
      obtain ⟨j, q, t', hR, hq, hqd, ht'⟩ := root_ex e.inv.chain o.depth i o hO rfl tn
      have hdep := hsm.2.2
      have hsz := hsm.1
      have hmul : o.depth * 4294967296 ≤ 16 * 4294967296 := Nat.mul_le_mul_right _ hdep
      have ht2 : t' ≤ 1152921504606846976 := by omega
      have hcn := e.cnt j q hq
      by_cases hlk : (lackN ⟨M.L, q.pgs, q.cnt⟩ (partsL t' bs.length) : Int) ≤ roomN M.L
      · have W := write_inv e.inv hq hqd (full_pool h.pool) t' bs hlk
        have L5 := lack5 ⟨M.L, q.pgs, q.cnt⟩ t' bs.length (by omega)
        refine Calls.mono (write8_ok h e.inv.chain hmd hi hO hd tn v bs hv (by omega) (by omega) hR hq ht2 e.inv.few (by omega) hlk) ?_
        rintro x w' ⟨rfl, r', mm, kk⟩
        refine ⟨_, r', wrM M j q t' bs, rfl, ⟨mm, ⟨W.inv, ?_, fun a y hy => ?_, e.most, ?_, fun a y hy => ?_, fun f => ?_, ?_, e.live⟩, rfl⟩, kk⟩
        · refine e.tree.same (o' := wrO M q t' bs) hq W.obj rfl rfl rfl rfl rfl rfl (fun p hp => ?_)
          show (commitAll _ _).g p = none
          rw [neg_commit _ p hp]
          exact e.tree.neg j q p hq hp
        · rw [W.obj] at hy
          unfold updI at hy
          split at hy
          · cases hy; exact e.nd j q hq
          · exact e.nd a y hy
        · have := e.made; show M.made ≤ k + 1; omega
        · rw [W.obj] at hy
          unfold updI at hy
          split at hy
          · cases hy; have := W.cnt; omega
          · have := e.cnt a y hy; omega
        · have hu := ubm_users (ubm_commit (n := 64 * k + 1) (by omega) (partsL t' bs.length) ⟨M.L, q.pgs, q.cnt⟩ (ub_mem e.ub)) f
          have h2 : usersL (wrM M j q t' bs).L f = usersL (commitAll ⟨M.L, q.pgs, q.cnt⟩ (partsL t' bs.length)).L f := by
            show usersL (wAll _ _ _).1 f = _
            unfold wAll
            rw [users_wAll]
          rw [h2]
          omega
        · show (wAll _ _ _).1.length = 256
          unfold wAll
          rw [len_wAll]
          show (commitAll _ _).L.length = 256
          rw [len_commit]
          exact e.len
      · obtain ⟨p, cp, rfl⟩ := hv.len
        refine (write8_full h e.inv.chain hmd hi hO hd tn bs.length p cp (by omega) (by omega) hR hq ht2 (by omega)).mono ?_
        rintro x w' ⟨rfl, tt⟩
        obtain ⟨m1, n1⟩ := next_turn h tt
        exact ⟨_, r, M, rfl, ⟨m1, e.more, rfl⟩, n1⟩
    · obtain ⟨p, cp, rfl⟩ := hv.len
      refine (write8_out h hi hO hd t ht p bs.length cp (by omega) hsm.1 hin).mono ?_
      rintro x w' ⟨rfl, rfl⟩
      exact ⟨_, r, M, rfl, ⟨h, e.more, rfl⟩, next_refl _ _ _⟩
end


section
variable {w : World} {s : Nat} {r : Rep} {M : Mod} {k : Nat}
theorem Tree.new {M : Mod} (h : Tree M) : M.O ((M.made : Int) + 1) = none := by
  cases hO : M.O ((M.made : Int) + 1) with
  | none => rfl
  | some o => have := h.ids _ _ hO; omega
theorem end_create (h : SMem w s r M) (e : EI M k) (hk : k ≤ 100) (n : Int) :
    Calls Try.prog 16 #[.pointer (some ⟨s, 0, none⟩), .int .i64 n] w fun x w' => ∃ id st r' M', x = .returned (.tuple #[.int .i64 id, .int .i64 st]) ∧ (SMem w' s r' M' ∧ EI M' (k + 1) ∧ ((id = 0 ∧ M'.made = M.made) ∨ (id = (M.made : Int) + 1 ∧ M'.made = M.made + 1))) ∧ VNext w s r w' r' := by
  by_cases hs : createS M n = 0
  · refine (create_yes h n hs (by rw [e.most]; omega) (by have := e.made; omega)).mono ?_
    rintro x w' ⟨rfl, r', mm, kk⟩
    have hsz : upS n ≤ 4294967296 := by
      unfold createS at hs
      by_cases h1 : n < 0
      · rw [if_pos h1] at hs; cases hs
      · rw [if_neg h1] at hs
        by_cases h2 : 4294967296 < n
        · rw [if_pos h2] at hs; cases hs
        · unfold upS; omega
    have hj := e.tree.new
    have eO : ∀ j, (addM M (newOb (upS n) 0 0 0)).O j = if j = (M.made : Int) + 1 then some (newOb (upS n) 0 0 0) else M.O j := fun j => rfl
    refine ⟨_, _, r', addM M (newOb (upS n) 0 0 0), rfl, ⟨mm, ⟨⟨?_, ?_, e.inv.few⟩, ?_, fun j y hy => ?_, e.most, ?_, fun j y hy => ?_, fun f => ?_, e.len, by show M.live + 1 = M.made + 1; rw [e.live]⟩, .inr ⟨rfl, rfl⟩⟩, kk⟩
    · refine e.inv.good.congr (fun key => ?_)
      unfold famOf
      rw [eO]
      by_cases e1 : key.1 = (M.made : Int) + 1
      · rw [if_pos e1, e1, hj]; rfl
      · rw [if_neg e1]
    · exact e.inv.chain.add hj (x := newOb (upS n) 0 0 0) ⟨hsz, Nat.zero_le _, Nat.zero_le _⟩ (fun h0 => absurd h0 (Nat.lt_irrefl 0)) (fun _ => rfl)
    · refine e.tree.added (x := newOb (upS n) 0 0 0) rfl rfl (fun _ _ => rfl) (.inl rfl) (fun j => ?_) rfl rfl
      rw [eO]
      by_cases e1 : j = (M.made : Int) + 1
      · rw [if_pos e1, if_pos e1]
      · rw [if_neg e1, if_neg e1]
        by_cases e2 : j = (((newOb (upS n) 0 0 0).par : Nat) : Int)
        · rw [if_pos e2]
          have e3 : j = 0 := e2
          rw [e3, e.tree.zero]; rfl
        · rw [if_neg e2]
    · rw [eO] at hy
      split at hy
      · cases hy; rfl
      · exact e.nd j y hy
    · have := e.made; show M.made + 1 ≤ k + 1; omega
    · rw [eO] at hy
      split at hy
      · cases hy; exact Nat.zero_le _
      · have := e.cnt j y hy; omega
    · have := e.ub f; show usersL M.L f ≤ _; omega
  · refine (create_no h n hs).mono ?_
    rintro x w' ⟨rfl, mm, tt⟩
    exact ⟨_, _, r, M, rfl, ⟨mm, e.more, .inl ⟨rfl, rfl⟩⟩, (next_refl w s r).past tt⟩
theorem end_slice (h : SMem w s r M) (e : EI M k) (hk : k ≤ 100) (i t n : Int) (hi : fit i) (ht : fit t) (hn : fit n) :
    Calls Try.prog 20 #[.pointer (some ⟨s, 0, none⟩), .int .i64 i, .int .i64 t, .int .i64 n] w fun x w' => ∃ id st r' M', x = .returned (.tuple #[.int .i64 id, .int .i64 st]) ∧ (SMem w' s r' M' ∧ EI M' (k + 1) ∧ ((id = 0 ∧ M'.made = M.made) ∨ (id = (M.made : Int) + 1 ∧ M'.made = M.made + 1))) ∧ VNext w s r w' r' := by
  by_cases hs : sliceS M i t n = 0
  · have hw : winS M i t n = 0 := by
      unfold sliceS at hs
      by_cases h1 : winS M i t n ≠ 0
      · rw [if_pos h1] at hs; exact hs
      · exact Classical.not_not.1 h1
    have hfind : findS M i = 0 := by
      unfold winS at hw
      by_cases h1 : findS M i ≠ 0
      · rw [if_pos h1] at hw; simp at hw
      · exact Classical.not_not.1 h1
    obtain ⟨o, hO, hd⟩ := find_ok hfind
    have hsm := e.inv.chain.small i o hO
    have hids := e.tree.ids i o hO
    have hmade := e.made
    have hkid : o.kids ≤ M.made := by rw [e.tree.kids i o hO]; exact cntI_le _ _
    have hslc : o.slc ≤ M.made := by rw [e.tree.slc i o hO]; exact cntI_le _ _
    have hrng : 0 ≤ t ∧ 0 ≤ n ∧ t + n ≤ (o.size : Int) := by
      unfold winS at hw
      rw [if_neg (fun h1 => h1 hfind)] at hw
      split at hw
      · simp at hw
      · rw [hO] at hw
        simp only at hw
        split at hw
        · omega
        · simp at hw
    have hdep : o.depth < 16 := by
      unfold sliceS at hs
      rw [if_neg (fun h1 => h1 hw), hO] at hs
      simp only at hs
      by_cases h2 : o.depth = 16
      · rw [if_pos h2] at hs; simp at hs
      · have := hsm.2.2; omega
    refine (slice_yes h e.inv.chain i t n hi hO hs (by rw [e.most]; omega) (by omega) (by omega) (by omega)).mono ?_
    rintro x w' ⟨rfl, r', mm, kk⟩
    obtain ⟨i1, i2⟩ := slice_inv e.inv hO (by omega) e.tree.new t n (by omega) (by omega) hdep
    refine ⟨_, _, r', sliceM M i o t n, rfl, ⟨mm, ⟨i1, ?_, fun j y hy => ?_, e.most, ?_, fun j y hy => ?_, fun f => ?_, e.len, by show M.live + 1 = M.made + 1; rw [e.live]⟩, .inr ⟨rfl, rfl⟩⟩, kk⟩
    · have hpi : ((i.toNat : Nat) : Int) = i := Int.toNat_of_nonneg (by omega)
      refine e.tree.added (x := newOb n.toNat i.toNat (o.depth + 1) t.toNat) rfl rfl (fun _ _ => rfl) (.inr ⟨o, by show M.O ((i.toNat : Nat) : Int) = _; rw [hpi]; exact hO⟩) (fun j => ?_) rfl rfl
      rw [i2]
      by_cases e1 : j = (M.made : Int) + 1
      · rw [if_pos e1, if_pos e1]
      · rw [if_neg e1, if_neg e1]
        show _ = if j = ((i.toNat : Nat) : Int) then _ else _
        rw [hpi]
        by_cases e2 : j = i
        · rw [if_pos e2, if_pos e2, e2, hO]
          show some (kidS o) = some (gain o (o.depth + 1))
          unfold gain kidS
          simp
        · rw [if_neg e2, if_neg e2]
    · rw [i2] at hy
      split at hy
      · cases hy; rfl
      · split at hy
        · cases hy; exact hd
        · exact e.nd j y hy
    · show M.made + 1 ≤ k + 1; omega
    · rw [i2] at hy
      split at hy
      · cases hy; exact Nat.zero_le _
      · split at hy
        · cases hy
          have := e.cnt i o hO
          show o.cnt ≤ _; omega
        · have := e.cnt j y hy; omega
    · have := e.ub f; show usersL M.L f ≤ _; omega
  · refine (slice_no h e.inv.chain i t n hi ht hn hs).mono ?_
    rintro x w' ⟨rfl, tt⟩
    obtain ⟨m1, n1⟩ := next_turn h tt
    exact ⟨_, _, r, M, rfl, ⟨m1, e.more, .inl ⟨rfl, rfl⟩⟩, n1⟩

set_option maxRecDepth 20000 in
theorem snap_win (h : SMem w s r M) (hc : Chain M.O) (i t n : Int) (hi : fit i) (ht : fit t) (hn : fit n) (hs : winS M i t n ≠ 0) :
    Calls Try.prog 19 #[.pointer (some ⟨s, 0, none⟩), .int .i64 i, .int .i64 t, .int .i64 n] w fun e w' => e = .returned (.tuple #[.int .i64 0, .int .i64 (winS M i t n)]) ∧ w = w' := by
  have c := window_no h hc i t n hi ht hn hs
  have hb : (winS M i t n == 0) = false := by simpa using hs
  clear h hs hc
  generalize winS M i t n = z at *
  go_enter Try.func19, Try.ntmps19
  go_wp2_with (go_at_call 55; (with_reducible refine c.mono ?_); rintro x w1 ⟨rfl, rfl⟩)
  go_ret2
  exact ⟨rfl, rfl⟩
set_option maxRecDepth 20000 in
theorem snap_long (h : SMem w s r M) (hc : Chain M.O) (i t n : Int) (hi : fit i) {o : Ob} (hO : M.O i = some o) (hs : winS M i t n = 0) (hd : o.depth = 0) (hl : 4096 < n) :
    Calls Try.prog 19 #[.pointer (some ⟨s, 0, none⟩), .int .i64 i, .int .i64 t, .int .i64 n] w fun e w' => e = .returned (.tuple #[.int .i64 0, .int .i64 (-10)]) ∧ w = w' := by
  obtain ⟨a, pb, hA, hB, hcell, hpm⟩ := h.live hO
  have c := window_yes h hc i t n hi hO hA hs
  have d4 := (ocells hcell).c4
  rw [hd] at d4
  clear h hs hc hO hA hB hcell hpm hd
  go_enter Try.func19, Try.ntmps19
  go_wp2_with (go_at_call 55; (with_reducible refine c.mono ?_); rintro x w1 ⟨rfl, rfl⟩)
  go_ret2
  exact ⟨rfl, rfl⟩
set_option maxRecDepth 20000 in
theorem snap_full (h : SMem w s r M) (hc : Chain M.O) (i t n : Int) (hi : fit i) {o : Ob} (hO : M.O i = some o) (hs : winS M i t n = 0) (hd : o.depth = 0) (hl : n ≤ 4096) (h3 : M.most ≤ M.live) :
    Calls Try.prog 19 #[.pointer (some ⟨s, 0, none⟩), .int .i64 i, .int .i64 t, .int .i64 n] w fun e w' => e = .returned (.tuple #[.int .i64 0, .int .i64 (-4)]) ∧ Turn NoBlock w w' := by
  obtain ⟨a, pb, hA, hB, hcell, hpm⟩ := h.live hO
  have c := window_yes h hc i t n hi hO hA hs
  have d4 := (ocells hcell).c4
  rw [hd] at d4
  have H := Lib.hid (fun ob => h.past ((Turn.refl NoBlock w).alloc ob))
  have H3 := Lib.hid h3
  have hl2 : ¬ (4096 : Int) < n := by omega
  clear h hs hc hO hA hB hcell hpm hd h3 hl
  go_enter Try.func19, Try.ntmps19
  go_wp2_with (first
    | (go_at_call 55; (with_reducible refine c.mono ?_); rintro x w1 ⟨rfl, rfl⟩)
    | (go_at_call 48; (with_reducible refine (add_full (H.out _) _ H3.out).mono ?_); rintro x w2 ⟨rfl, q, rfl⟩))
  go_ret2
  exact ⟨rfl, ((Turn.refl NoBlock w).alloc _).drewN q⟩
theorem end_snap (h : SMem w s r M) (e : EI M k) (hk : k ≤ 100) (i t n : Int) (hi : fit i) (ht : fit t) (hn : fit n) :
    Calls Try.prog 19 #[.pointer (some ⟨s, 0, none⟩), .int .i64 i, .int .i64 t, .int .i64 n] w fun x w' => ∃ id st r' M', x = .returned (.tuple #[.int .i64 id, .int .i64 st]) ∧ (SMem w' s r' M' ∧ EI M' (k + 1) ∧ ((id = 0 ∧ M'.made = M.made) ∨ (id = (M.made : Int) + 1 ∧ M'.made = M.made + 1))) ∧ VNext w s r w' r' := by
  have stay : ∀ (st : Int) (x : Ending) (w' : World), x = .returned (.tuple #[.int .i64 0, .int .i64 st]) → Turn NoBlock w w' → ∃ id st r' M', x = .returned (.tuple #[.int .i64 id, .int .i64 st]) ∧ (SMem w' s r' M' ∧ EI M' (k + 1) ∧ ((id = 0 ∧ M'.made = M.made) ∨ (id = (M.made : Int) + 1 ∧ M'.made = M.made + 1))) ∧ VNext w s r w' r' := fun st x w' hx tt => by
    obtain ⟨m1, n1⟩ := next_turn h tt
    exact ⟨_, _, r, M, hx, ⟨m1, e.more, .inl ⟨rfl, rfl⟩⟩, n1⟩
  by_cases hw : winS M i t n ≠ 0
  · exact (snap_win h e.inv.chain i t n hi ht hn hw).mono fun x w' hx => stay _ x w' hx.1 (hx.2 ▸ Turn.refl _ _)
  have hw := Classical.not_not.1 hw
  have hfind : findS M i = 0 := by
    unfold winS at hw
    by_cases h1 : findS M i ≠ 0
    · rw [if_pos h1] at hw; simp at hw
    · exact Classical.not_not.1 h1
  obtain ⟨o, hO, hd⟩ := find_ok hfind
  by_cases hdp : 0 < o.depth
  · exact (snap_slice h e.inv.chain i t n hi hO hw hdp).mono fun x w' hx => stay _ x w' hx.1 (hx.2 ▸ Turn.refl _ _)
  have hd0 : o.depth = 0 := by omega
  by_cases hln : 4096 < n
  · exact (snap_long h e.inv.chain i t n hi hO hw hd0 hln).mono fun x w' hx => stay _ x w' hx.1 (hx.2 ▸ Turn.refl _ _)
  by_cases hfl : M.most ≤ M.live
  · exact (snap_full h e.inv.chain i t n hi hO hw hd0 (by omega) hfl).mono fun x w' hx => stay _ x w' hx.1 hx.2
  have hsm := e.inv.chain.small i o hO
  have hids := e.tree.ids i o hO
  have hmade := e.made
  have hkid : o.kids ≤ M.made := by rw [e.tree.kids i o hO]; exact cntI_le _ _
  have hrng : 0 ≤ t ∧ 0 ≤ n ∧ t + n ≤ (o.size : Int) ∧ t % 64 = 0 ∧ n % 64 = 0 := by
    unfold winS at hw
    rw [if_neg (fun h1 => h1 hfind)] at hw
    split at hw
    · simp at hw
    · rw [hO] at hw
      simp only at hw
      split at hw
      · omega
      · simp at hw
  obtain ⟨T, rfl⟩ : ∃ T : Nat, t = ((64 * T : Nat) : Int) := ⟨(t / 64).toNat, by omega⟩
  obtain ⟨N, rfl⟩ : ∃ N : Nat, n = ((64 * N : Nat) : Int) := ⟨(n / 64).toNat, by omega⟩
  have hj := e.tree.new
  have hN : N ≤ 64 := by omega
  have hsz := hsm.1
  refine (snap_yes h e.inv.chain e.inv.held i T N hi hO hw hN (by omega) hd0 (by omega) (by rw [e.most]; omega) (by omega) (by omega) (64 * k + 1) e.ub (by omega)).mono ?_
  rintro x w' ⟨rfl, ⟨r', mm, kk⟩, hub⟩
  have S := snap_inv e.inv hO hd0 hj T N (64 * k + 1 + N) hN hub (by omega)
  refine ⟨_, _, r', snapM M i o T N, rfl, ⟨mm, ⟨S.inv, ?_, fun j y hy => ?_, e.most, ?_, fun j y hy => ?_, fun f => ?_, ?_, by show M.live + 1 = M.made + 1; rw [e.live]⟩, .inr ⟨rfl, rfl⟩⟩, kk⟩
  · have hpi : ((i.toNat : Nat) : Int) = i := Int.toNat_of_nonneg (by omega)
    have hij : i ≠ (M.made : Int) + 1 := by omega
    have sh : ShI M ((M.made : Int) + 1) o.pgs T N (snapP M o T N) := sh_all e.inv.good hO hij hj T N
    refine e.tree.added (x := snapO M i o T N) rfl rfl (fun q hq => ?_) (.inr ⟨o, by show M.O ((i.toNat : Nat) : Int) = _; rw [hpi]; exact hO⟩) (fun j => ?_) rfl rfl
    · show (snapP M o T N).g q = none
      rw [sh.pgs, if_neg (by omega)]
    · rw [S.ob]
      by_cases e1 : j = (M.made : Int) + 1
      · rw [if_pos e1, if_pos e1]
      · rw [if_neg e1, if_neg e1]
        show _ = if j = ((i.toNat : Nat) : Int) then _ else _
        rw [hpi]
        by_cases e2 : j = i
        · rw [if_pos e2, if_pos e2, e2, hO]
          show some (kid o) = some (gain o 0)
          rfl
        · rw [if_neg e2, if_neg e2]
  · rw [S.ob] at hy
    split at hy
    · cases hy; rfl
    · split at hy
      · cases hy; exact hd
      · exact e.nd j y hy
  · show M.made + 1 ≤ k + 1; omega
  · rw [S.ob] at hy
    split at hy
    · cases hy; have := S.cnt; omega
    · split at hy
      · cases hy
        have := e.cnt i o hO
        show o.cnt ≤ _; omega
      · have := e.cnt j y hy; omega
  · have := hub f
    show usersL (snapP M o T N).L f ≤ _
    omega
  · show (snapP M o T N).L.length = 256
    unfold snapP
    rw [len_shAll]
    exact e.len
end


section
variable {w0 w w' wa w6 : World} {s bs bg : Nat} {r : Rep} {M : Mod} {v : Value} {l : List Int}
theorem drop_not (h : SMem w s r M) (hi : Inv8 M) (ht : Tree M) (hd : ∀ j o, M.O j = some o → o.drp = true → 0 < o.kids) {i : Int} (hn : findS M i ≠ 0) : Dropped w w s r M i r M (.slice none 0 0) [] :=
  ⟨h, next_refl _ _ _, hi, ht, hd, rfl, rfl, rfl, fun k hk => (by cases hk), fun _ h => h, fun o hO => by
    cases hdr : o.drp with
    | true => rfl
    | false => exact absurd (find_of hO hdr) hn, ints_nil _, fun j hj => (blk_nil j hj).elim, fun j hj => (blk_nil j hj).elim, fun k hk => (by cases hk), rfl⟩

/-- The set's variable, the list's variable, and the list. -/
structure GH (w0 w : World) (bs bg s : Nat) (r : Rep) (M : Mod) (v : Value) (l : List Int) : Prop where
  st : VSt w0 w s r M
  hs : w.heap[bs]? = some (.cells #[.pointer (some ⟨s, 0, none⟩)] 25 (0, 0))
  hg : w.heap[bg]? = some (.cells #[v] 39 (0, 0))
  ints : Ints v l w
  vs : ∀ j, Blk v j → ¬ SFoot s r j ∧ j ≠ bg ∧ j ≠ bs ∧ w0.heap.size ≤ j
  fs : ¬ SFoot s r bs
  fg : ¬ SFoot s r bg
  gs : bg ≠ bs
  g0 : w0.heap.size ≤ bg
theorem GH.past (h : GH w0 w bs bg s r M v l) (t : Turn NoBlock w w') : GH w0 w' bs bg s r M v l :=
  ⟨h.st.past t, t.heap h.hs (fun h => h), t.heap h.hg (fun h => h), h.ints.past t, h.vs, h.fs, h.fg, h.gs, h.g0⟩
theorem GH.next (h : GH w0 w bs bg s r M v l) {r' : Rep} {M' : Mod} (m : SMem w' s r' M') (k : VNext w s r w' r') : GH w0 w' bs bg s r' M' v l := by
  have up : ∀ j, j < w.heap.size → ¬ SFoot s r j → ¬ SFoot s r' j := fun j h1 h2 h3 => by
    rcases k.foot j h3 with e | e
    · exact h2 e
    · omega
  refine ⟨h.st.next m k, k.turn.heap h.hs h.fs, k.turn.heap h.hg h.fg, k.turn.own h.ints (fun j hj => (h.vs j hj).1), fun j hj => ?_, up _ (lt_of_block h.hs) h.fs, up _ (lt_of_block h.hg) h.fg, h.gs, h.g0⟩
  obtain ⟨a1, a2, a3, a4⟩ := h.vs j hj
  obtain ⟨cur, hb⟩ := own_block (w := w) h.ints hj
  exact ⟨up j (lt_of_block hb) a1, a2, a3, a4⟩
theorem GH.push (h : GH w0 w bs bg s r M v l) (t : Turn NoBlock w wa) (ob : Obj) {n g c : Nat} {x : Int} (hn : l.length = n)
    (hown : w6.ownsRow 0 3 1 (.slice (some ⟨g, 0, none⟩) (n + 1) c) (n + 1) (l.map (Value.int .i64) ++ [.int .i64 x])) (hgrow : (wa.alloc ob).grownBy w6 v.ownBlock) (hat : v.ownBlock = some g ∨ g = wa.heap.size + 1) :
    GH w0 (w6.setCell ⟨bg, 0, none⟩ (.slice (some ⟨g, 0, none⟩) (n + 1) c)) bs bg s r M (.slice (some ⟨g, 0, none⟩) (n + 1) c) (l ++ [x]) ∧ Turn (fun k => Blk v k ∨ k = bg) w (w6.setCell ⟨bg, 0, none⟩ (.slice (some ⟨g, 0, none⟩) (n + 1) c)) ∧
      (∀ j, Blk (.slice (some ⟨g, 0, none⟩) (n + 1) c) j → Blk v j ∨ w.heap.size ≤ j) ∧ w6.cell? ⟨bg, 0, none⟩ = some v ∧ w6.frozen? ⟨bg, 0, none⟩ = false := by
  obtain ⟨p1, p2, p3⟩ := ints_push (w := wa) hn hown hgrow hat
  have ha := h.past t
  have t7 : Turn (fun k => k = bg) w6 (w6.setCell ⟨bg, 0, none⟩ (.slice (some ⟨g, 0, none⟩) (n + 1) c)) := (Turn.refl (fun k => k = bg) _).setCell (p := ⟨bg, 0, none⟩) (.inl rfl) _
  have hg6 := p2.heap ha.hg (fun hb => (ha.vs bg hb).2.1 rfl)
  have hs6 := p2.heap ha.hs (fun hb => (ha.vs bs hb).2.2.1 rfl)
  have hv : ∀ j, Blk (.slice (some ⟨g, 0, none⟩) (n + 1) c) j → ¬ SFoot s r j ∧ j ≠ bg ∧ j ≠ bs ∧ w0.heap.size ≤ j := fun j hj => by
    rcases p3 j hj with e | e
    · exact ha.vs j e
    · refine ⟨fun hF => ?_, fun e2 => ?_, fun e2 => ?_, ?_⟩
      · have := ha.st.mem.lt hF; omega
      · have := lt_of_block ha.hg; omega
      · have := lt_of_block ha.hs; omega
      · exact Nat.le_trans ha.st.turn.size e
  have tt : Turn (fun k => Blk v k ∨ k = bg) wa (w6.setCell ⟨bg, 0, none⟩ (.slice (some ⟨g, 0, none⟩) (n + 1) c)) := (p2.mono (fun k hk => .inl (.inl hk))).trans t7 (fun k hk => .inl (.inr hk))
  refine ⟨⟨⟨ha.st.mem.kept tt (fun k hk hb => ?_), ha.st.turn.trans tt (fun k hk => .inr ?_), h.st.fresh⟩, t7.heap hs6 (fun e => h.gs e.symm), set_at hg6 0 _, t7.own p1 (fun j hj e => (hv j hj).2.1 e), hv, h.fs, h.fg, h.gs, h.g0⟩, (t.mono (fun k hk => hk.elim)).trans tt (fun k hk => .inl hk), fun j hj => (p3 j hj).imp id (fun e => Nat.le_trans t.size e), by simpa using cell_at hg6 0, free_at hg6 0⟩
  · rcases hb with hb | rfl
    · exact (ha.vs k hb).1 hk
    · exact h.fg hk
  · rcases hk with hb | rfl
    · exact (ha.vs k hb).2.2.2
    · exact h.g0

/-- All that the law holds between two drops. -/
structure EL (w0 w : World) (bs bg s : Nat) (r : Rep) (M : Mod) (v : Value) (l : List Int) : Prop where
  gh : GH w0 w bs bg s r M v l
  inv : Inv8 M
  tree : Tree M
  dead : ∀ j o, M.O j = some o → o.drp = true → 0 < o.kids
  made : M.made ≤ 200
  live : M.live + l.length = M.made
  len : M.L.length = 256
/-- What the closure's loop holds: j of the ended ones are in the list. -/
structure CG (w0 w : World) (bs bg s : Nat) (r : Rep) (M : Mod) (v : Value) (l0 : List Int) (u : Value) (l : List Int) (j : Nat) : Prop where
  gh : GH w0 w bs bg s r M v (l0 ++ l.take j)
  own : Ints u l w
  us : ∀ k, Blk u k → ¬ Blk v k ∧ k ≠ bg

set_option maxRecDepth 20000 in
set_option maxHeartbeats 4000000 in
theorem gone_any (h : EL w0 w bs bg s r M v l) (i : Int) (hi : fit i) :
    Calls Try.prog 23 #[.int .i64 i, .pointer (some ⟨bs, 0, none⟩), .pointer (some ⟨bg, 0, none⟩)] w fun e w' => e = .returned (.bool true) ∧
      ∃ r' M' v' l', EL w0 w' bs bg s r' M' v' l' ∧ M'.made = M.made ∧ Dr M' i ∧ ∀ j, Dr M j → Dr M' j := by
  obtain ⟨iv, hi3, hz0, hz1, hz2⟩ := info_parts info3
  have b0 : w.cell? ⟨bs, 0, none⟩ = some (.pointer (some ⟨s, 0, none⟩)) := by simpa using cell_at h.gh.hs 0
  by_cases hn : findS M i ≠ 0
  · have c := drop_no h.gh.st.mem i hi hn
    have HD := Lib.hid (drop_not h.gh.st.mem h.inv h.tree h.dead hn)
    have HE := Lib.hid h
    clear h hn
    go_enter Try.func23, Try.ntmps23
    go_wp2_with (go_at_call 24; (with_reducible refine c.mono ?_); rintro x w1 ⟨rfl, rfl⟩)
    go_loopg [26] 0 (fun g s26 wr => g = 0 ∧ s26 = .int .i64 0 ∧ w = wr)
    case atStart => exact ⟨rfl, rfl, rfl⟩
    case round =>
      obtain ⟨rfl, rfl, rfl⟩ := hrel
      go_wp2
      go_ret
      exact ⟨rfl, r, M, v, l, HE.out, rfl, HD.out.dr, fun _ h => h⟩
  · obtain ⟨o, hO, hdr⟩ := find_ok (Classical.not_not.1 hn)
    have c := drop_yes h.gh.st.mem h.inv h.tree h.dead (by have := h.made; omega) hO hdr
    have HE := Lib.hid h
    clear h hn hO hdr
    go_enter Try.func23, Try.ntmps23
    go_wp2_with (go_at_call 24; (with_reducible refine c.mono ?_); rintro x w1 ⟨p, cp, l1, r1, M1, rfl, D1⟩; have KD := Lib.hid D1; clear D1)
    have HC := Lib.hid (show CG w0 w1 bs bg s r1 M1 v l (.slice p l1.length cp) l1 0 from ⟨by rw [List.take_zero, List.append_nil]; exact HE.out.gh.next KD.out.mem KD.out.next, KD.out.ints, fun k hk => by
      have h1 := KD.out.fresh k hk
      refine ⟨fun hb => ?_, fun e => ?_⟩
      · obtain ⟨cur, hb2⟩ := own_block (w := w) HE.out.gh.ints hb
        have := lt_of_block hb2; omega
      · have := lt_of_block HE.out.gh.hg; omega⟩)
    go_loopg [26] l1.length (fun g s26 wr => ∃ (j : Nat) (vv : Value), g = l1.length - j ∧ j ≤ l1.length ∧ s26 = .int .i64 j ∧ Hid (CG w0 wr bs bg s r1 M1 vv l (.slice p l1.length cp) l1 j))
    case atStart => exact ⟨0, v, rfl, by omega, rfl, HC.out⟩
    case round =>
      obtain ⟨j, vv, hg, hj, rfl, HA⟩ := hrel
      by_cases hlt : j < l1.length
      · obtain ⟨gb, cb, he, hk1, hk2⟩ := ints_shape HA.out.own (by omega)
        simp only [Value.slice.injEq] at he
        obtain ⟨rfl, -, rfl⟩ := he
        have ec := ints_cell HA.out.own j hlt
        have hmem : l1.getD j 0 ∈ l1 := by rw [List.getD_eq_getElem?_getD, List.getElem?_eq_getElem hlt]; exact List.getElem_mem hlt
        have hrg := KD.out.rng _ hmem
        have hgn := KD.out.gone _ hmem
        have hmd := HE.out.made
        have cI := info_no HA.out.gh.st.mem (l1.getD j 0) (by unfold fit; omega) hgn
        have HT : l1.take (j + 1) = l1.take j ++ [l1.getD j 0] := by
          rw [List.take_succ_eq_append_getElem hlt, List.getD_eq_getElem?_getD, List.getElem?_eq_getElem hlt]; rfl
        have HTT := Lib.hid HT
        clear HT hmem hrg hgn hmd
        generalize l1.getD j 0 = x at *
        have bs0 : wr.cell? ⟨bs, 0, none⟩ = some (.pointer (some ⟨s, 0, none⟩)) := by simpa using cell_at HA.out.gh.hs 0
        have bg0 : wr.cell? ⟨bg, 0, none⟩ = some vv := by simpa using cell_at HA.out.gh.hg 0
        obtain ⟨n, hnn⟩ : ∃ n, (l ++ l1.take j).length = n := ⟨_, rfl⟩
        obtain ⟨pv, cv, hvv⟩ := ints_slice HA.out.gh.ints
        rw [hnn] at hvv
        subst hvv
        have hjI : (j : Int) < (l1.length : Int) := by omega
        have hnb : n ≤ 400 := by
          have h1 := KD.out.live
          have h2 := HE.out.live
          have h3 := HE.out.made
          rw [List.length_append, List.length_take] at hnn
          omega
        have q3 : n + 1 ≤ maxLen := by unfold maxLen; omega
        have q4 : (n + 1) * 8 ≤ 140737488355328 := by omega
        have HP := Lib.hid (fun (wa w6 : World) (t : Turn NoBlock wr wa) g c hown hgrow hat => HA.out.gh.push (wa := wa) (w6 := w6) t (.cells #[.int .i64 x] 3) (g := g) (c := c) (x := x) hnn hown hgrow hat)
        have HN := Lib.hid hnn
        clear hnn hnb
        go_wp2_with (first
          | (go_at_call 25; (with_reducible refine cI.mono ?_); rintro e w2 ⟨rfl, t2⟩; have T2 := Lib.hid (t2.trans ((Turn.refl NoBlock w2).alloc (.cells #[.int .i64 0, .int .i64 0, .int .i64 0, .int .i64 0, .bool false, .bool false] 45)) (fun _ h => .inl h)); have bg2 := t2.cell bg0 (fun h => h); have bgs := lt_of_block (HA.out.gh.past t2).hg; clear t2)
          | (at_builtin; refine wpList_append_lies _ rfl (.tmp 37) (.tmp 39) 39 rfl 0 3 iv _ 1 8 intsUnder hi3 hz0 hz1 hz2 rfl (by decide) (.slice pv n cv) n ((l ++ l1.take j).map (Value.int .i64)) rfl (World.ownsRow.alloc (by have h1 := (HA.out.gh.past T2.out).ints; unfold Ints at h1; rw [HN.out] at h1; exact h1) _) ⟨w2.heap.size + 1, 0, none⟩ 1 1 [.int .i64 x] rfl rfl (fun j u hu => World.news_of_block (by have e := heap_alloc_new (w2.alloc (.cells #[.int .i64 0, .int .i64 0, .int .i64 0, .int .i64 0, .bool false, .bool false] 45)) (.cells #[.int .i64 x] 3); rw [show (w2.alloc (.cells #[.int .i64 0, .int .i64 0, .int .i64 0, .int .i64 0, .bool false, .bool false] 45)).heap.size = w2.heap.size + 1 from by simp] at e; exact e) j u (by simpa using hu)) (by simp [Value.oneCell']) (by decide) q3 q4 (Nat.zero_le _) (w2.heap.size + 1 + 1) (by simp) ?_; intro g6 c6 w6 hown hgrow hat hlt6; obtain ⟨k6, k7, k8, zc, zf⟩ := HP.out _ w6 T2.out g6 c6 hown hgrow (by simpa using hat); have K6 := Lib.hid (And.intro k6 (And.intro k7 k8)); clear k6 k7 k8 hown hgrow hat))
        go_roundg (l1.length - (j + 1))
        case measure => omega
        case rel =>
          obtain ⟨k6, k7, k8⟩ := K6.out
          refine ⟨j + 1, .slice (some ⟨g6, 0, none⟩) (n + 1) c6, rfl, by omega, by go_num, ⟨?_, k7.own HA.out.own (fun k hk hb => ?_), fun k hk => ⟨fun hb => ?_, (HA.out.us k hk).2⟩⟩⟩
          · rw [HTT.out, ← List.append_assoc]
            exact k6
          · rcases hb with hb | hb
            · exact (HA.out.us k hk).1 hb
            · exact (HA.out.us k hk).2 hb
          · rcases k8 k hb with e | e
            · exact (HA.out.us k hk).1 e
            · obtain ⟨cur, hb2⟩ := own_block (w := wr) HA.out.own hk
              have := lt_of_block hb2; omega
      · obtain rfl : j = l1.length := by omega
        go_wp2
        go_ret
        have hC := HA.out
        refine ⟨rfl, r1, M1, vv, l ++ l1, ⟨?_, KD.out.inv, KD.out.tree, KD.out.dead, by rw [KD.out.made]; exact HE.out.made, ?_, by rw [KD.out.len]; exact HE.out.len⟩, KD.out.made, KD.out.dr, KD.out.drs⟩
        · have := hC.gh
          rw [List.take_of_length_le (Nat.le_refl _)] at this
          exact this
        · have h1 := KD.out.live
          have h2 := HE.out.live
          rw [List.length_append, KD.out.made]
          omega
end


/-- What the script's loop holds. -/
structure PS (w0 w : World) (bs s : Nat) (r : Rep) (M : Mod) (k : Nat) : Prop where
  st : VSt w0 w s r M
  hs : w.heap[bs]? = some (.cells #[.pointer (some ⟨s, 0, none⟩)] 25 (0, 0))
  fs : ¬ SFoot s r bs
  ei : EI M k
section
variable {w0 w w' : World} {bs s k : Nat} {r : Rep} {M : Mod}
theorem PS.past (h : PS w0 w bs s r M k) (t : Turn NoBlock w w') : PS w0 w' bs s r M k := ⟨h.st.past t, t.heap h.hs (fun h => h), h.fs, h.ei⟩
theorem PS.next (h : PS w0 w bs s r M k) {r' : Rep} {M' : Mod} (m : SMem w' s r' M') (e : EI M' (k + 1)) (n : VNext w s r w' r') : PS w0 w' bs s r' M' (k + 1) :=
  ⟨h.st.next m n, n.turn.heap h.hs h.fs, fun hF => by
    rcases n.foot bs hF with e | e
    · exact h.fs e
    · have := lt_of_block h.hs; omega, e⟩
theorem PS.more (h : PS w0 w bs s r M k) : PS w0 w bs s r M (k + 1) := ⟨h.st, h.hs, h.fs, h.ei.more⟩
theorem ei_start : EI (M0 256 40) 0 := by
  have no : ∀ {i : Int} {o : Ob}, (M0 256 40).O i = some o → False := fun h => (by have h' : (none : Option Ob) = some _ := h; cases h')
  refine ⟨⟨(Good.start 256).congr (fun _ => rfl), ⟨fun i o h => (no h).elim, fun i o h => (no h).elim, fun i o h => (no h).elim⟩, few_start 256⟩, ⟨fun i o h => (no h).elim, fun i o h => (no h).elim, fun i o h => (no h).elim, fun i o h => (no h).elim, rfl, fun i o q h => (no h).elim⟩, fun i o h => (no h).elim, rfl, Nat.le_refl _, fun i o h => (no h).elim, fun f => ?_, ?_, rfl⟩
  · have := ub_start 256 f
    exact Nat.le_trans this (Nat.zero_le _)
  · show (List.replicate 256 Pg.none).length = 256
    exact List.length_replicate
theorem el_start (h : PS w0 w bs s r M k) (hk : k ≤ 100) : EL w0 (w.alloc (.cells #[.slice none 0 0] 39)) bs w.heap.size s r M (.slice none 0 0) [] := by
  have t : Turn NoBlock w (w.alloc (.cells #[.slice none 0 0] 39)) := (Turn.refl NoBlock w).alloc _
  have h2 := h.past t
  have e := h.ei
  refine ⟨⟨h2.st, h2.hs, heap_alloc_new w _, ints_nil _, fun j hj => (blk_nil j hj).elim, h.fs, fresh_not h.st.mem, fun e => by have := lt_of_block h.hs; omega, h.st.turn.size⟩, e.inv, e.tree, fun j o hO hd => ?_, by have := e.made; omega, ?_, e.len⟩
  · rw [e.nd j o hO] at hd; cases hd
  · rw [e.live]; rfl
end


set_option maxRecDepth 20000 in
theorem ends_past (p q : Option Addr) (len cap olen ocap : Nat) (w : World) (h : 60 < len ∨ 200 < olen) :
    Calls Try.prog 4 #[.slice p len cap, .slice q olen ocap] w fun e w' => e = .returned (.bool true) ∧ Turn NoBlock w w' := by
  have c1 : Calls Try.prog 14 #[.int .i64 256, .int .i64 40] w _ := vnew_yes 256 40 w (by omega) (by omega)
  have hcs : (60 : Int) < (len : Int) ∨ ((len : Int) ≤ 60 ∧ (200 : Int) < (olen : Int)) := by omega
  clear h
  rcases hcs with h1 | ⟨h1, h2⟩
  all_goals
    go_enter Try.func4, Try.ntmps4
    go_wp2_with (first
      | (go_at_call 14; (with_reducible refine c1.mono ?_); rintro x w1 ⟨s, r, rfl, m1, t1, f1⟩; have K1 := Lib.hid (t1.trans ((Turn.refl NoBlock w1).alloc (.cells #[.pointer (some ⟨s, 0, none⟩)] 25)) (fun _ h => .inl h)); clear m1 t1 f1)
      | (go_at_call 15; (with_reducible refine (awake8 _).mono ?_); rintro x w2 ⟨rfl, t2⟩; have K2 := Lib.hid (K1.out.trans t2 (fun _ h => .inl h)); clear t2))
    go_ret
    exact ⟨rfl, K2.out⟩
set_option maxRecDepth 20000 in
set_option maxHeartbeats 8000000 in
theorem ends_walk (p : Option Addr) (len cap : Nat) (os : Nat → OpX) (q : Option Addr) (olen ocap : Nat) (zs : List Int) (w : World) (hlen : len ≤ 60) (holen : olen ≤ 200) (hos : OpsAt8 w p len os) (hok : OpsOK8 w len os) (hz : NumsAt w q olen zs) :
    Calls Try.prog 4 #[.slice p len cap, .slice q olen ocap] w fun e w' => e = .returned (.bool true) ∧ Turn NoBlock w w' := by
  have c1 : Calls Try.prog 14 #[.int .i64 256, .int .i64 40] w _ := vnew_yes 256 40 w (by omega) (by omega)
  have HO := Lib.hid (fun wr (t : Turn NoBlock w wr) j (hj : j < len) => by
    obtain ⟨b, off, hp, ho⟩ := hos (by omega)
    exact (⟨b, off, hp, fun i hi => by
      have h := ho j hj i hi
      obtain ⟨v, hv⟩ : ∃ v, (os j).cells[i]? = some v := ⟨_, List.getElem?_eq_getElem (by simp [OpX.cells]; omega)⟩
      rw [hv] at h
      exact (t.cell h (fun h => h)).trans hv.symm⟩ : ∃ b off, p = some ⟨b, off, none⟩ ∧ ∀ i, i < 6 → wr.cell? ⟨b, off + j * 6 + i, none⟩ = (os j).cells[i]?))
  have HK := Lib.hid hok
  have HZ := Lib.hid hz
  have hl1 : ¬ (60 : Int) < (len : Int) := by omega
  have hl2 : ¬ (200 : Int) < (olen : Int) := by omega
  have HL := Lib.hid (And.intro hlen holen)
  clear hos hok hz hlen holen
  go_enter Try.func4, Try.ntmps4
  go_wp2_with (first
    | (go_at_call 14; (with_reducible refine c1.mono ?_); rintro x w1 ⟨s, r, rfl, m1, t1, f1⟩; have K1 := Lib.hid (show VSt w w1 s r (M0 256 40) from ⟨m1, t1, f1⟩); clear m1 t1 f1))
  have K2 := Lib.hid (show PS w (w1.alloc (.cells #[.pointer (some ⟨s, 0, none⟩)] 25)) w1.heap.size s r (M0 256 40) 0 from ⟨K1.out.past ((Turn.refl NoBlock w1).alloc _), heap_alloc_new w1 _, fresh_not K1.out.mem, ei_start⟩)
  go_loopg [6, 35] len (fun g s6 s35 wr => ∃ (i : Nat) (r' : Rep) (M' : Mod), g = len - i ∧ i ≤ len ∧ s6 = .int .i64 (M'.made : Int) ∧ s35 = .int .i64 i ∧ Hid (PS w wr w1.heap.size s r' M' i))
  case atStart => exact ⟨0, r, M0 256 40, by omega, by omega, rfl, rfl, K2⟩
  case round =>
    obtain ⟨i, r', M', hg, hi, rfl, rfl, HA⟩ := hrel
    by_cases hlt : i < len
    · obtain ⟨b, off, rfl, hcs⟩ := HO.out wr HA.out.st.turn i hlt
      have hfit := (HK.out i hlt).1
      have hbyt := (HK.out i hlt).2
      have d0 := hcs 0 (by omega)
      have d1 := hcs 1 (by omega)
      have d2 := hcs 2 (by omega)
      have d3 := hcs 3 (by omega)
      have d4 := hcs 4 (by omega)
      have d5 := hcs 5 (by omega)
      clear hcs
      generalize os i = o at *
      obtain ⟨kd, kid, kop, ka, kn, lp, ll, lc, bs⟩ := o
      simp only [OpX.cells, List.getElem?_cons_zero, List.getElem?_cons_succ, Nat.add_zero] at d0 d1 d2 d3 d4 d5
      have bs0 : wr.cell? ⟨w1.heap.size, 0, none⟩ = some (.pointer (some ⟨s, 0, none⟩)) := by simpa using cell_at HA.out.hs 0
      have hbslt : w1.heap.size < wr.heap.size := lt_of_block HA.out.hs
      have HB := Lib.hid (fun ob => HA.out.past ((Turn.refl NoBlock wr).alloc ob))
      have HF := Lib.hid (show fit kid ∧ fit ka ∧ fit kn from ⟨hfit.2.1, hfit.2.2.2.1, hfit.2.2.2.2⟩)
      have HY := Lib.hid hbyt
      have Hi := Lib.hid (show i ≤ 100 by have := HL.out; omega)
      have hmade : (M'.made : Int) ≤ 100 := by have := HA.out.ei.made; have := Hi.out; omega
      have hm0 : ¬ (M'.made : Int) < 0 := by omega
      have hm1 : (M'.made : Int) < (M'.made : Int) + 1 := by omega
      clear hfit hbyt
      by_cases hll : 200 < ll
      · have hllI : (200 : Int) < (ll : Int) := by omega
        go_wp2_with (go_at_call 15; (with_reducible refine (awake8 _).mono ?_); rintro x w9 ⟨rfl, t9⟩; have K9 := Lib.hid ((HB.out _).st.turn.trans t9 (fun _ h => .inl h)); clear t9)
        go_ret
        exact ⟨rfl, K9.out⟩
      have hllI : ¬ (200 : Int) < (ll : Int) := by omega
      have HW := Lib.hid (fun (w' : World) r M (k : VSt w w' s r M) => show SrcF w' s r (.slice lp ll lc) bs from HY.out.2.2.srcF k)
      have HWl := Lib.hid (show bs.length ≤ 200 by have := HY.out.1; simp only at this; omega)
      have hk : kd = 1 ∨ kd = 3 ∨ kd = 6 ∨ kd = 7 ∨ ((kd == 1) = false ∧ (kd == 3) = false ∧ (kd == 6) = false ∧ (kd == 7) = false) := by
        simp only [beq_eq_false_iff_ne, ne_eq]
        omega
      rcases hk with rfl | rfl | rfl | rfl | ⟨k1, k2, k3, k4⟩
      all_goals go_wp2_with (first
        | (go_at_call 16; (with_reducible refine (end_create (HB.out _).st.mem HA.out.ei Hi.out _).mono ?_); rintro x w4 ⟨id, st, r4, M4, rfl, ⟨m4, e4, h4⟩, n4⟩; have KX := Lib.hid ((HB.out _).next m4 e4 n4); clear m4 e4 n4; rcases h4 with ⟨rfl, h5⟩ | ⟨rfl, h5⟩)
        | (go_at_call 17; (with_reducible refine (end_write (HB.out _).st.mem HA.out.ei Hi.out _ _ HF.out.1 HF.out.2.1 _ bs (HW.out _ _ _ (HB.out _).st) HWl.out).mono ?_); rintro x w4 ⟨st, r4, M4, rfl, ⟨m4, e4, h5⟩, n4⟩; have KX := Lib.hid ((HB.out _).next m4 e4 n4); clear m4 e4 n4)
        | (go_at_call 19; (with_reducible refine (end_snap (HB.out _).st.mem HA.out.ei Hi.out _ _ _ HF.out.1 HF.out.2.1 HF.out.2.2).mono ?_); rintro x w4 ⟨id, st, r4, M4, rfl, ⟨m4, e4, h4⟩, n4⟩; have KX := Lib.hid ((HB.out _).next m4 e4 n4); clear m4 e4 n4; rcases h4 with ⟨rfl, h5⟩ | ⟨rfl, h5⟩)
        | (go_at_call 20; (with_reducible refine (end_slice (HB.out _).st.mem HA.out.ei Hi.out _ _ _ HF.out.1 HF.out.2.1 HF.out.2.2).mono ?_); rintro x w4 ⟨id, st, r4, M4, rfl, ⟨m4, e4, h4⟩, n4⟩; have KX := Lib.hid ((HB.out _).next m4 e4 n4); clear m4 e4 n4; rcases h4 with ⟨rfl, h5⟩ | ⟨rfl, h5⟩))
      all_goals (try go_wp2)
      all_goals
        go_roundg (len - (i + 1))
        case measure => omega
        case rel => first
          | exact ⟨i + 1, r4, M4, rfl, by omega, by rw [h5]; go_num, by go_num, KX⟩
          | exact ⟨i + 1, r4, M4, rfl, by omega, by rw [h5], by go_num, KX⟩
          | exact ⟨i + 1, r', M', rfl, by omega, rfl, by go_num, Lib.hid (HB.out _).more⟩
    · obtain rfl : i = len := by omega
      obtain ⟨WR, rfl⟩ : ∃ WR, WR = wr := ⟨_, rfl⟩
      have hl100 : i ≤ 100 := by have := HL.out; omega
      have KE := Lib.hid (el_start HA.out hl100)
      obtain ⟨K, hK⟩ : ∃ K, M'.made = K := ⟨_, rfl⟩
      have HKm := Lib.hid hK
      have hKl : K ≤ 100 := by have := HA.out.ei.made; omega
      rw [hK]
      clear hK
      go_wp2_with fail
      go_loopg [98] olen (fun g s98 wx => ∃ (j : Nat) (r2 : Rep) (M2 : Mod) (v2 : Value) (l2 : List Int), g = olen - j ∧ j ≤ olen ∧ s98 = .int .i64 j ∧ Hid (EL w wx w1.heap.size WR.heap.size s r2 M2 v2 l2 ∧ M2.made = K))
      case atStart => exact ⟨0, r', M', _, [], by omega, by omega, rfl, KE.out, HKm.out⟩
      case round =>
        obtain ⟨j, r2, M2, v2, l2, hg2, hj, rfl, HE⟩ := hrel
        by_cases hj2 : j < olen
        · obtain ⟨zlen, zfit, zat⟩ := HZ.out
          obtain ⟨zb, zoff, rfl, zc⟩ := zat (by omega)
          have dz := HE.out.1.gh.st.turn.cell (zc j hj2) (fun h => h)
          have cz := gone_any HE.out.1 (zs.getD j 0) (zfit _ (by rw [List.getD_eq_getElem?_getD, List.getElem?_eq_getElem (by omega)]; exact List.getElem_mem (by omega)))
          have hjI : (j : Int) < (olen : Int) := by omega
          clear zc zat zfit zlen
          generalize zs.getD j 0 = z at *
          go_wp2_with (go_at_call 23; (with_reducible refine cz.mono ?_); rintro x w5 ⟨rfl, r5, M5, v5, l5, e5, m5, -, -⟩; have K5 := Lib.hid (And.intro e5 (m5.trans HE.out.2)); clear e5 m5)
          go_roundg (olen - (j + 1))
          case measure => omega
          case rel => exact ⟨j + 1, r5, M5, v5, l5, by omega, by omega, by go_num, K5⟩
        · obtain rfl : j = olen := by omega
          have hKI : (K : Int) ≤ 100 := by omega
          go_wp2_with fail
          go_loopg [108] K (fun g s108 wx => ∃ (t : Nat) (r3 : Rep) (M3 : Mod) (v3 : Value) (l3 : List Int), g = K - t ∧ t ≤ K ∧ s108 = .int .i64 t ∧ Hid (EL w wx w1.heap.size WR.heap.size s r3 M3 v3 l3 ∧ M3.made = K ∧ ∀ y : Int, 1 ≤ y → y ≤ (t : Int) → Dr M3 y))
          case atStart => exact ⟨0, r2, M2, v2, l2, by omega, by omega, rfl, HE.out.1, HE.out.2, fun y h1 h2 => by omega⟩
          case round =>
            obtain ⟨t, r3, M3, v3, l3, hg3, ht, rfl, HT⟩ := hrel
            by_cases ht2 : t < K
            · have htI : (t : Int) < (K : Int) := by omega
              have cz := gone_any HT.out.1 ((t : Int) + 1) (by unfold fit; omega)
              go_wp2_with (go_at_call 23; (with_reducible refine cz.mono ?_); rintro x w5 ⟨rfl, r5, M5, v5, l5, e5, m5, d5, f5⟩; have K5 := Lib.hid (show EL w w5 w1.heap.size WR.heap.size s r5 M5 v5 l5 ∧ M5.made = K ∧ ∀ y : Int, 1 ≤ y → y ≤ ((t + 1 : Nat) : Int) → Dr M5 y from ⟨e5, m5.trans HT.out.2.1, fun y h1 h2 => by
                by_cases e : y = (t : Int) + 1
                · rw [e]; exact d5
                · exact f5 y (HT.out.2.2 y h1 (by omega))⟩); clear e5 m5 d5 f5)
              go_roundg (K - (t + 1))
              case measure => omega
              case rel => exact ⟨t + 1, r5, M5, v5, l5, by omega, by omega, by go_num, K5⟩
            · obtain rfl : t = K := by omega
              have E := HT.out.1
              have hn := E.tree.empty E.dead (fun y h1 h2 => HT.out.2.2 y h1 (by rw [HT.out.2.1] at h2; exact h2))
              have hlv := E.tree.none_live hn
              have hl3 : l3.length = t := by have := E.live; rw [HT.out.2.1] at this; omega
              have hrm := none_room E.inv hn
              obtain ⟨pv, cv, hv⟩ := ints_slice E.gh.ints
              rw [hl3] at hv
              subst hv
              have zg : _ := cell_at E.gh.hg 0
              have zs0 : _ := cell_at E.gh.hs 0
              have cC := count_any E.gh.st.mem
              rw [hlv] at cC
              have cR := vroom_any E.gh.st.mem
              rw [show (M3.L.length : Int) - usedN M3.L = 256 from by unfold roomN at hrm; rw [E.len] at hrm ⊢; exact hrm] at cR
              have KT := Lib.hid E.gh.st.turn
              simp only [List.getElem?_toArray, List.getElem?_cons_zero] at zg zs0
              clear E hn hlv hl3 hrm
              go_wp2_with (first
                | (go_at_call 26; (with_reducible refine cC.mono ?_); rintro x w6 ⟨rfl, rfl⟩)
                | (go_at_call 27; (with_reducible refine cR.mono ?_); rintro x w6 ⟨rfl, d6, rfl⟩)
                | (go_at_call 15; (with_reducible refine (awake8 _).mono ?_); rintro x w7 ⟨rfl, t7⟩; have K7 := Lib.hid ((KT.out.drewN _).trans t7 (fun _ h => .inl h)); clear t7))
              go_ret
              exact ⟨rfl, K7.out⟩

end Go.Proofs.Ytdhbhigoboamfaa
