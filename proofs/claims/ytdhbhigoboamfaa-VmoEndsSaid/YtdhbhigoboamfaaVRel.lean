/-
  release and decommit. No conditions but that the set is one that calls can make.
-/
import Derived.Test.YtdhbhigoboamfaaVCommit2
namespace Go.Proofs.Ytdhbhigoboamfaa
open Go.ChangeShapes Go.WideShapes Go.ChangeAt Go.RowKit

def rel1 (S : PL) (p : Int) : PL := match S.g p with | none => S | some f => ⟨relL S.L f, updI S.g p none, S.c - 1⟩
theorem rel1_none {S : PL} {p : Int} (h : S.g p = none) : rel1 S p = S := by unfold rel1; rw [h]
theorem rel1_some {S : PL} {p f : Int} (h : S.g p = some f) : rel1 S p = ⟨relL S.L f, updI S.g p none, S.c - 1⟩ := by unfold rel1; rw [h]
theorem few_rel {S : PL} (h : Few S.L) (p : Int) : Few (rel1 S p).L := by
  unfold rel1
  split
  · exact h
  · rename_i f hf
    show Few (relL S.L f)
    have := h.users f
    unfold relL
    split
    · exact h
    · split
      · exact few_set h _ _ (by simp [Pg.none])
      · exact few_set h _ _ (by simp; omega)
def relAll (S : PL) (ps : List Pt) : PL := ps.foldl (fun S p => rel1 S (p.pg : Int)) S
theorem relAll_succ (S : PL) (ps : List Pt) (k : Nat) (p : Pt) (hk : ps[k]? = some p) : relAll S (ps.take (k + 1)) = rel1 (relAll S (ps.take k)) (p.pg : Int) := by
  obtain ⟨hlt, he⟩ := List.getElem?_eq_some_iff.1 hk
  unfold relAll
  rw [List.take_succ_eq_append_getElem hlt, List.foldl_append, he]
  rfl

section
variable {w : World} {s : Nat} {r : Rep} {M : Mod}
set_option maxRecDepth 20000 in
theorem release_any (h : SMem w s r M) {i : Int} {o : Ob} {a pb : Nat} (hO : M.O i = some o) (hA : r.A i = some a) (hB : r.B i = some pb) (hf : Few M.L) (p : Int) (hp : fit p) :
    Calls Try.prog 69 #[.pointer (some ⟨s, 0, none⟩), .pointer (some ⟨a, 0, none⟩), .int .i64 p] w fun e w' => e = .returned (.tuple #[]) ∧
      ∃ F', SMem w' s { r with FP := F' } (setM M i o (rel1 ⟨M.L, o.pgs, o.cnt⟩ p)) ∧ VNext w s r w' { r with FP := F' } ∧ (∀ j, F' j → r.FP j ∨ w.heap.size ≤ j) ∧ Turn (fun k => r.FP k ∨ k = pb) w w' := by
  obtain ⟨x, xt, hx1, hx2, hx3, hx4⟩ := h.live hO
  rw [hA] at hx1
  rw [hB] at hx2
  cases hx1
  cases hx2
  have lk := PMap.look hx4 p hp
  have d7 := (ocells hx3).c7
  have d0 := h.c0
  cases hgp : o.pgs p with
  | none =>
    rw [rel1_none (S := ⟨M.L, o.pgs, o.cnt⟩) hgp, setM_start hO]
    rw [hgp] at lk
    simp only [Option.getD_none, Option.isSome_none] at lk
    have H := Lib.hid h
    clear h hx3 hx4 hA hB hO hp hf hgp
    go_enter Try.func69, Try.ntmps69
    go_wp2
    go_end0
    exact ⟨rfl, r.FP, H.out, next_refl _ _ _, fun j hj => .inl hj, Turn.refl _ _⟩
  | some f =>
    rw [rel1_some (S := ⟨M.L, o.pgs, o.cnt⟩) hgp]
    rw [hgp] at lk
    simp only [Option.getD_some, Option.isSome_some] at lk
    have c1 := Lib.hid (show Calls Try.prog 36 #[.pointer (some ⟨r.p, 0, none⟩), .int .i64 f] w fun e w5 => (∃ z, e = .returned (.int .i64 z)) ∧ w5.cell? ⟨a, 7, none⟩ = some (.map (some pb)) ∧
        ∃ w6, (∀ ty, Sem.run Try.prog (Builtin.delete_ #[86, 3] ty #[.map (some pb), .int .i64 p]) w5 = .ok (.tuple #[]) w6) ∧ Hid (∃ F', SMem w6 s { r with FP := F' } (setM M i o ⟨relL M.L f, updI o.pgs p none, o.cnt - 1⟩) ∧ VNext w s r w6 { r with FP := F' } ∧ (∀ j, F' j → r.FP j ∨ w.heap.size ≤ j) ∧ Turn (fun k => r.FP k ∨ k = pb) w w6) from by
      refine (rel_any h.pool f (hf.users f)).mono ?_
      rintro e w5 ⟨rfl, F', k1, k2, k3⟩
      have m5 := h.setPool k1 k2 k3
      have nx := pool_next (s := s) k2 k3
      obtain ⟨y, yt, hy1, hy2, hy3, hy4⟩ := m5.live (i := i) (o := o) hO
      simp only at hy1 hy2
      rw [hA] at hy1
      rw [hB] at hy2
      cases hy1
      cases hy2
      obtain ⟨w6, hrun, pm6, t6⟩ := hy4.drop p hp 0
      rw [hgp] at pm6
      have m6 := m5.setOb (o' := { o with pgs := updI o.pgs p none, cnt := o.cnt - 1 }) hA hB t6 (fun j hj => .inr hj) (t6.heap hy3 (fun e => m5.aB hA hB e)) pm6
      exact ⟨⟨_, rfl⟩, (ocells hy3).c7, w6, fun ty => hrun, F', m6, nx.trans ⟨t6.mono (fun j hj => .inl (.inr (.inr (.inr (.inr ⟨i, by subst hj; exact hB⟩))))), fun j hj => .inl hj⟩, k3, (k2.mono (fun j hj => .inl (.inl hj))).trans t6 (fun j hj => .inl (.inr hj))⟩)
    clear h hx3 hx4 hA hB hO hp hf hgp
    go_enter Try.func69, Try.ntmps69
    go_wp2_with (go_at_call 36; (with_reducible refine c1.out.mono ?_); rintro e w5 ⟨⟨z5, rfl⟩, y7, w6, hrun, K6⟩)
    go_end0
    exact ⟨rfl, K6.out⟩

/-- What the loop of decommit holds. -/
structure DIn (w wr : World) (s : Nat) (r : Rep) (M : Mod) (i : Int) (o : Ob) (v : Value) (ps : List Pt) (F : Nat → Prop) (S : PL) (k : Nat) : Prop where
  eq : S = relAll ⟨M.L, o.pgs, o.cnt⟩ (ps.take k)
  mem : SMem wr s { r with FP := F } (setM M i o S)
  next : VNext w s r wr { r with FP := F }
  parts : Parts v ps wr
  apart : ∀ j, Blk v j → ¬ SFoot s { r with FP := F } j
  few : Few S.L
theorem DIn.past {w wr wx : World} {i : Int} {o : Ob} {v : Value} {ps : List Pt} {F : Nat → Prop} {S : PL} {k : Nat} (h : DIn w wr s r M i o v ps F S k) (t : Turn NoBlock wr wx) : DIn w wx s r M i o v ps F S k :=
  ⟨h.eq, h.mem.past t, h.next.past t, h.parts.past t (fun _ _ h => h), h.apart, h.few⟩
theorem DIn.step {w wx w6 : World} {i : Int} {o : Ob} {v : Value} {ps : List Pt} {F F' : Nat → Prop} {S : PL} {k : Nat} {p : Pt} (h : DIn w wx s r M i o v ps F S k) (hp : ps[k]? = some p)
    (m6 : SMem w6 s { r with FP := F' } (setM (setM M i o S) i { o with pgs := S.g, cnt := S.c } (rel1 S (p.pg : Int)))) (nx : VNext wx s { r with FP := F } w6 { r with FP := F' }) : DIn w w6 s r M i o v ps F' (rel1 S (p.pg : Int)) (k + 1) := by
  have e : setM (setM M i o S) i { o with pgs := S.g, cnt := S.c } (rel1 S (p.pg : Int)) = setM M i o (rel1 S (p.pg : Int)) := by
    unfold setM
    simp only [updI_twice]
  rw [e] at m6
  refine ⟨?_, m6, h.next.trans nx, h.parts.past nx.turn h.apart, fun j hj hF => ?_, few_rel h.few _⟩
  · rw [h.eq, relAll_succ _ _ _ _ hp]
  · rcases nx.foot j hF with e | e
    · exact h.apart j hj e
    · obtain ⟨cur, hb⟩ := own_block h.parts hj
      have := lt_of_block hb
      omega

set_option maxRecDepth 20000 in
set_option maxHeartbeats 2000000 in
theorem decommit_any (h : SMem w s r M) {i : Int} {o : Ob} {a pb : Nat} (hO : M.O i = some o) (hA : r.A i = some a) (hB : r.B i = some pb) {v : Value} {ps : List Pt} (hv : Parts v ps w) (hps : ps.length ≤ 4096) (hpg : ∀ p ∈ ps, p.pg ≤ 4611686018427387904)
    (hvf : ∀ j, Blk v j → ¬ SFoot s r j) (hf : Few M.L) :
    Calls Try.prog 60 #[.pointer (some ⟨s, 0, none⟩), .pointer (some ⟨a, 0, none⟩), v] w fun e w' => e = .returned (.tuple #[]) ∧ ∃ F, DIn w w' s r M i o v ps F (relAll ⟨M.L, o.pgs, o.cnt⟩ ps) ps.length := by
  have HC := Lib.hid (show DIn w w s r M i o v ps r.FP ⟨M.L, o.pgs, o.cnt⟩ 0 from ⟨rfl, by rw [setM_start hO]; exact h, next_refl w s r, hv, hvf, hf⟩)
  obtain ⟨gp, cap, rfl⟩ := hv.shape
  have H := Lib.hid (And.intro hA (And.intro hB hpg))
  have hps2 : (ps.length : Int) ≤ 4096 := by omega
  clear h hO hA hB hv hps hpg hvf hf
  go_enter Try.func60, Try.ntmps60
  go_wp2_with fail
  go_loopg [10] ps.length (fun g s10 wr => ∃ (k : Nat) (F : Nat → Prop) (S : PL), g = ps.length - k ∧ k ≤ ps.length ∧ s10 = .int .i64 k ∧ Hid (DIn w wr s r M i o (.slice gp ps.length cap) ps F S k))
  case atStart => exact ⟨0, r.FP, _, rfl, by omega, rfl, HC.out⟩
  case round =>
    obtain ⟨k, F, S, hg, hk, rfl, HA⟩ := hrel
    by_cases hlt : k < ps.length
    · obtain ⟨hA, hB, hpg⟩ := H.out
      obtain ⟨p, hp⟩ : ∃ p, ps[k]? = some p := ⟨_, List.getElem?_eq_getElem hlt⟩
      obtain ⟨gb, cb, he, hkl, e0, e1, e2⟩ := HA.out.parts.at hp
      simp only [Value.slice.injEq] at he
      obtain ⟨rfl, -, rfl⟩ := he
      have hpg1 := hpg p (List.mem_of_getElem? hp)
      have hklI : (k : Int) < (ps.length : Int) := by omega
      have HR := Lib.hid (fun ob => by
        have hx := HA.out.past ((Turn.refl NoBlock wr).alloc ob)
        have c := release_any hx.mem (i := i) (o := { o with pgs := S.g, cnt := S.c }) (updI_same _ _ _) hA hB hx.few (p.pg : Int) (by unfold fit; omega)
        exact (c.mono fun e w6 hw => by
          obtain ⟨k1, F', k2, k3, -, -⟩ := hw
          exact (⟨k1, F', hx.step hp k2 k3⟩ : e = .returned (.tuple #[]) ∧ ∃ F', DIn w w6 s r M i o (.slice (some ⟨gb, 0, none⟩) ps.length cap) ps F' (rel1 S (p.pg : Int)) (k + 1))))
      obtain ⟨pg, pat, pn⟩ := p
      simp only at e0 e1 e2 hpg1
      clear hA hB hpg hp hkl hpg1
      go_wp2_with (go_at_call 69; (with_reducible refine (HR.out _).mono ?_); rintro e w6 ⟨rfl, F6, k6⟩; have K6 := Lib.hid k6; clear k6)
      go_roundg (ps.length - (k + 1))
      case measure => omega
      case rel => exact ⟨k + 1, F6, _, rfl, by omega, by go_num, K6.out⟩
    · obtain rfl : k = ps.length := by omega
      go_wp2
      go_end0
      have hC := HA.out
      have e := hC.eq
      rw [List.take_of_length_le (Nat.le_refl _)] at e
      rw [← e]
      exact ⟨rfl, F, hC⟩
end
end Go.Proofs.Ytdhbhigoboamfaa
