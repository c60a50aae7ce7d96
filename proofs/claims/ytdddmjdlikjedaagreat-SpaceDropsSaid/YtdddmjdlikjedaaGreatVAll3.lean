/-
  Texts that stand one behind the other, in one.
-/
import Derived.Test.YtdddmjdlikjedaaGreatGViewB
import Derived.Test.YtdddmjdlikjedaaGreatVAll1
import Derived.Test.YtdddmjdlikjedaaGreatVAll2
/-
  releaseFrom: the pages from one on are released, in whatever order. No conditions but that the set is one that calls can make.
-/
namespace Go.Proofs.YtdddmjdlikjedaaGreat
open Go.ChangeShapes Go.WideShapes Go.ChangeAt Go.RowKit Go.Maps

theorem ranges_turn {w w' : World} {b it n cnt : Nat} {D : DataW Unit} {left : Lit → Bool} {G : Nat → Prop} (h : w.ranges Tryz.prog 3 (plainElem Tryz.prog 3) b it n D left cnt) (t : Turn G w w') (hb : ¬ G b) (hi : ¬ G it) : w'.ranges Tryz.prog 3 (plainElem Tryz.prog 3) b it n D left cnt := by
  obtain ⟨es, clock, since, seen, c0, h1, F, hs, hD, hr, rest⟩ := h
  exact ⟨es, clock, since, seen, c0, t.heap h1 hb, F, hs, hD, t.heap hr hi, rest⟩
theorem pmap_of {w : World} {b n : Nat} {D : DataW Unit} {L : Int → Option Int} {s : Nat} (h : w.ownsMap Tryz.prog 3 (plainElem Tryz.prog 3) b n D) (hS : Says D L s) : PMap w b L s := ⟨D, hS.2 ▸ own_tight h, hS⟩

/-- The step of a range over a map of numbers, what it tells hidden. -/
theorem wp_next_I (w : World) {ops : Array Oper} {rest : List Oper} {o : Oper} {a : Act} {Q : Exit → Act → World → Prop} (hg : o.guard = none) (it : Operand) (hop : o.op = Op.next it false)
    (b r n : Nat) (D : DataW Unit) (left : Lit → Bool) (cnt : Nat) (hit : a.eval it = .pointer (some ⟨r, 0, none⟩)) (h : w.ranges Tryz.prog 3 (plainElem Tryz.prog 3) b r n D left cnt)
    (hDone : Hid (∀ kl, left kl = false) → wpList Tryz.prog ops Q rest (a.put o.dst (.tuple #[.bool false])) w)
    (hMore : ∀ (x c : Int) (w' : World) (cnt' : Nat), Hid (fit x ∧ (∀ zd, D.atKey (.int .i64 x) zd = .lit (.int .i64 c)) ∧ w'.ranges Tryz.prog 3 (plainElem Tryz.prog 3) b r n D (fun z => left z && !z.sameKey (.int .i64 x)) cnt' ∧ cnt' < cnt ∧ w.grownBy w' (some r)) →
      (Instr.entry (.pointer (some ⟨r, 0, none⟩))).run Tryz.prog w' = .ok (.tuple #[.int .i64 x, .int .i64 c]) w' → wpList Tryz.prog ops Q rest (a.put o.dst (.tuple #[.bool true, .int .i64 x, .int .i64 c])) w') :
    wpList Tryz.prog ops Q (o :: rest) a w :=
  wpList_next_ranges_ii w hg it hop 3 3 .i64 .i64 intKey Tryz.underlying3 Tryz.underlying3 b r n D left cnt hit h (fun _ hl => hDone hl) (fun x c w' cnt' hwx _ _ hat hrg hlt hgr _ hen => hMore x c w' cnt' ⟨fit_wf hwx, hat, hrg, hlt, hgr⟩ hen)

section
variable {w : World} {s : Nat} {r : Rep} {M : Mod}
set_option maxRecDepth 20000 in
theorem release_rng (h : SMem w s r M) {i : Int} {o : Ob} {a pb : Nat} (hO : M.O i = some o) (hA : r.A i = some a) (hB : r.B i = some pb) (hf : Few M.L) (p : Int) (hp : fit p) {f : Int} (hgp : o.pgs p = some f)
    {it n cnt : Nat} {D : DataW Unit} {left : Lit → Bool} (hr : w.ranges Tryz.prog 3 (plainElem Tryz.prog 3) pb it n D left cnt) (hS : Says D o.pgs o.cnt) (hit : ¬ SFoot s r it) :
    Calls Tryz.prog 53 #[.pointer (some ⟨s, 0, none⟩), .pointer (some ⟨a, 0, none⟩), .int .i64 p] w fun e w' => e = .returned (.tuple #[]) ∧
      ∃ F' cnt', SMem w' s { r with FP := F' } (setM M i o (rel1 ⟨M.L, o.pgs, o.cnt⟩ p)) ∧ VNext w s r w' { r with FP := F' } ∧ (∀ j, F' j → r.FP j ∨ w.heap.size ≤ j) ∧
        w'.ranges Tryz.prog 3 (plainElem Tryz.prog 3) pb it n (D.del (.int .i64 p)) (fun z => left z && !z.sameKey (.int .i64 p)) cnt' ∧ cnt' ≤ cnt ∧ Says (D.del (.int .i64 p)) (updI o.pgs p none) (o.cnt - 1) := by
  obtain ⟨x, xt, hx1, hx2, hx3, hx4⟩ := h.live hO
  rw [hA] at hx1
  rw [hB] at hx2
  cases hx1
  cases hx2
  have lk := PMap.look hx4 p hp
  have d7 := (ocells hx3).c7
  have d0 := h.c0
  rw [rel1_some (S := ⟨M.L, o.pgs, o.cnt⟩) hgp]
  rw [hgp] at lk
  simp only [Option.getD_some, Option.isSome_some] at lk
  have c1 := Lib.hid (show Calls Tryz.prog 70 #[.pointer (some ⟨r.p, 0, none⟩), .int .i64 f] w fun e w5 => (∃ z, e = .returned (.int .i64 z)) ∧ w5.cell? ⟨a, 7, none⟩ = some (.map (some pb)) ∧
      ∃ w6, (∀ ty, Sem.run Tryz.prog (Builtin.delete_ #[52, 3] ty #[.map (some pb), .int .i64 p]) w5 = .ok (.tuple #[]) w6) ∧ Hid (∃ F' cnt', SMem w6 s { r with FP := F' } (setM M i o ⟨relL M.L f, updI o.pgs p none, o.cnt - 1⟩) ∧ VNext w s r w6 { r with FP := F' } ∧ (∀ j, F' j → r.FP j ∨ w.heap.size ≤ j) ∧
        w6.ranges Tryz.prog 3 (plainElem Tryz.prog 3) pb it n (D.del (.int .i64 p)) (fun z => left z && !z.sameKey (.int .i64 p)) cnt' ∧ cnt' ≤ cnt ∧ Says (D.del (.int .i64 p)) (updI o.pgs p none) (o.cnt - 1)) from by
    refine (rel_any h.pool f (hf.users f)).mono ?_
    rintro e w5 ⟨rfl, F', k1, k2, k3⟩
    have m5 := h.setPool k1 k2 k3
    have nx := pool_next (s := s) k2 k3
    obtain ⟨y, yt, hy1, hy2, hy3, hy4⟩ := m5.live (i := i) (o := o) hO
    simp only at hy1 hy2
    rw [hA] at hy1
    rw [hB] at hy2
    cases hy1
    cases hy2
    have hr5 := ranges_turn hr k2 (h.pB i pb hB) (fun e => hit (.inr (.inr (.inl e))))
    obtain ⟨w6, cnt', hrun, hr6, hle, hmt⟩ := hr5.drop intKey pmapUnder (key_int hp) 0
    have t6 := turn_map hmt
    have hS6 := says_del hS (hr.owns.tidy intKey) p
    rw [hgp] at hS6
    have pm6 := pmap_of hr6.owns hS6
    have m6 := m5.setOb (o' := { o with pgs := updI o.pgs p none, cnt := o.cnt - 1 }) hA hB t6 (fun j hj => .inr hj) (t6.heap hy3 (fun e => m5.aB hA hB e)) pm6
    exact ⟨⟨_, rfl⟩, (ocells hy3).c7, w6, fun ty => hrun, F', cnt', m6, nx.trans ⟨t6.mono (fun j hj => .inl (.inr (.inr (.inr (.inr ⟨i, by subst hj; exact hB⟩))))), fun j hj => .inl hj⟩, k3, hr6, hle, hS6⟩)
  clear h hx3 hx4 hA hB hO hp hf hgp hr hS hit
  go_enter Tryz.func53, Tryz.ntmps53
  go_wp2_with (go_at_call 70; (with_reducible refine c1.out.mono ?_); rintro e w5 ⟨⟨z5, rfl⟩, y7, w6, hrun, K6⟩)
  go_end0
  exact ⟨rfl, K6.out⟩

/-- What the loop of releaseFrom holds. -/
structure FIn (w wr : World) (s : Nat) (r : Rep) (M : Mod) (i : Int) (o : Ob) (first : Int) (it n : Nat) (F : Nat → Prop) (S : PL) (ks : List Int) (D : DataW Unit) (left : Lit → Bool) (cnt : Nat) : Prop where
  eq : S = ks.foldl rel1 ⟨M.L, o.pgs, o.cnt⟩
  keys : ∀ k ∈ ks, first ≤ k ∧ (o.pgs k).isSome = true
  nodup : ks.Nodup
  gone : ∀ q, S.g q = if q ∈ ks then none else o.pgs q
  mem : SMem wr s { r with FP := F } (setM M i o S)
  next : VNext w s r wr { r with FP := F }
  few : Few S.L
  rng : ∀ pb, r.B i = some pb → wr.ranges Tryz.prog 3 (plainElem Tryz.prog 3) pb it n D left cnt
  says : Says D S.g S.c
  come : ∀ q, first ≤ q → (S.g q).isSome = true → left (.int .i64 q) = true
  itf : ¬ SFoot s { r with FP := F } it
  itn : w.heap.size ≤ it

theorem FIn.seen {w wr : World} {i : Int} {o : Ob} {first : Int} {it n : Nat} {F : Nat → Prop} {S : PL} {ks : List Int} {D : DataW Unit} {left : Lit → Bool} {cnt : Nat} (h : FIn w wr s r M i o first it n F S ks D left cnt) {x c : Int} (hat : ∀ zd, D.atKey (.int .i64 x) zd = .lit (.int .i64 c)) : S.g x = some c := by
  have h1 := (h.says.1 x).2 (.lit (.int .i64 0))
  have h2 := (h.says.1 x).2 (.lit (.int .i64 1))
  rw [hat] at h1 h2
  cases hg : S.g x with
  | none => rw [hg] at h1 h2; simp at h1 h2; omega
  | some v => rw [hg] at h1; simp at h1; rw [h1]
theorem same_no {q x : Int} (h : q ≠ x) : (Lit.int .i64 q).sameKey (.int .i64 x) = false := Maps.sameKey_ne (int_ne h)
theorem FIn.skip {w wr w1 : World} {i : Int} {o : Ob} {first : Int} {it n : Nat} {F : Nat → Prop} {S : PL} {ks : List Int} {D : DataW Unit} {left : Lit → Bool} {cnt cnt1 pb : Nat} (h : FIn w wr s r M i o first it n F S ks D left cnt) (hB : r.B i = some pb) {x : Int}
    (hrg : w1.ranges Tryz.prog 3 (plainElem Tryz.prog 3) pb it n D (fun z => left z && !z.sameKey (.int .i64 x)) cnt1) (hg : wr.grownBy w1 (some it)) (hx : ∀ q, first ≤ q → (S.g q).isSome = true → q ≠ x) :
    FIn w w1 s r M i o first it n F S ks D (fun z => left z && !z.sameKey (.int .i64 x)) cnt1 := by
  have t : Turn (fun k => k = it) wr w1 := (Turn.refl _ _).grown hg (fun k hk => by cases hk; exact .inl rfl)
  refine ⟨h.eq, h.keys, h.nodup, h.gone, h.mem.kept t (fun k hk e => by subst e; exact h.itf hk), ⟨h.next.turn.trans t (fun k hk => by subst hk; exact .inr h.itn), h.next.foot⟩, h.few, fun pb' hB' => ?_, h.says, fun q hq hs => ?_, h.itf, h.itn⟩
  · rw [hB] at hB'
    cases hB'
    exact hrg
  · rw [h.come q hq hs, same_no (hx q hq hs)]
    rfl
theorem FIn.take {w w1 : World} {i : Int} {o : Ob} {first : Int} {it n a pb : Nat} {F : Nat → Prop} {S : PL} {ks : List Int} {D : DataW Unit} {left : Lit → Bool} {cnt1 : Nat} {x c : Int} (hA : r.A i = some a) (hB : r.B i = some pb) (hf : fit x) (hg : S.g x = some c) (hx : first ≤ x)
    (heq : S = ks.foldl rel1 ⟨M.L, o.pgs, o.cnt⟩) (hk : ∀ k ∈ ks, first ≤ k ∧ (o.pgs k).isSome = true) (hn : ks.Nodup) (hgone : ∀ q, S.g q = if q ∈ ks then none else o.pgs q) (hm : SMem w1 s { r with FP := F } (setM M i o S)) (hnx : VNext w s r w1 { r with FP := F }) (hfew : Few S.L)
    (hrg : w1.ranges Tryz.prog 3 (plainElem Tryz.prog 3) pb it n D left cnt1) (hsay : Says D S.g S.c) (hcome : ∀ q, first ≤ q → q ≠ x → (S.g q).isSome = true → left (.int .i64 q) = true) (hitf : ¬ SFoot s { r with FP := F } it) (hitn : w.heap.size ≤ it) :
    Calls Tryz.prog 53 #[.pointer (some ⟨s, 0, none⟩), .pointer (some ⟨a, 0, none⟩), .int .i64 x] w1 fun e w6 => e = .returned (.tuple #[]) ∧
      ∃ F' ks' D' left' cnt', cnt' ≤ cnt1 ∧ FIn w w6 s r M i o first it n F' (rel1 S x) ks' D' left' cnt' := by
  refine (release_rng hm (i := i) (o := { o with pgs := S.g, cnt := S.c }) (updI_same _ _ _) hA hB hfew x hf (f := c) hg hrg hsay hitf).mono ?_
  rintro e w6 ⟨k1, F', cnt', m6, nx, hF, hr6, hle, hS6⟩
  have hxk : x ∉ ks := fun hmem => by
    have := hgone x
    rw [if_pos hmem, hg] at this
    cases this
  have hox : o.pgs x = some c := by
    have := hgone x
    rw [if_neg hxk, hg] at this
    exact this.symm
  have e1 : rel1 (⟨(setM M i o S).L, S.g, S.c⟩ : PL) x = rel1 S x := rfl
  have e2 := rel1_some (S := S) hg
  refine ⟨k1, F', ks ++ [x], D.del (.int .i64 x), (fun z => left z && !z.sameKey (.int .i64 x)), cnt', hle, ?_, fun k hk' => ?_, ?_, fun q => ?_, ?_, hnx.trans nx, few_rel hfew x, fun pb' hB' => ?_, ?_, fun q hq hs => ?_, fun hit => ?_, hitn⟩
  · rw [List.foldl_append, ← heq]
    rfl
  · rcases List.mem_append.1 hk' with hk' | hk'
    · exact hk k hk'
    · simp at hk'
      subst hk'
      exact ⟨hx, by rw [hox]; rfl⟩
  · exact List.nodup_append.2 ⟨hn, by simp, fun a ha b hb => by simp at hb; subst hb; intro e; subst e; exact hxk ha⟩
  · rw [e2]
    show updI S.g x none q = _
    unfold updI
    by_cases e : q = x
    · subst e
      simp
    · rw [if_neg e, hgone q]
      simp [e]
  · have e3 : setM (setM M i o S) i { o with pgs := S.g, cnt := S.c } (rel1 S x) = setM M i o (rel1 S x) := by
      unfold setM
      simp only [updI_twice]
    rw [← e3]
    exact m6
  · rw [hB] at hB'
    cases hB'
    exact hr6
  · rw [e2]
    exact hS6
  · rw [e2] at hs
    have hs' : (updI S.g x none q).isSome = true := hs
    unfold updI at hs'
    by_cases e : q = x
    · rw [if_pos e] at hs'; cases hs'
    · rw [if_neg e] at hs'
      rw [hcome q hq e hs', same_no e]
      rfl
  · rcases nx.foot it hit with e | e
    · exact hitf e
    · have := hrg.lt
      omega

theorem FIn.take2 {w wr w1 : World} {i : Int} {o : Ob} {first : Int} {it n a pb : Nat} {F : Nat → Prop} {S : PL} {ks : List Int} {D : DataW Unit} {left : Lit → Bool} {cnt cnt1 : Nat} {x c : Int} (h : FIn w wr s r M i o first it n F S ks D left cnt) (hA : r.A i = some a) (hB : r.B i = some pb)
    (hx : first ≤ x) (k : fit x ∧ S.g x = some c ∧ w1.ranges Tryz.prog 3 (plainElem Tryz.prog 3) pb it n D (fun z => left z && !z.sameKey (.int .i64 x)) cnt1 ∧ cnt1 < cnt ∧ wr.grownBy w1 (some it)) :
    Calls Tryz.prog 53 #[.pointer (some ⟨s, 0, none⟩), .pointer (some ⟨a, 0, none⟩), .int .i64 x] w1 fun e w6 => e = .returned (.tuple #[]) ∧
      ∃ F' ks' D' left' cnt', cnt' ≤ cnt1 ∧ FIn w w6 s r M i o first it n F' (rel1 S x) ks' D' left' cnt' := by
  have t : Turn (fun k => k = it) wr w1 := (Turn.refl _ _).grown k.2.2.2.2 (fun k hk => by cases hk; exact .inl rfl)
  exact FIn.take hA hB k.1 k.2.1 hx h.eq h.keys h.nodup h.gone (h.mem.kept t (fun k hk e => by subst e; exact h.itf hk)) ⟨h.next.turn.trans t (fun k hk => by subst hk; exact .inr h.itn), h.next.foot⟩ h.few k.2.2.1 h.says
    (fun q hq hne hs => by rw [h.come q hq hs, same_no hne]; rfl) h.itf h.itn

set_option maxRecDepth 20000 in
set_option maxHeartbeats 2000000 in
theorem from_any (h : SMem w s r M) {i : Int} {o : Ob} {a pb : Nat} (hO : M.O i = some o) (hA : r.A i = some a) (hB : r.B i = some pb) (hf : Few M.L) (first : Int) :
    Calls Tryz.prog 38 #[.pointer (some ⟨s, 0, none⟩), .pointer (some ⟨a, 0, none⟩), .int .i64 first] w fun e w' => e = .returned (.tuple #[]) ∧
      ∃ (F' : Nat → Prop) (S' : PL) (ks : List Int), S' = ks.foldl rel1 ⟨M.L, o.pgs, o.cnt⟩ ∧ (∀ k ∈ ks, first ≤ k ∧ (o.pgs k).isSome = true) ∧ ks.Nodup ∧ (∀ q, S'.g q = if q ∈ ks then none else o.pgs q) ∧ (∀ q, first ≤ q → S'.g q = none) ∧
        SMem w' s { r with FP := F' } (setM M i o S') ∧ VNext w s r w' { r with FP := F' } ∧ Few S'.L := by
  obtain ⟨x, xt, hx1, hx2, hx3, hx4⟩ := h.live hO
  rw [hA] at hx1
  rw [hB] at hx2
  cases hx1
  cases hx2
  have d7 := (ocells hx3).c7
  obtain ⟨D, hown, hS⟩ := hx4
  have H := Lib.hid (And.intro h (And.intro hO (And.intro hA (And.intro hB (And.intro hf hS)))))
  have HK := Lib.hid (fun q (hq : (o.pgs q).isSome = true) => by
    have := (hS.1 q).1
    rw [hq] at this
    exact this)
  clear h hO hA hB hf hx3 hS
  go_enter Tryz.func38, Tryz.ntmps38
  go_wp2_with (at_range; refine wpList_range_own _ rfl _ 52 rfl 3 3 intKey pmapUnder _ pb o.cnt D rfl hown ?_; intro w0 hrg0 hg0 hs0; have K0 := Lib.hid (show FIn w w0 s r M i o first w.heap.size o.cnt r.FP ⟨M.L, o.pgs, o.cnt⟩ [] D (has D) (size D) from ⟨rfl, (fun k hk => by simp at hk), List.nodup_nil, (fun q => by simp), (by rw [setM_start H.out.2.1]; exact H.out.1.past ((Turn.refl NoBlock w).grown hg0 (fun k e => by cases e))), (next_refl w s r).past ((Turn.refl NoBlock w).grown hg0 (fun k e => by cases e)), H.out.2.2.2.2.1, (fun pb' hB' => by have e := H.out.2.2.2.1.symm.trans hB'; cases e; exact hrg0), H.out.2.2.2.2.2, (fun q _ hq => HK.out q hq), fresh_not H.out.1, Nat.le_refl _⟩); clear hrg0 hg0 hs0)
  go_frame
  go_loopg [6] (size D) (fun g s6 wr => ∃ (F : Nat → Prop) (S : PL) (ks : List Int) (D' : DataW Unit) (left : Lit → Bool), Hid (FIn w wr s r M i o first w.heap.size o.cnt F S ks D' left g))
  case atStart => exact ⟨r.FP, _, [], D, _, K0⟩
  case round =>
    obtain ⟨F, S, ks, D', left, HA⟩ := hrel
    have hrg := HA.out.rng pb H.out.2.2.2.1
    have HB := Lib.hid H.out.2.2.2.1
    have HAa := Lib.hid H.out.2.2.1
    have HO := Lib.hid H.out.2.1
    go_wp2_with (first
      | (at_next; refine wp_next_I _ rfl _ rfl pb w.heap.size o.cnt _ _ _ rfl hrg (fun KD => ?_) (fun x c w1 cnt1 KX hen => ?_))
      | (go_at_call 53; (with_reducible refine (HA.out.take2 HAa.out HB.out (by assumption) ⟨KX.out.1, HA.out.seen KX.out.2.1, KX.out.2.2⟩).mono ?_); rintro e w6 ⟨rfl, F6, ks6, D6, left6, cnt6, hle6, k6⟩; have K6 := Lib.hid (And.intro hle6 k6); clear hle6 k6))
    · go_end0
      have hF := HA.out
      refine ⟨rfl, F, S, ks, hF.eq, hF.keys, hF.nodup, hF.gone, fun q hq => ?_, hF.mem, hF.next, hF.few⟩
      cases hg : S.g q with
      | none => rfl
      | some v =>
        have := hF.come q hq (by rw [hg]; rfl)
        rw [KD.out] at this
        cases this
    · go_roundg cnt6
      case measure => have := K6.out.1; have := KX.out.2.2.2.1; omega
      case rel => exact ⟨F6, _, ks6, D6, left6, K6.out.2⟩
    · go_roundg cnt1
      case measure => exact KX.out.2.2.2.1
      case rel => exact ⟨F, S, ks, D', _, HA.out.skip HB.out KX.out.2.2.1 KX.out.2.2.2.2 (fun q hq _ e => by omega)⟩
end
end Go.Proofs.YtdddmjdlikjedaaGreat

/-
  Resize. No conditions but that the set is one that calls can make.
-/
namespace Go.Proofs.YtdddmjdlikjedaaGreat
open Go.ChangeShapes Go.WideShapes Go.ChangeAt Go.RowKit

def resizeS (M : Mod) (i n : Int) : Int := if findS M i ≠ 0 then -25 else if n < 0 then -10 else if 4294967296 < n then -14 else match M.O i with | none => 0 | some o => if 0 < o.depth then -2 else if 0 < o.slc then -20 else 0
section
variable {w : World} {s : Nat} {r : Rep} {M : Mod}
end
end Go.Proofs.YtdddmjdlikjedaaGreat

/-
  What a resize does to what stands in an object; a write that is not within. No conditions but that the set is one that calls can make.
-/
namespace Go.Proofs.YtdddmjdlikjedaaGreat
open Go.ChangeShapes Go.WideShapes Go.ChangeAt Go.RowKit

theorem goP_cnt (k : Nat) : ∀ p i n, i < 64 → (goP k p i n).length * 64 ≤ i + n + 63 := by
  induction k with
  | zero => intro p i n _; simp [goP]
  | succ k ih =>
    intro p i n hi
    rw [goP_succ]
    by_cases h : n = 0
    · rw [if_pos h]; simp
    · rw [if_neg h, List.length_cons]
      have := ih (p + 1) 0 (n - min n (64 - i)) (by decide)
      by_cases h2 : n ≤ 64 - i
      · rw [show n - min n (64 - i) = 0 by omega, goP_nil]
        simp only [List.length_nil]
        omega
      · omega
theorem parts_cnt (t n : Nat) : (partsL t n).length * 64 ≤ t % 64 + n + 63 := goP_cnt n _ _ n (Nat.mod_lt _ (by decide))

theorem full_rel {S : PL} (h : Full S.L) (p : Int) : Full (rel1 S p).L := fun g => by
  unfold rel1
  split
  · exact h g
  · rename_i f hf
    show (pgAt (relL S.L f) g).bytes.length = 64
    unfold relL
    split
    · exact h g
    · split
      · rw [pg_set]
        split
        · rfl
        · exact h g
      · rw [pg_set]
        split
        · exact h _
        · exact h g
structure Relo (i : Int) (S : PL) (A : Key → Option Int) (ks : List Int) (S' : PL) (A' : Key → Option Int) : Prop where
  good : Good S'.L A'
  fam : ∀ q, S'.g q = A' (i, q)
  other : ∀ k : Key, k.1 ≠ i → A' k = A k
  cont : ∀ k, A' k = none ∨ (A' k = A k ∧ cont S'.L (A k) = cont S.L (A k))
  full : Full S'.L
theorem relo_fold {i : Int} (ks : List Int) : ∀ (S : PL) (A : Key → Option Int), Good S.L A → Full S.L → (∀ q, S.g q = A (i, q)) → ∃ A', Relo i S A ks (ks.foldl rel1 S) A' := by
  induction ks with
  | nil => intro S A h hF hg; exact ⟨A, h, hg, fun _ _ => rfl, fun k => .inr ⟨rfl, rfl⟩, hF⟩
  | cons k ks ih =>
    intro S A h hF hg
    cases hk : S.g k with
    | none =>
      obtain ⟨A', r⟩ := ih S A h hF hg
      refine ⟨A', ?_⟩
      have e : (k :: ks).foldl rel1 S = ks.foldl rel1 S := by rw [List.foldl_cons, rel1_none hk]
      rw [e]
      exact ⟨r.good, r.fam, r.other, r.cont, r.full⟩
    | some f =>
      have hA : A (i, k) = some f := by rw [← hg, hk]
      have e1 := rel1_some hk
      have hG1 : Good (rel1 S k).L (updK A (i, k) none) := by rw [e1]; exact h.rel hA
      have hg1 : ∀ q, (rel1 S k).g q = updK A (i, k) none (i, q) := fun q => by
        rw [e1]
        show updI S.g k none q = _
        unfold updI updK
        by_cases e : q = k
        · rw [if_pos e, if_pos (by rw [e])]
        · rw [if_neg e, if_neg (fun h => e (by injection h)), hg]
      obtain ⟨A', r⟩ := ih (rel1 S k) (updK A (i, k) none) hG1 (full_rel hF k) hg1
      refine ⟨A', ⟨r.good, r.fam, fun kk hkk => (r.other kk hkk).trans (updK_ne (fun e => hkk (by rw [e]))), fun kk => ?_, r.full⟩⟩
      rcases r.cont kk with e | ⟨e, ec⟩
      · exact .inl e
      · by_cases hne : kk = (i, k)
        · left; rw [e, hne, updK_same]
        · right
          rw [updK_ne hne] at e ec
          refine ⟨e, ?_⟩
          show cont (ks.foldl rel1 (rel1 S k)).L (A kk) = _
          rw [ec]
          cases ha : A kk with
          | none => rfl
          | some f2 =>
            rw [cont_some, cont_some, e1]
            refine rel_bytes ?_
            by_cases e2 : f2 = f
            · right
              rcases Nat.lt_or_ge 1 (usersL S.L f) with h1 | h1
              · exact h1
              · have h0 := h.pos hA
                exact absurd (h.alone hA (by omega) (by rw [ha, e2])) hne
            · exact .inl e2
theorem Chain.upd2 {O : Int → Option Ob} (h : Chain O) {i : Int} {o o' : Ob} (hO : O i = some o) (h1 : o'.par = o.par) (h2 : o'.depth = o.depth) (h3 : o'.size ≤ 4294967296) (h4 : o'.frm = o.frm) (h5 : 0 < o'.depth → o'.pgs = fun _ => none) : Chain (updI O i (some o')) := by
  have h6 := h.upd (o' := { o' with size := o.size }) hO h1 h2 rfl h4 h5
  refine ⟨fun j x hx hd => ?_, fun j x hx => ?_, fun j x hx hd => ?_⟩
  · have hx' : ∃ x', updI O i (some { o' with size := o.size }) j = some x' ∧ x'.par = x.par ∧ x'.depth = x.depth := by
      unfold updI at hx ⊢
      split at hx
      · rename_i e
        cases hx
        rw [if_pos e]
        exact ⟨_, rfl, rfl, rfl⟩
      · rename_i e
        rw [if_neg e]
        exact ⟨x, hx, rfl, rfl⟩
    obtain ⟨x', a1, a2, a3⟩ := hx'
    obtain ⟨q, b1, b2⟩ := h6.up j x' a1 (by omega)
    rw [a2] at b1
    unfold updI at b1 ⊢
    by_cases e : (x.par : Int) = i
    · rw [if_pos e] at b1 ⊢
      cases b1
      exact ⟨o', rfl, by rw [a3] at b2; exact b2⟩
    · rw [if_neg e] at b1 ⊢
      exact ⟨q, b1, by rw [a3] at b2; exact b2⟩
  · unfold updI at hx
    split at hx
    · cases hx
      refine ⟨h3, ?_, ?_⟩
      · rw [h4]; exact (h.small i o hO).2.1
      · rw [h2]; exact (h.small i o hO).2.2
    · exact h.small j x hx
  · unfold updI at hx
    split at hx
    · cases hx; exact h5 hd
    · exact h.pgs j x hx hd
theorem resize_inv {M : Mod} {j : Int} {o : Ob} (h : Inv8 M) (hF : Full M.L) (hO : M.O j = some o) (hd : o.depth = 0) {U : Nat} (hU : U ≤ 4294967296) (h64 : U % 64 = 0) {S' : PL} {ks : List Int} (hS : S' = ks.foldl rel1 ⟨M.L, o.pgs, o.cnt⟩)
    (hk : ∀ k ∈ ks, ((U / 64 : Nat) : Int) ≤ k ∧ (o.pgs k).isSome = true) (hg : ∀ q, S'.g q = if q ∈ ks then none else o.pgs q) (hn : ∀ q, ((U / 64 : Nat) : Int) ≤ q → S'.g q = none) (hf : Few S'.L) :
    Inv8 (setM M j { o with size := U } S') ∧ Full S'.L ∧ ∀ x, fl S'.L S'.g x = if x < U then fl M.L o.pgs x else 0 := by
  obtain ⟨A', r⟩ := relo_fold (i := j) ks ⟨M.L, o.pgs, o.cnt⟩ (famOf M.O) h.good hF (fun q => (fam_at hO q).symm)
  rw [← hS] at r
  refine ⟨⟨?_, ?_, hf⟩, r.full, fun x => ?_⟩
  · exact r.good.congr (fam_upd (fun q => r.fam q) (fun k hk2 => r.other k hk2))
  · exact h.chain.upd2 hO rfl rfl hU rfl (fun hp => by have : 0 < o.depth := hp; omega)
  · unfold fl
    by_cases hx : x < U
    · rw [if_pos hx]
      have hni : ((x / 64 : Nat) : Int) ∉ ks := fun hm => by
        have := (hk _ hm).1
        omega
      have e : S'.g ((x / 64 : Nat) : Int) = o.pgs ((x / 64 : Nat) : Int) := by rw [hg, if_neg hni]
      rw [e]
      rcases r.cont (j, ((x / 64 : Nat) : Int)) with e2 | ⟨e2, e3⟩
      · rw [← r.fam, e] at e2
        rw [e2]
        rfl
      · rw [fam_at hO] at e3
        rw [e3]
    · rw [if_neg hx, hn _ (by omega), cont_none]
      unfold blank
      rw [List.getD_eq_getElem?_getD, List.getElem?_replicate, if_pos (Nat.mod_lt _ (by decide))]
      rfl
theorem up_mod (n : Int) : upS n % 64 = 0 := by unfold upS; omega

section
variable {w : World} {s : Nat} {r : Rep} {M : Mod}
set_option maxRecDepth 20000 in
theorem write8_out (h : SMem w s r M) {i : Int} {o : Ob} (hi : fit i) (hO : M.O i = some o) (hd : o.drp = false) (t : Int) (ht : fit t) (p : Option Addr) (n c : Nat) (hn : n ≤ 4096) (hs : o.size ≤ 4294967296) (hout : ¬ (0 ≤ t ∧ t + n ≤ (o.size : Int))) :
    Calls Tryz.prog 25 #[.pointer (some ⟨s, 0, none⟩), .int .i64 i, .int .i64 t, .slice p n c] w fun e w' => e = .returned (.int .i64 (-14)) ∧ w = w' := by
  obtain ⟨a, pb, hA, hB, hcell, hpm⟩ := h.live hO
  have c49 := find_yes h i hi hO hd hA
  have c50 := fun w => within_no t (n : Int) (o.size : Int) w (by omega) ht (by unfold fit; omega) (by unfold fit; omega)
  have d0 := (ocells hcell).c0
  have hn1 : ¬ (4096 : Int) < (n : Int) := by omega
  clear h hi hO hd ht hn hs hout hA hB hcell hpm
  go_enter Tryz.func25, Tryz.ntmps25
  go_wp2_with (first
    | (go_at_call 21; (with_reducible refine c49.mono ?_); rintro e w1 ⟨rfl, rfl⟩)
    | (go_at_call 26; (with_reducible refine (c50 _).mono ?_); rintro e w1 ⟨rfl, rfl⟩))
  go_ret
  exact ⟨rfl, rfl⟩
end
end Go.Proofs.YtdddmjdlikjedaaGreat

/-
  end: an object is taken away. No conditions but that the set is one that calls can make.
-/
namespace Go.Proofs.YtdddmjdlikjedaaGreat
open Go.ChangeShapes Go.WideShapes Go.ChangeAt Go.RowKit

def delR (r : Rep) (i : Int) : Rep := { r with A := updI r.A i none, B := updI r.B i none }
def delM (M : Mod) (i : Int) : Mod := { M with O := updI M.O i none, live := M.live - 1 }
/-- An object that has lost a child. -/
def lose (q : Ob) (d : Nat) : Ob := { q with kids := q.kids - 1, slc := if 0 < d then q.slc - 1 else q.slc }
def endM (M : Mod) (i : Int) (o : Ob) (S : PL) : Mod :=
  match M.O (o.par : Int) with
  | none => delM (setM M i o S) i
  | some q => { delM (setM M i o S) i with O := updI (delM (setM M i o S) i).O (o.par : Int) (some (lose q o.depth)) }
theorem delR_foot {s : Nat} {r : Rep} {i : Int} {k : Nat} (h : SFoot s (delR r i) k) : SFoot s r k := by
  rcases h with h | h | h | ⟨j, h⟩ | ⟨j, h⟩
  · exact .inl h
  · exact .inr (.inl h)
  · exact .inr (.inr (.inl h))
  · have h' : updI r.A i none j = some k := h
    unfold updI at h'
    split at h'
    · cases h'
    · exact .inr (.inr (.inr (.inl ⟨j, h'⟩)))
  · have h' : updI r.B i none j = some k := h
    unfold updI at h'
    split at h'
    · cases h'
    · exact .inr (.inr (.inr (.inr ⟨j, h'⟩)))

section
variable {w : World} {s : Nat} {r : Rep} {M : Mod}
theorem SMem.del (h : SMem w s r M) {i : Int} {a : Nat} (hA : r.A i = some a) (hi : fit i) : ∃ w', (∀ ty, Sem.run Tryz.prog (Builtin.delete_ #[41, 3] ty #[.map (some r.mo), .int .i64 i]) w = .ok (.tuple #[]) w') ∧ SMem w' s (delR r i) (delM M i) ∧ Turn (fun k => k = r.mo) w w' := by
  obtain ⟨w', hrun, om, t⟩ := h.omap.drop i hi 0
  rw [hA] at om
  refine ⟨w', fun ty => hrun, ⟨?_, ?_, om, fun j c hj => ?_, fun j hj => ?_, fun j k c hj hk => ?_, fun j k c hj hk => ?_, fun j c hj => ?_, fun j c hj => ?_, h.pS, h.pM, fun j c hj => ?_, fun j c hj => ?_⟩, t⟩
  · exact t.heap h.head (fun e => h.mS e.symm)
  · exact (pool_own _ _ _).kept _ _ _ h.pool t (fun k hk e => by subst e; exact h.pM hk)
  all_goals try (have hj' : updI r.A i none j = some c := hj; unfold updI at hj'; split at hj'; cases hj')
  all_goals try (have hj' : updI r.B i none j = some c := hj; unfold updI at hj'; split at hj'; cases hj')
  · rename_i e
    obtain ⟨o, pb, h1, h2, h3, h4⟩ := h.ob j c hj'
    exact ⟨o, pb, by show updI M.O i none j = _; unfold updI; rw [if_neg e]; exact h1, by show updI r.B i none j = _; unfold updI; rw [if_neg e]; exact h2, t.heap h3 (h.aM hj'), IMap.past h4 t (h.bmo j pb h2)⟩
  · have hj' : updI r.A i none j = none := hj
    unfold updI at hj'
    split at hj'
    · rename_i e
      exact ⟨by show updI M.O i none j = _; unfold updI; rw [if_pos e], by show updI r.B i none j = _; unfold updI; rw [if_pos e]⟩
    · rename_i e
      exact ⟨by show updI M.O i none j = _; unfold updI; rw [if_neg e]; exact (h.no j hj').1, by show updI r.B i none j = _; unfold updI; rw [if_neg e]; exact (h.no j hj').2⟩
  · have hk' : updI r.A i none k = some c := hk
    unfold updI at hk'
    split at hk'
    · cases hk'
    · exact h.injA j k c hj' hk'
  · have hk' : updI r.B i none k = some c := hk
    unfold updI at hk'
    split at hk'
    · cases hk'
    · exact h.injB j k c hj' hk'
  · exact h.bmo j c hj'
  · exact h.ids j c hj'
  · exact h.pA j c hj'
  · exact h.pB j c hj'
theorem lose1 (h : SMem w s r M) {j : Int} {q : Ob} {aq : Nat} (hO : M.O j = some q) (hA : r.A j = some aq) :
    SMem (w.setCell ⟨aq, 2, none⟩ (.int .i64 ((q.kids - 1 : Nat) : Int))) s r { M with O := updI M.O j (some (lose q 0)) } ∧ Turn (fun k => k = aq) w (w.setCell ⟨aq, 2, none⟩ (.int .i64 ((q.kids - 1 : Nat) : Int))) := by
  obtain ⟨a', pb, hA', hB, hcell, hpm⟩ := h.live hO
  rw [hA] at hA'
  cases hA'
  have t2 : Turn (fun k => k = aq) w (w.setCell ⟨aq, 2, none⟩ (.int .i64 ((q.kids - 1 : Nat) : Int))) := (Turn.refl (fun k => k = aq) _).setCell (p := ⟨aq, 2, none⟩) (.inl rfl) _
  exact ⟨h.setOb (o' := lose q 0) hA hB t2 (fun k hk => .inl hk) (set_at hcell 2 _) (IMap.past hpm t2 (fun e => h.aB hA hB e.symm)), t2⟩
theorem lose2 (h : SMem w s r M) {j : Int} {q : Ob} {aq : Nat} (hO : M.O j = some q) (hA : r.A j = some aq) (d : Nat) (hd : 0 < d) :
    SMem ((w.setCell ⟨aq, 2, none⟩ (.int .i64 ((q.kids - 1 : Nat) : Int))).setCell ⟨aq, 3, none⟩ (.int .i64 ((q.slc - 1 : Nat) : Int))) s r { M with O := updI M.O j (some (lose q d)) } ∧ Turn (fun k => k = aq) w ((w.setCell ⟨aq, 2, none⟩ (.int .i64 ((q.kids - 1 : Nat) : Int))).setCell ⟨aq, 3, none⟩ (.int .i64 ((q.slc - 1 : Nat) : Int))) := by
  obtain ⟨m1, t1⟩ := lose1 h hO hA
  generalize w.setCell ⟨aq, 2, none⟩ (.int .i64 ((q.kids - 1 : Nat) : Int)) = W at *
  obtain ⟨a', pb, hA', hB, hcell, hpm⟩ := m1.live (i := j) (o := lose q 0) (updI_same _ _ _)
  rw [hA] at hA'
  cases hA'
  have t2 : Turn (fun k => k = aq) W (W.setCell ⟨aq, 3, none⟩ (.int .i64 ((q.slc - 1 : Nat) : Int))) := (Turn.refl (fun k => k = aq) _).setCell (p := ⟨aq, 3, none⟩) (.inl rfl) _
  have e : lose q d = { lose q 0 with slc := q.slc - 1 } := by unfold lose; simp [hd]
  have m2 := m1.setOb (o' := lose q d) hA hB t2 (fun k hk => .inl hk) (by rw [e]; exact set_at hcell 3 _) (IMap.past hpm t2 (fun e => m1.aB hA hB e.symm))
  simp only [updI_twice] at m2
  exact ⟨m2, t1.trans t2 (fun j hj => .inl hj)⟩

/-- What end leaves. -/
structure Ended (w w' : World) (s : Nat) (r : Rep) (M : Mod) (i : Int) (o : Ob) (a : Nat) (r' : Rep) (S' : PL) (ks : List Int) : Prop where
  eq : S' = ks.foldl rel1 ⟨M.L, o.pgs, o.cnt⟩
  gone : ∀ q, 0 ≤ q → S'.g q = none
  keep : ∀ q, S'.g q = if q ∈ ks then none else o.pgs q
  few : Few S'.L
  mem : SMem w' s r' (endM M i o S')
  next : VNext w s r w' r'
  par : w'.cell? ⟨a, 1, none⟩ = some (.int .i64 (o.par : Int))

set_option maxRecDepth 20000 in
set_option maxHeartbeats 1000000 in
theorem end_any (h : SMem w s r M) {i : Int} {o : Ob} {a : Nat} (hO : M.O i = some o) (hA : r.A i = some a) (hf : Few M.L) (hi : fit i) (hpar : fit (o.par : Int)) (hne : (o.par : Int) ≠ i)
    (hq : ∀ q, M.O (o.par : Int) = some q → 1 ≤ q.kids ∧ q.kids < 4611686018427387904 ∧ (0 < o.depth → 1 ≤ q.slc) ∧ q.slc < 4611686018427387904) :
    Calls Tryz.prog 22 #[.pointer (some ⟨s, 0, none⟩), .int .i64 i, .pointer (some ⟨a, 0, none⟩)] w fun e w' => e = .returned (.tuple #[]) ∧ ∃ r' S' ks, Ended w w' s r M i o a r' S' ks := by
  obtain ⟨x, pb, hx1, hB, hx3, hx4⟩ := h.live hO
  rw [hA] at hx1
  cases hx1
  have HR := Lib.hid ((from_any h hO hA hB hf 0).mono (R' := fun e w2 => e = .returned (.tuple #[]) ∧ w2.cell? ⟨s, 3, none⟩ = some (.map (some r.mo)) ∧ ∃ w3, (∀ ty, Sem.run Tryz.prog (Builtin.delete_ #[41, 3] ty #[.map (some r.mo), .int .i64 i]) w2 = .ok (.tuple #[]) w3) ∧
      w3.cell? ⟨s, 3, none⟩ = some (.map (some r.mo)) ∧ w3.cell? ⟨a, 1, none⟩ = some (.int .i64 (o.par : Int)) ∧ w3.cell? ⟨a, 4, none⟩ = some (.int .i64 (o.depth : Int)) ∧
      ∃ (r3 : Rep) (S' : PL) (ks : List Int), r3.A = updI r.A i none ∧ r3.mo = r.mo ∧ S' = ks.foldl rel1 ⟨M.L, o.pgs, o.cnt⟩ ∧ (∀ q, 0 ≤ q → S'.g q = none) ∧ (∀ q, S'.g q = if q ∈ ks then none else o.pgs q) ∧ Few S'.L ∧ SMem w3 s r3 (delM (setM M i o S') i) ∧ VNext w s r w3 r3) fun e w2 hw => by
    obtain ⟨k1, F', S', ks, g1, g2, g3, g4, g5, g6, g7, g8⟩ := hw
    obtain ⟨y, yb, y1, y2, y3, y4⟩ := g6.live (i := i) (o := { o with pgs := S'.g, cnt := S'.c }) (updI_same _ _ _)
    simp only at y1
    rw [hA] at y1
    cases y1
    obtain ⟨w3, hrun, m3, t3⟩ := g6.del (i := i) hA hi
    have y3' := ocells (t3.heap y3 (fun e => g6.aM hA e))
    exact ⟨k1, g6.c3, w3, hrun, m3.c3, y3'.c1, y3'.c4, delR { r with FP := F' } i, S', ks, rfl, rfl, g1, fun q hq => g5 q hq, g4, g8, m3,
      g7.trans ⟨t3.mono (fun j hj => .inl (.inr (.inl hj))), fun k hk => .inl (delR_foot hk)⟩⟩)
  have hshow : ∀ (W : World) (m : Nat), Turn NoBlock W (W.drewN m) := fun W m => (Turn.refl NoBlock W).drewN m
  cases hM : M.O (o.par : Int) with
  | none =>
    have hAp : updI r.A i none (o.par : Int) = none := by unfold updI; rw [if_neg hne]; exact h.dead hM
    have HM := Lib.hid hM
    have HAp := Lib.hid hAp
    have HP := Lib.hid hpar
    clear h hO hA hB hx3 hx4 hf hq hpar hM hAp
    go_enter Tryz.func22, Tryz.ntmps22
    go_wp2_with (go_at_call 38; (with_reducible refine HR.out.mono ?_); rintro e w2 ⟨rfl, y3, w3, hrun, z3, z1, z4, r3, S', ks, e1, e2, g1, g2, g3, g4, m3, nx3⟩; have lk0 := m3.omap.look (o.par : Int) HP.out; have lkd := (m3.past ((Turn.refl NoBlock w3).drew)).omap.look (o.par : Int) HP.out; rw [e1, HAp.out, e2] at lk0 lkd; unfold ptrOf at lk0 lkd; have K := Lib.hid (And.intro g1 (And.intro g2 (And.intro g3 (And.intro g4 (And.intro m3 nx3))))); clear g1 g2 g3 g4 m3 nx3 e1 e2)
    go_region
    all_goals
      go_wp2
      refine bodyPost_ret (results_none rfl _ _ _) rfl ?_
      obtain ⟨g1, g2, g3, g4, m3, nx3⟩ := K.out
      refine ⟨rfl, r3, S', ks, g1, g2, g3, g4, ?_, nx3.past ((Turn.refl NoBlock w3).drew), z1⟩
      have e : endM M i o S' = delM (setM M i o S') i := by unfold endM; rw [HM.out]
      rw [e]
      exact m3.past ((Turn.refl NoBlock w3).drew)
  | some q =>
    obtain ⟨q1, q2, q3, q4⟩ := hq q hM
    obtain ⟨aq, qb, hAq, -, -, -⟩ := h.live hM
    have hAp : updI r.A i none (o.par : Int) = some aq := by unfold updI; rw [if_neg hne]; exact hAq
    have haq : a ≠ aq := fun e => by subst e; exact hne (h.injA _ _ _ hAq hA)
    have haqs : aq ≠ s := h.aS hAq
    have HM := Lib.hid hM
    have HAp := Lib.hid hAp
    have HP := Lib.hid hpar
    have HAq := Lib.hid hAq
    have hwk : IntKind.i64.wrap ((q.kids : Int) - 1) = ((q.kids - 1 : Nat) : Int) := by rw [show (q.kids : Int) - 1 = ((q.kids - 1 : Nat) : Int) by omega]; exact wrap_nat _ (by omega)
    have HMO := Lib.hid (fun S' => show (delM (setM M i o S') i).O (o.par : Int) = some q from by
      show updI (updI M.O i _) i none _ = _
      unfold updI
      rw [if_neg hne, if_neg hne]
      exact hM)
    have HE := Lib.hid (fun S' => show endM M i o S' = { delM (setM M i o S') i with O := updI (delM (setM M i o S') i).O (o.par : Int) (some (lose q o.depth)) } from by unfold endM; rw [hM])
    clear h hO hA hB hx3 hx4 hf hq hpar hM hAp hAq
    by_cases hd : 0 < o.depth
    · have hwk2 : IntKind.i64.wrap ((q.slc : Int) - 1) = ((q.slc - 1 : Nat) : Int) := by
        have := q3 hd
        rw [show (q.slc : Int) - 1 = ((q.slc - 1 : Nat) : Int) by omega]; exact wrap_nat _ (by omega)
      have hdI : (0 : Int) < (o.depth : Int) := by omega
      have HD := Lib.hid hd
      clear hd q3
      go_enter Tryz.func22, Tryz.ntmps22
      go_wp2_with (go_at_call 38; (with_reducible refine HR.out.mono ?_); rintro e w2 ⟨rfl, y3, w3, hrun, z3, z1, z4, r3, S', ks, e1, e2, g1, g2, g3, g4, m3, nx3⟩; have lk0 := m3.omap.look (o.par : Int) HP.out; have lkd := (m3.past ((Turn.refl NoBlock w3).drew)).omap.look (o.par : Int) HP.out; rw [e1, HAp.out, e2] at lk0 lkd; unfold ptrOf at lk0 lkd; have hA3 : r3.A (o.par : Int) = some aq := (by rw [e1]; exact HAp.out); obtain ⟨aq', qb', hq1, -, hq3, -⟩ := m3.live (HMO.out S'); rw [hA3] at hq1; obtain rfl : aq = aq' := (by cases hq1; rfl); have b2 := (ocells hq3).c2; have b3 := (ocells hq3).c3; have bf2 := (ocells hq3).f 2; have bf3 := (ocells hq3).f 3; have K := Lib.hid (And.intro hA3 (And.intro g1 (And.intro g2 (And.intro g3 (And.intro g4 (And.intro m3 nx3)))))); clear g1 g2 g3 g4 m3 nx3 e1 e2 hA3 hq1 hq3)
      go_region
      all_goals
        go_wp2
        go_end0
        obtain ⟨hA3, g1, g2, g3, g4, m3, nx3⟩ := K.out
        obtain ⟨m4, t4⟩ := lose2 (m3.past ((Turn.refl NoBlock w3).drew)) (HMO.out S') hA3 o.depth HD.out
        refine ⟨rfl, r3, S', ks, g1, g2, g3, g4, by rw [HE.out]; exact m4, (nx3.past ((Turn.refl NoBlock w3).drew)).trans ⟨t4.mono (fun j hj => .inl (.inr (.inr (.inr (.inl ⟨_, by subst hj; exact hA3⟩))))), fun j hj => .inl hj⟩, t4.cell z1 haq⟩
    · have hdI : ¬ (0 : Int) < (o.depth : Int) := by omega
      have HD := Lib.hid (show o.depth = 0 by omega)
      clear hd q3
      go_enter Tryz.func22, Tryz.ntmps22
      go_wp2_with (go_at_call 38; (with_reducible refine HR.out.mono ?_); rintro e w2 ⟨rfl, y3, w3, hrun, z3, z1, z4, r3, S', ks, e1, e2, g1, g2, g3, g4, m3, nx3⟩; have lk0 := m3.omap.look (o.par : Int) HP.out; have lkd := (m3.past ((Turn.refl NoBlock w3).drew)).omap.look (o.par : Int) HP.out; rw [e1, HAp.out, e2] at lk0 lkd; unfold ptrOf at lk0 lkd; have hA3 : r3.A (o.par : Int) = some aq := (by rw [e1]; exact HAp.out); obtain ⟨aq', qb', hq1, -, hq3, -⟩ := m3.live (HMO.out S'); rw [hA3] at hq1; obtain rfl : aq = aq' := (by cases hq1; rfl); have b2 := (ocells hq3).c2; have bf2 := (ocells hq3).f 2; have K := Lib.hid (And.intro hA3 (And.intro g1 (And.intro g2 (And.intro g3 (And.intro g4 (And.intro m3 nx3)))))); clear g1 g2 g3 g4 m3 nx3 e1 e2 hA3 hq1 hq3)
      go_region
      all_goals
        go_wp2
        go_end0
        obtain ⟨hA3, g1, g2, g3, g4, m3, nx3⟩ := K.out
        obtain ⟨m4, t4⟩ := lose1 (m3.past ((Turn.refl NoBlock w3).drew)) (HMO.out S') hA3
        refine ⟨rfl, r3, S', ks, g1, g2, g3, g4, by rw [HE.out, HD.out]; exact m4, (nx3.past ((Turn.refl NoBlock w3).drew)).trans ⟨t4.mono (fun j hj => .inl (.inr (.inr (.inr (.inl ⟨_, by subst hj; exact hA3⟩))))), fun j hj => .inl hj⟩, t4.cell z1 haq⟩
end
end Go.Proofs.YtdddmjdlikjedaaGreat

/-
  share: the pages of a child get the frames of its parent's. No conditions but that the set is one that calls can make.
-/
namespace Go.Proofs.YtdddmjdlikjedaaGreat
open Go.ChangeShapes Go.WideShapes Go.ChangeAt Go.RowKit

def shStep (pg : Int → Option Int) (first : Nat) (S : PL) (k : Nat) : PL :=
  match pg ((first : Int) + (k : Int)) with
  | none => S
  | some f => ⟨shareL S.L f, updI S.g (k : Int) (some f), if (S.g (k : Int)).isSome then S.c else S.c + 1⟩
def shAll (pg : Int → Option Int) (first : Nat) (S : PL) : Nat → PL
  | 0 => S
  | n + 1 => shStep pg first (shAll pg first S n) n
theorem shStep_none {pg : Int → Option Int} {first : Nat} {S : PL} {k : Nat} (h : pg ((first : Int) + (k : Int)) = none) : shStep pg first S k = S := by unfold shStep; rw [h]
theorem shStep_some {pg : Int → Option Int} {first : Nat} {S : PL} {k : Nat} {f : Int} (h : pg ((first : Int) + (k : Int)) = some f) : shStep pg first S k = ⟨shareL S.L f, updI S.g (k : Int) (some f), if (S.g (k : Int)).isSome then S.c else S.c + 1⟩ := by unfold shStep; rw [h]
def Ub (L : List Pg) (n : Nat) : Prop := ∀ f, usersL L f ≤ n
theorem ub_share {L : List Pg} {n : Nat} (h : Ub L n) (f : Int) : Ub (shareL L f) (n + 1) := fun g => by
  by_cases hu : usersL L f = 0
  · unfold shareL
    rw [if_pos hu]
    have := h g; omega
  · rw [share_users hu]
    have := h f
    have := h g
    split <;> omega

/-- What the loop of share holds. -/
structure HIn (w wr : World) (s : Nat) (r : Rep) (M : Mod) (j : Int) (o oc : Ob) (first U : Nat) (F : Nat → Prop) (S : PL) (k : Nat) : Prop where
  eq : S = shAll o.pgs first ⟨M.L, oc.pgs, oc.cnt⟩ k
  mem : SMem wr s { r with FP := F } (setM M j oc S)
  next : VNext w s r wr { r with FP := F }
  ub : Ub S.L (U + k)
  cnt : S.c ≤ oc.cnt + k

section
variable {w : World} {s : Nat} {r : Rep} {M : Mod}
theorem share_step {wr w5 : World} {j : Int} {o oc : Ob} {ca cpb first U k : Nat} {F : Nat → Prop} {S : PL} {f : Int} (h : HIn w wr s r M j o oc first U F S k) (hAc : r.A j = some ca) (hBc : r.B j = some cpb) (hk : k ≤ 64) (hg : o.pgs ((first : Int) + (k : Int)) = some f) (hfit : fit f) (hcnt : oc.cnt ≤ 1152921504606846976)
    (p5 : PoolAt w5 r.p F (shareL S.L f)) (t5 : Turn F wr w5) :
    w5.cell? ⟨ca, 7, none⟩ = some (.map (some cpb)) ∧ ∃ w6, Sem.run Tryz.prog (Instr.mapUpdate 52 (.map (some cpb)) (.int .i64 (k : Int)) (.int .i64 f)) w5 = .ok () w6 ∧ Hid (HIn w w6 s r M j o oc first U F (shStep o.pgs first S k) (k + 1)) := by
  have m5 := h.mem.setPool (F' := F) p5 t5 (fun j hj => .inl hj)
  have nx := pool_next (s := s) (r := { r with FP := F }) (F' := F) t5 (fun j hj => .inl hj)
  obtain ⟨x, xt, hx1, hx2, hx3, hx4⟩ := m5.live (i := j) (o := { oc with pgs := S.g, cnt := S.c }) (updI_same _ _ _)
  simp only at hx1 hx2
  rw [hAc] at hx1
  rw [hBc] at hx2
  cases hx1
  cases hx2
  refine ⟨(ocells hx3).c7, ?_⟩
  obtain ⟨w6, hrun, pm6, t6⟩ := hx4.put (by have := h.cnt; show S.c < maxLen; unfold maxLen; omega) (k : Int) f (by unfold fit; omega) hfit
  have m6 := m5.setOb (o' := { oc with pgs := (shStep o.pgs first S k).g, cnt := (shStep o.pgs first S k).c }) hAc hBc t6 (fun j hj => .inr hj) (t6.heap hx3 (fun e => m5.aB hAc hBc e)) (by rw [shStep_some hg]; exact pm6)
  refine ⟨w6, hrun, ?_, ?_, ?_, ?_, ?_⟩
  · rw [h.eq]; rfl
  · have e : { { (setM M j oc S) with L := shareL S.L f } with O := updI (setM M j oc S).O j (some { oc with pgs := (shStep o.pgs first S k).g, cnt := (shStep o.pgs first S k).c }) } = setM M j oc (shStep o.pgs first S k) := by
      unfold setM
      simp only [updI_twice]
      rw [shStep_some hg]
    rw [← e]
    exact m6
  · exact (h.next.trans nx).trans ⟨t6.mono (fun j' hj => .inl (.inr (.inr (.inr (.inr ⟨j, by subst hj; exact hBc⟩))))), fun j hj => .inl hj⟩
  · rw [shStep_some hg]
    exact ub_share h.ub f
  · rw [shStep_some hg]
    have := h.cnt
    show (if (S.g (k : Int)).isSome then S.c else S.c + 1) ≤ oc.cnt + (k + 1)
    split <;> omega

end
end Go.Proofs.YtdddmjdlikjedaaGreat

/-
  Snapshot, where it is not refused. No conditions but that the set is one that calls can make.
-/
namespace Go.Proofs.YtdddmjdlikjedaaGreat
open Go.ChangeShapes Go.WideShapes Go.ChangeAt Go.RowKit

def snapB (M : Mod) (i : Int) (o : Ob) (N : Nat) : Mod := { addM M (newOb (64 * N) i.toNat 0 0) with O := updI (addM M (newOb (64 * N) i.toNat 0 0)).O i (some (kid o)) }
def snapP (M : Mod) (o : Ob) (T N : Nat) : PL := shAll o.pgs T ⟨M.L, fun _ => none, 0⟩ N
def snapM (M : Mod) (i : Int) (o : Ob) (T N : Nat) : Mod := setM (snapB M i o N) ((M.made : Int) + 1) (newOb (64 * N) i.toNat 0 0) (snapP M o T N)

section
variable {w : World} {s : Nat} {r : Rep} {M : Mod}
end
end Go.Proofs.YtdddmjdlikjedaaGreat

/-
  What a snapshot keeps, and what stands in it. No walk, no conditions.
-/
namespace Go.Proofs.YtdddmjdlikjedaaGreat
open Go.ChangeShapes Go.WideShapes Go.ChangeAt Go.RowKit

theorem usedN_share {L : List Pg} {f : Int} (hu : usersL L f ≠ 0) : roomN (shareL L f) = roomN L := by
  obtain ⟨r1, r2, r3⟩ := users_range hu
  have hn : L[f.toNat]? = some L[f.toNat] := List.getElem?_eq_getElem r2
  have e : usersL L f = L[f.toNat].users := by
    unfold usersL pgAt
    rw [if_pos (by omega), List.getD_eq_getElem?_getD, hn]; rfl
  have hne : L[f.toNat].users ≠ 0 := by rw [← e]; exact hu
  have h := used_set L f.toNat ⟨usersL L f + 1, (pgAt L f).bytes⟩ _ hn
  rw [if_pos hne, if_pos (by simp)] at h
  unfold roomN shareL
  rw [if_neg hu]
  have hl : (L.set f.toNat ⟨usersL L f + 1, (pgAt L f).bytes⟩).length = L.length := List.length_set
  rw [hl]
  omega
def famS (M : Mod) (j : Int) (g : Int → Option Int) : Key → Option Int := fun k => if k.1 = j then g k.2 else famOf M.O k
structure ShI (M : Mod) (j : Int) (pg : Int → Option Int) (T : Nat) (n : Nat) (S : PL) : Prop where
  good : Good S.L (famS M j S.g)
  pgs : ∀ q, S.g q = if 0 ≤ q ∧ q < (n : Int) then pg ((T : Int) + q) else none
  bytes : ∀ g, (pgAt S.L g).bytes = (pgAt M.L g).bytes
  room : roomN S.L = roomN M.L
  cnt : S.c ≤ n
theorem sh_all {M : Mod} {i j : Int} {o : Ob} (h : Good M.L (famOf M.O)) (hO : M.O i = some o) (hij : i ≠ j) (hj : M.O j = none) (T : Nat) : ∀ n, ShI M j o.pgs T n (shAll o.pgs T ⟨M.L, fun _ => none, 0⟩ n) := by
  intro n
  induction n with
  | zero =>
    refine ⟨h.congr (fun k => ?_), fun q => ?_, fun _ => rfl, rfl, Nat.le_refl _⟩
    · unfold famS
      by_cases e : k.1 = j
      · rw [if_pos e]; unfold famOf; rw [e, hj]; rfl
      · rw [if_neg e]
    · rw [if_neg (by omega)]; rfl
  | succ n ih =>
    show ShI M j o.pgs T (n + 1) (shStep o.pgs T (shAll o.pgs T ⟨M.L, fun _ => none, 0⟩ n) n)
    generalize shAll o.pgs T ⟨M.L, fun _ => none, 0⟩ n = S at *
    cases hg : o.pgs ((T : Int) + (n : Int)) with
    | none =>
      rw [shStep_none hg]
      refine ⟨ih.good, fun q => ?_, ih.bytes, ih.room, Nat.le_succ_of_le ih.cnt⟩
      rw [ih.pgs]
      by_cases e : q = (n : Int)
      · subst e
        rw [if_neg (by omega), if_pos (by omega), hg]
      · by_cases e2 : 0 ≤ q ∧ q < (n : Int)
        · rw [if_pos e2, if_pos (by omega)]
        · rw [if_neg e2, if_neg (by omega)]
    | some f =>
      rw [shStep_some hg]
      have hk : famS M j S.g (i, (T : Int) + (n : Int)) = some f := by
        unfold famS
        rw [if_neg hij, fam_at hO, hg]
      have hn0 : S.g (n : Int) = none := by rw [ih.pgs, if_neg (by omega)]
      have hk' : famS M j S.g (j, (n : Int)) = none := by
        unfold famS
        rw [if_pos rfl]; exact hn0
      have hu := ih.good.pos hk
      refine ⟨(ih.good.share hk hk').congr (fun k => ?_), fun q => ?_, fun g => ?_, ?_, ?_⟩
      · show (if k.1 = j then updI S.g (n : Int) (some f) k.2 else famOf M.O k) = (if k = (j, (n : Int)) then some f else if k.1 = j then S.g k.2 else famOf M.O k)
        unfold updI
        by_cases e : k = (j, (n : Int))
        · subst e
          rw [if_pos rfl, if_pos rfl, if_pos rfl]
        · rw [if_neg e]
          by_cases e2 : k.1 = j
          · rw [if_pos e2, if_pos e2, if_neg (fun h => e (Prod.ext e2 h))]
          · rw [if_neg e2, if_neg e2]
      · show updI S.g (n : Int) (some f) q = _
        unfold updI
        by_cases e : q = (n : Int)
        · subst e
          rw [if_pos rfl, if_pos (by omega), hg]
        · rw [if_neg e, ih.pgs]
          by_cases e2 : 0 ≤ q ∧ q < (n : Int)
          · rw [if_pos e2, if_pos (by omega)]
          · rw [if_neg e2, if_neg (by omega)]
      · show (pgAt (shareL S.L f) g).bytes = _
        rw [share_bytes, ih.bytes]
      · show roomN (shareL S.L f) = _
        rw [usedN_share hu, ih.room]
      · show (if (S.g (n : Int)).isSome then S.c else S.c + 1) ≤ n + 1
        have := ih.cnt
        split <;> omega

theorem Chain.add {O : Int → Option Ob} (h : Chain O) {j : Int} {x : Ob} (hj : O j = none) (hs : x.size ≤ 4294967296 ∧ x.frm ≤ 4294967296 ∧ x.depth ≤ 16) (hu : 0 < x.depth → ∃ q, O (x.par : Int) = some q ∧ q.depth + 1 = x.depth) (hp : 0 < x.depth → x.pgs = fun _ => none) : Chain (updI O j (some x)) := by
  have keep : ∀ k q, O k = some q → updI O j (some x) k = some q := fun k q hk => by
    unfold updI
    rw [if_neg (fun e => by rw [e, hj] at hk; cases hk)]
    exact hk
  refine ⟨fun k y hy hd => ?_, fun k y hy => ?_, fun k y hy hd => ?_⟩
  all_goals
    unfold updI at hy
    by_cases e : k = j
    · rw [if_pos e] at hy
      cases hy
      first
        | (obtain ⟨q, h1, h2⟩ := hu hd; exact ⟨q, keep _ _ h1, h2⟩)
        | exact hs
        | exact hp hd
    · rw [if_neg e] at hy
      first
        | (obtain ⟨q, h1, h2⟩ := h.up k y hy hd; exact ⟨q, keep _ _ h1, h2⟩)
        | exact h.small k y hy
        | exact h.pgs k y hy hd
theorem Ub.few {L : List Pg} {n : Nat} (h : Ub L n) (hn : n < 4611686018427387904) : Few L := fun p hp => by
  obtain ⟨k, hk, rfl⟩ := List.getElem_of_mem hp
  have h2 := h k
  unfold usersL at h2
  rw [pgAt_nat, List.getD_eq_getElem?_getD, List.getElem?_eq_getElem hk] at h2
  have h3 : L[k].users ≤ n := h2
  omega
def snapO (M : Mod) (i : Int) (o : Ob) (T N : Nat) : Ob := { newOb (64 * N) i.toNat 0 0 with pgs := (snapP M o T N).g, cnt := (snapP M o T N).c }
structure SnI (M : Mod) (i : Int) (o : Ob) (T N : Nat) : Prop where
  inv : Inv8 (snapM M i o T N)
  ob : ∀ k, (snapM M i o T N).O k = if k = (M.made : Int) + 1 then some (snapO M i o T N) else if k = i then some (kid o) else M.O k
  flat : ∀ g x, fl (snapM M i o T N).L g x = fl M.L g x
  child : ∀ x, x < 64 * N → fl (snapM M i o T N).L (snapO M i o T N).pgs x = fl M.L o.pgs (64 * T + x)
  room : roomN (snapM M i o T N).L = roomN M.L
  cnt : (snapO M i o T N).cnt ≤ N
theorem snap_inv {M : Mod} {i : Int} {o : Ob} (h : Inv8 M) (hO : M.O i = some o) (hd : o.depth = 0) (hj : M.O ((M.made : Int) + 1) = none) (T N U : Nat) (hN : N ≤ 64) (hub : Ub (snapP M o T N).L U) (hU : U < 4611686018427387904) : SnI M i o T N := by
  have hij : i ≠ (M.made : Int) + 1 := fun e => by rw [e, hj] at hO; cases hO
  have sh : ShI M ((M.made : Int) + 1) o.pgs T N (snapP M o T N) := sh_all h.good hO hij hj T N
  have eO : ∀ k, (snapM M i o T N).O k = if k = (M.made : Int) + 1 then some (snapO M i o T N) else if k = i then some (kid o) else M.O k := fun k => by
    show updI (updI (updI M.O _ _) i _) _ _ k = _
    unfold updI
    by_cases e : k = (M.made : Int) + 1
    · rw [if_pos e, if_pos e]; rfl
    · rw [if_neg e, if_neg e, if_neg e]
  have eF : (snapM M i o T N).O = updI (updI M.O ((M.made : Int) + 1) (some (snapO M i o T N))) i (some (kid o)) := by
    funext k
    rw [eO]
    unfold updI
    by_cases e : k = (M.made : Int) + 1
    · rw [if_pos e, if_neg (fun e2 : k = i => hij (by rw [← e2, e])), if_pos e]
    · rw [if_neg e, if_neg e]
  have efl : ∀ g x, fl (snapM M i o T N).L g x = fl M.L g x := fun g x => by
    unfold fl cont
    show (match g ((x / 64 : Nat) : Int) with | none => blank | some f => (pgAt (snapP M o T N).L f).bytes).getD _ 0 = _
    cases g ((x / 64 : Nat) : Int) with
    | none => rfl
    | some f => simp only; rw [sh.bytes]
  refine ⟨⟨?_, ?_, hub.few hU⟩, eO, efl, fun x hx => ?_, sh.room, sh.cnt⟩
  · refine sh.good.congr (fun k => ?_)
    unfold famS famOf
    rw [eO]
    by_cases e : k.1 = (M.made : Int) + 1
    · rw [if_pos e, if_pos e]; rfl
    · rw [if_neg e, if_neg e]
      by_cases e2 : k.1 = i
      · rw [if_pos e2, e2, hO]; rfl
      · rw [if_neg e2]
  · rw [eF]
    exact (h.chain.add hj (by refine ⟨?_, ?_, ?_⟩ <;> (show _ ≤ _; unfold snapO newOb; simp; try omega)) (fun h => by exact absurd h (Nat.lt_irrefl 0)) (fun h => by exact absurd h (Nat.lt_irrefl 0))).upd (i := i) (o := o) (by unfold updI; rw [if_neg hij]; exact hO) rfl rfl rfl rfl (fun h => by have : 0 < o.depth := h; omega)
  · rw [efl]
    unfold fl
    show (cont M.L ((snapP M o T N).g _)).getD _ 0 = _
    rw [sh.pgs, if_pos (by omega), show (64 * T + x) / 64 = T + x / 64 by omega, show (64 * T + x) % 64 = x % 64 by omega]
    rfl
end Go.Proofs.YtdddmjdlikjedaaGreat

/-
  The tree of objects: parents, children, counts; what calls keep of it. No walk, no conditions.
-/
namespace Go.Proofs.YtdddmjdlikjedaaGreat
open Go.ChangeShapes Go.WideShapes Go.ChangeAt Go.RowKit

def cntI (f : Int → Bool) : Nat → Nat
  | 0 => 0
  | n + 1 => cntI f n + (if f ((n : Int) + 1) then 1 else 0)
theorem cntI_congr {f g : Int → Bool} (n : Nat) (h : ∀ j, 1 ≤ j → j ≤ (n : Int) → f j = g j) : cntI f n = cntI g n := by
  induction n with
  | zero => rfl
  | succ n ih =>
    unfold cntI
    rw [ih (fun j h1 h2 => h j h1 (by omega)), h ((n : Int) + 1) (by omega) (by omega)]
theorem cntI_upd {f g : Int → Bool} (n : Nat) (i : Int) (h1 : 1 ≤ i) (h2 : i ≤ (n : Int)) (h : ∀ j, j ≠ i → f j = g j) : cntI g n + (if f i then 1 else 0) = cntI f n + (if g i then 1 else 0) := by
  induction n with
  | zero => omega
  | succ n ih =>
    unfold cntI
    by_cases e : i = (n : Int) + 1
    · subst e
      rw [cntI_congr (f := f) (g := g) n (fun j _ hj => h j (by omega))]
      omega
    · have := ih (by omega)
      rw [h ((n : Int) + 1) (fun e2 => e e2.symm)]
      omega
theorem cntI_pos {f : Int → Bool} (n : Nat) (i : Int) (h1 : 1 ≤ i) (h2 : i ≤ (n : Int)) (h : f i = true) : 1 ≤ cntI f n := by
  induction n with
  | zero => omega
  | succ n ih =>
    unfold cntI
    by_cases e : i = (n : Int) + 1
    · subst e; rw [if_pos h]; omega
    · have := ih (by omega); omega
theorem cntI_le (f : Int → Bool) (n : Nat) : cntI f n ≤ n := by
  induction n with
  | zero => exact Nat.le_refl _
  | succ n ih => unfold cntI; split <;> omega
theorem cntI_ex {f : Int → Bool} (n : Nat) (h : 1 ≤ cntI f n) : ∃ i, 1 ≤ i ∧ i ≤ (n : Int) ∧ f i = true := by
  induction n with
  | zero => exact absurd h (by unfold cntI; omega)
  | succ n ih =>
    unfold cntI at h
    by_cases e : f ((n : Int) + 1) = true
    · exact ⟨_, by omega, by omega, e⟩
    · rw [if_neg e] at h
      obtain ⟨i, h1, h2, h3⟩ := ih (by omega)
      exact ⟨i, h1, by omega, h3⟩

def isL (O : Int → Option Ob) (j : Int) : Bool := (O j).isSome
def isK (O : Int → Option Ob) (i j : Int) : Bool := match O j with | none => false | some q => decide ((q.par : Int) = i)
def isS (O : Int → Option Ob) (i j : Int) : Bool := match O j with | none => false | some q => decide ((q.par : Int) = i) && decide (0 < q.depth)
structure Tree (M : Mod) : Prop where
  ids : ∀ i o, M.O i = some o → 1 ≤ i ∧ i ≤ (M.made : Int)
  par : ∀ i o, M.O i = some o → (o.par : Int) < i ∧ (o.par = 0 ∨ ∃ q, M.O (o.par : Int) = some q)
  kids : ∀ i o, M.O i = some o → o.kids = cntI (isK M.O i) M.made
  slc : ∀ i o, M.O i = some o → o.slc = cntI (isS M.O i) M.made
  live : M.live = cntI (isL M.O) M.made
  neg : ∀ i o q, M.O i = some o → q < 0 → o.pgs q = none
theorem Tree.zero {M : Mod} (h : Tree M) : M.O 0 = none := by
  cases hO : M.O 0 with
  | none => rfl
  | some o => have := h.ids 0 o hO; omega
/-- What end wants of an object's parent. -/
theorem Tree.up {M : Mod} (h : Tree M) {i : Int} {o q : Ob} (hO : M.O i = some o) (hq : M.O (o.par : Int) = some q) : 1 ≤ q.kids ∧ q.kids ≤ M.made ∧ (0 < o.depth → 1 ≤ q.slc) ∧ q.slc ≤ M.made := by
  obtain ⟨i1, i2⟩ := h.ids i o hO
  refine ⟨?_, ?_, fun hd => ?_, ?_⟩
  · rw [h.kids _ _ hq]
    exact cntI_pos _ i i1 i2 (by unfold isK; rw [hO]; simp)
  · rw [h.kids _ _ hq]; exact cntI_le _ _
  · rw [h.slc _ _ hq]
    exact cntI_pos _ i i1 i2 (by unfold isS; rw [hO]; simp [hd])
  · rw [h.slc _ _ hq]; exact cntI_le _ _
/-- An object that has become another one at the same place of the tree. -/
theorem Tree.same {M M' : Mod} (h : Tree M) {i : Int} {o o' : Ob} (hO : M.O i = some o) (hM : M'.O = updI M.O i (some o')) (hm : M'.made = M.made) (hl : M'.live = M.live) (h1 : o'.par = o.par) (h2 : o'.depth = o.depth) (h3 : o'.kids = o.kids) (h4 : o'.slc = o.slc) (h5 : ∀ q, q < 0 → o'.pgs q = none) : Tree M' := by
  have hat : ∀ j x, M'.O j = some x → ∃ y, M.O j = some y ∧ x.par = y.par ∧ x.depth = y.depth ∧ x.kids = y.kids ∧ x.slc = y.slc ∧ (∀ q, q < 0 → y.pgs q = none → x.pgs q = none) := fun j x hx => by
    rw [hM] at hx
    unfold updI at hx
    by_cases e : j = i
    · subst e
      rw [if_pos rfl] at hx
      cases hx
      exact ⟨o, hO, h1, h2, h3, h4, fun q hq _ => h5 q hq⟩
    · rw [if_neg e] at hx
      exact ⟨x, hx, rfl, rfl, rfl, rfl, fun _ _ h => h⟩
  have hK : ∀ p j, isK M'.O p j = isK M.O p j := fun p j => by
    rw [hM]
    unfold isK updI
    by_cases e : j = i
    · subst e; rw [if_pos rfl, hO]; simp only [h1]
    · rw [if_neg e]
  have hS : ∀ p j, isS M'.O p j = isS M.O p j := fun p j => by
    rw [hM]
    unfold isS updI
    by_cases e : j = i
    · subst e; rw [if_pos rfl, hO]; simp only [h1, h2]
    · rw [if_neg e]
  have hL : ∀ j, isL M'.O j = isL M.O j := fun j => by
    rw [hM]
    unfold isL updI
    by_cases e : j = i
    · subst e; rw [if_pos rfl, hO]; rfl
    · rw [if_neg e]
  refine ⟨fun j x hx => ?_, fun j x hx => ?_, fun j x hx => ?_, fun j x hx => ?_, ?_, fun j x q hx hq => ?_⟩
  · obtain ⟨y, k0, k1, k2, k3, k4, k5⟩ := hat j x hx
    rw [hm]; exact h.ids j y k0
  · obtain ⟨y, k0, k1, k2, k3, k4, k5⟩ := hat j x hx
    obtain ⟨p1, p2⟩ := h.par j y k0
    rw [k1]
    refine ⟨p1, p2.imp id (fun ⟨z, hz⟩ => ?_)⟩
    rw [hM]
    unfold updI
    split
    · exact ⟨_, rfl⟩
    · exact ⟨z, hz⟩
  · obtain ⟨y, k0, k1, k2, k3, k4, k5⟩ := hat j x hx
    rw [k3, h.kids j y k0, hm]
    exact (cntI_congr _ (fun k _ _ => hK j k)).symm
  · obtain ⟨y, k0, k1, k2, k3, k4, k5⟩ := hat j x hx
    rw [k4, h.slc j y k0, hm]
    exact (cntI_congr _ (fun k _ _ => hS j k)).symm
  · rw [hl, h.live, hm]
    exact (cntI_congr _ (fun k _ _ => hL k)).symm
  · obtain ⟨y, k0, k1, k2, k3, k4, k5⟩ := hat j x hx
    exact k5 q hq (h.neg j y q k0 hq)
/-- What end makes of the objects. -/
theorem endM_O {M : Mod} {i : Int} {o : Ob} {S : PL} (hne : (o.par : Int) ≠ i) (j : Int) : (endM M i o S).O j = if j = i then none else if j = (o.par : Int) then (M.O j).map (fun q => lose q o.depth) else M.O j := by
  unfold endM
  cases hM : M.O (o.par : Int) with
  | none =>
    show updI (updI M.O i _) i none j = _
    unfold updI
    by_cases e : j = i
    · rw [if_pos e, if_pos e]
    · rw [if_neg e, if_neg e, if_neg e]
      by_cases e2 : j = (o.par : Int)
      · rw [if_pos e2, e2, hM]; rfl
      · rw [if_neg e2]
  | some q =>
    show updI (updI (updI M.O i _) i none) _ _ j = _
    unfold updI
    by_cases e2 : j = (o.par : Int)
    · rw [if_pos e2, if_neg (fun e => hne (by rw [← e2, e])), if_pos e2, e2, hM]; rfl
    · rw [if_neg e2]
      by_cases e : j = i
      · rw [if_pos e, if_pos e]
      · rw [if_neg e, if_neg e, if_neg e, if_neg e2]
theorem endM_rest (M : Mod) (i : Int) (o : Ob) (S : PL) : (endM M i o S).made = M.made ∧ (endM M i o S).live = M.live - 1 ∧ (endM M i o S).L = S.L ∧ (endM M i o S).most = M.most := by
  unfold endM
  split <;> exact ⟨rfl, rfl, rfl, rfl⟩
theorem Tree.ended {M M' : Mod} (h : Tree M) {i : Int} {o : Ob} (hO : M.O i = some o) (hk : o.kids = 0) (hM : ∀ j, M'.O j = if j = i then none else if j = (o.par : Int) then (M.O j).map (fun q => lose q o.depth) else M.O j) (hm : M'.made = M.made) (hl : M'.live = M.live - 1) : Tree M' ∧ 1 ≤ M.live := by
  obtain ⟨i1, i2⟩ := h.ids i o hO
  have hat : ∀ j x, M'.O j = some x → j ≠ i ∧ ∃ y, M.O j = some y ∧ x = if j = (o.par : Int) then lose y o.depth else y := fun j x hx => by
    rw [hM] at hx
    by_cases e : j = i
    · rw [if_pos e] at hx; cases hx
    · rw [if_neg e] at hx
      refine ⟨e, ?_⟩
      by_cases e2 : j = (o.par : Int)
      · rw [if_pos e2] at hx
        cases hy : M.O j with
        | none => rw [hy] at hx; cases hx
        | some y => rw [hy] at hx; cases hx; exact ⟨y, rfl, by rw [if_pos e2]⟩
      · rw [if_neg e2] at hx
        exact ⟨x, hx, by rw [if_neg e2]⟩
  have hsame : ∀ j x y, x = (if j = (o.par : Int) then lose y o.depth else y) → x.par = y.par ∧ x.depth = y.depth ∧ x.pgs = y.pgs := fun j x y e => by
    subst e
    split <;> exact ⟨rfl, rfl, rfl⟩
  have hnk : ∀ j y, M.O j = some y → (y.par : Int) ≠ i := fun j y hy e => by
    have := h.ids j y hy
    have h1 := cntI_pos (f := isK M.O i) M.made j this.1 this.2 (by unfold isK; rw [hy]; simp [e])
    rw [← h.kids i o hO] at h1
    omega
  have hK : ∀ p j, j ≠ i → isK M.O p j = isK M'.O p j := fun p j e => by
    unfold isK
    rw [hM, if_neg e]
    by_cases e2 : j = (o.par : Int)
    · rw [if_pos e2]; cases M.O j <;> rfl
    · rw [if_neg e2]
  have hS : ∀ p j, j ≠ i → isS M.O p j = isS M'.O p j := fun p j e => by
    unfold isS
    rw [hM, if_neg e]
    by_cases e2 : j = (o.par : Int)
    · rw [if_pos e2]; cases M.O j <;> rfl
    · rw [if_neg e2]
  have hL : ∀ j, j ≠ i → isL M.O j = isL M'.O j := fun j e => by
    unfold isL
    rw [hM, if_neg e]
    by_cases e2 : j = (o.par : Int)
    · rw [if_pos e2]; cases M.O j <;> rfl
    · rw [if_neg e2]
  have hi0 : M'.O i = none := by rw [hM, if_pos rfl]
  have cK := fun p => cntI_upd (f := isK M.O p) (g := isK M'.O p) M.made i i1 i2 (hK p)
  have cS := fun p => cntI_upd (f := isS M.O p) (g := isS M'.O p) M.made i i1 i2 (hS p)
  have cL := cntI_upd (f := isL M.O) (g := isL M'.O) M.made i i1 i2 hL
  have eL : isL M.O i = true := by unfold isL; rw [hO]; rfl
  have eL' : isL M'.O i = false := by unfold isL; rw [hi0]; rfl
  rw [eL, eL'] at cL
  simp only [if_true, Bool.false_eq_true, if_false] at cL
  have hlive := h.live
  refine ⟨⟨fun j x hx => ?_, fun j x hx => ?_, fun j x hx => ?_, fun j x hx => ?_, ?_, fun j x q hx hq => ?_⟩, by omega⟩
  · obtain ⟨e, y, hy, -⟩ := hat j x hx
    rw [hm]; exact h.ids j y hy
  · obtain ⟨e, y, hy, hxy⟩ := hat j x hx
    obtain ⟨s1, s2, s3⟩ := hsame j x y hxy
    obtain ⟨p1, p2⟩ := h.par j y hy
    rw [s1]
    refine ⟨p1, p2.imp id (fun ⟨z, hz⟩ => ?_)⟩
    rw [hM, if_neg (hnk j y hy), hz]
    split <;> exact ⟨_, rfl⟩
  · obtain ⟨e, y, hy, hxy⟩ := hat j x hx
    have c := cK j
    have e1 : isK M.O j i = decide ((o.par : Int) = j) := by unfold isK; rw [hO]
    have e2 : isK M'.O j i = false := by unfold isK; rw [hi0]
    rw [e1, e2] at c
    have hy2 := h.kids j y hy
    rw [hm, hxy]
    by_cases e3 : j = (o.par : Int)
    · rw [if_pos e3]
      rw [decide_eq_true e3.symm] at c
      simp only [if_true, Bool.false_eq_true, if_false] at c
      show y.kids - 1 = _
      omega
    · rw [if_neg e3]
      rw [decide_eq_false (fun e => e3 e.symm)] at c
      simp only [Bool.false_eq_true, if_false] at c
      omega
  · obtain ⟨e, y, hy, hxy⟩ := hat j x hx
    have c := cS j
    have e1 : isS M.O j i = (decide ((o.par : Int) = j) && decide (0 < o.depth)) := by unfold isS; rw [hO]
    have e2 : isS M'.O j i = false := by unfold isS; rw [hi0]
    rw [e1, e2] at c
    have hy2 := h.slc j y hy
    rw [hm, hxy]
    by_cases e3 : j = (o.par : Int)
    · rw [if_pos e3]
      rw [decide_eq_true e3.symm] at c
      by_cases hd : 0 < o.depth
      · rw [decide_eq_true hd] at c
        simp only [Bool.and_self, if_true, Bool.false_eq_true, if_false] at c
        show (if 0 < o.depth then y.slc - 1 else y.slc) = _
        rw [if_pos hd]
        omega
      · rw [decide_eq_false hd] at c
        simp only [Bool.and_false, Bool.false_eq_true, if_false] at c
        show (if 0 < o.depth then y.slc - 1 else y.slc) = _
        rw [if_neg hd]
        omega
    · rw [if_neg e3]
      rw [decide_eq_false (fun e => e3 e.symm)] at c
      simp only [Bool.false_and, Bool.false_eq_true, if_false] at c
      omega
  · rw [hl, hm]; omega
  · obtain ⟨e, y, hy, hxy⟩ := hat j x hx
    obtain ⟨s1, s2, s3⟩ := hsame j x y hxy
    rw [s3]; exact h.neg j y q hy hq
end Go.Proofs.YtdddmjdlikjedaaGreat

/-
  Drop: the objects that end by it. No conditions but that the set is one that calls can make.
-/
namespace Go.Proofs.YtdddmjdlikjedaaGreat
open Go.ChangeShapes Go.WideShapes Go.ChangeAt Go.RowKit

theorem intsUnder : Tryz.prog.underlying 31 = some (.slice 3) := by kernel_rfl
/-- It was dropped, or it has ended. -/
def Dr (M : Mod) (j : Int) : Prop := ∀ o, M.O j = some o → o.drp = true
def dropM (M : Mod) (i : Int) (o : Ob) : Mod := { M with O := updI M.O i (some { o with drp := true }) }
theorem Inv8.ended {M : Mod} (h : Inv8 M) (t : Tree M) (hF : Full M.L) {i : Int} {o : Ob} (hO : M.O i = some o) (hk : o.kids = 0) {S' : PL} {ks : List Int} (h1 : S' = ks.foldl rel1 ⟨M.L, o.pgs, o.cnt⟩) (h2 : ∀ q, 0 ≤ q → S'.g q = none) (h3 : ∀ q, S'.g q = if q ∈ ks then none else o.pgs q) (h4 : Few S'.L) : Inv8 (endM M i o S') := by
  obtain ⟨A', rr⟩ := relo_fold (i := i) ks ⟨M.L, o.pgs, o.cnt⟩ (famOf M.O) h.good hF (fun q => (fam_at hO q).symm)
  rw [← h1] at rr
  have hne : (o.par : Int) ≠ i := by have := (t.par i o hO).1; omega
  have eO := endM_O (M := M) (S := S') hne
  have eL := (endM_rest M i o S').2.2.1
  have hall : ∀ q, S'.g q = none := fun q => by
    by_cases e : 0 ≤ q
    · exact h2 q e
    · rw [h3]
      split
      · rfl
      · exact t.neg i o q hO (by omega)
  have hnk : ∀ j y, M.O j = some y → (y.par : Int) ≠ i := fun j y hy e => by
    have := t.ids j y hy
    have h1 := cntI_pos (f := isK M.O i) M.made j this.1 this.2 (by unfold isK; rw [hy]; simp [e])
    rw [← t.kids i o hO] at h1
    omega
  have hat : ∀ j x, (endM M i o S').O j = some x → ∃ y, M.O j = some y ∧ x.par = y.par ∧ x.depth = y.depth ∧ x.pgs = y.pgs ∧ x.size = y.size ∧ x.frm = y.frm := fun j x hx => by
    rw [eO] at hx
    by_cases e : j = i
    · rw [if_pos e] at hx; cases hx
    · rw [if_neg e] at hx
      by_cases e2 : j = (o.par : Int)
      · rw [if_pos e2] at hx
        cases hy : M.O j with
        | none => rw [hy] at hx; cases hx
        | some y => rw [hy] at hx; cases hx; exact ⟨y, rfl, rfl, rfl, rfl, rfl, rfl⟩
      · rw [if_neg e2] at hx
        exact ⟨x, hx, rfl, rfl, rfl, rfl, rfl⟩
  refine ⟨?_, ⟨fun j x hx hd => ?_, fun j x hx => ?_, fun j x hx hd => ?_⟩, by rw [eL]; exact h4⟩
  · rw [eL]
    refine rr.good.congr (fun k => ?_)
    unfold famOf
    rw [eO]
    by_cases e : k.1 = i
    · rw [if_pos e]
      have := rr.fam k.2
      rw [hall, ← e] at this
      exact this
    · rw [if_neg e, rr.other k e]
      by_cases e2 : k.1 = (o.par : Int)
      · rw [if_pos e2]
        unfold famOf
        cases M.O k.1 <;> rfl
      · rw [if_neg e2]; rfl
  · obtain ⟨y, hy, a1, a2, -, -, -⟩ := hat j x hx
    rw [a2] at hd
    obtain ⟨q, hq, hqd⟩ := h.chain.up j y hy hd
    rw [a1, a2]
    rw [eO, if_neg (hnk j y hy), hq]
    split
    · exact ⟨_, rfl, hqd⟩
    · exact ⟨_, rfl, hqd⟩
  · obtain ⟨y, hy, a1, a2, a3, a4, a5⟩ := hat j x hx
    rw [a2, a4, a5]
    exact h.chain.small j y hy
  · obtain ⟨y, hy, a1, a2, a3, a4, a5⟩ := hat j x hx
    rw [a3]
    rw [a2] at hd
    exact h.chain.pgs j y hy hd

theorem len_rel (L : List Pg) (f : Int) : (relL L f).length = L.length := by
  unfold relL
  split
  · rfl
  · split <;> simp
theorem len_relAll (ks : List Int) : ∀ S : PL, (ks.foldl rel1 S).L.length = S.L.length := by
  induction ks with
  | nil => intro S; rfl
  | cons k ks ih =>
    intro S
    rw [List.foldl_cons, ih]
    unfold rel1
    split
    · rfl
    · exact len_rel _ _
/-- What the loop of Drop holds; c is the object that may end next. -/
structure DropI (w wr : World) (s : Nat) (r : Rep) (M1 : Mod) (rr : Rep) (M : Mod) (c : Int) (v : Value) (l : List Int) : Prop where
  mem : SMem wr s rr M
  next : VNext w s r wr rr
  inv : Inv8 M
  tree : Tree M
  dead : ∀ j o, M.O j = some o → o.drp = true → j ≠ c → 0 < o.kids
  made : M.made = M1.made
  most : M.most = M1.most
  live : M.live + l.length = M1.live
  gone : ∀ k ∈ l, M.O k = none
  drs : ∀ j, Dr M1 j → Dr M j
  ints : Ints v l wr
  apart : ∀ j, Blk v j → ¬ SFoot s rr j
  fresh : ∀ j, Blk v j → w.heap.size ≤ j
  rng : ∀ k ∈ l, 1 ≤ k ∧ k ≤ (M1.made : Int)
  len : M.L.length = M1.L.length
section
variable {w wr w5 wx w6 : World} {s : Nat} {r rr r5 : Rep} {M M1 : Mod} {c : Int} {v : Value} {l : List Int}
theorem DropI.past (h : DropI w wr s r M1 rr M c v l) (t : Turn NoBlock wr w5) : DropI w w5 s r M1 rr M c v l :=
  ⟨h.mem.past t, h.next.past t, h.inv, h.tree, h.dead, h.made, h.most, h.live, h.gone, h.drs, h.ints.past t, h.apart, h.fresh, h.rng, h.len⟩
theorem DropI.step (h : DropI w wr s r M1 rr M c v l) {o : Ob} {a : Nat} {S' : PL} {ks : List Int} (hO : M.O c = some o) (hA : rr.A c = some a) (hk : o.kids = 0) (E : Ended wr w5 s rr M c o a r5 S' ks) (ob : Obj) {n g cap : Nat} (hn : l.length = n)
    (hown : w6.ownsRow 0 3 1 (.slice (some ⟨g, 0, none⟩) (n + 1) cap) (n + 1) (l.map (Value.int .i64) ++ [.int .i64 c])) (hgrow : (w5.alloc ob).grownBy w6 v.ownBlock) (hat : v.ownBlock = some g ∨ g = w5.heap.size + 1) :
    DropI w w6 s r M1 r5 (endM M c o S') (o.par : Int) (.slice (some ⟨g, 0, none⟩) (n + 1) cap) (l ++ [c]) ∧ w6.cell? ⟨a, 1, none⟩ = some (.int .i64 (o.par : Int)) := by
  obtain ⟨p1, p2, p3⟩ := ints_push (w := w5) hn hown hgrow hat
  have hne : (o.par : Int) ≠ c := by have := (h.tree.par c o hO).1; omega
  have eO := endM_O (M := M) (S := S') hne
  obtain ⟨e1, e2, e3, e4⟩ := endM_rest M c o S'
  obtain ⟨t1, t2⟩ := h.tree.ended hO hk eO e1 e2
  have hv5 : ∀ j, Blk v j → ¬ SFoot s r5 j := fun j hj hF => by
    rcases E.next.foot j hF with e | e
    · exact h.apart j hj e
    · obtain ⟨cur, hb⟩ := own_block (w := wr) h.ints hj
      have := lt_of_block hb
      omega
  have m6 : SMem w6 s r5 (endM M c o S') := E.mem.kept p2 (fun k hk hb => hv5 k hb hk)
  refine ⟨⟨m6, ?_, h.inv.ended h.tree (full_pool h.mem.pool) hO hk E.eq E.gone E.keep E.few, t1, fun j x hx hd hj => ?_, by rw [e1, h.made], by rw [e4, h.most], ?_, fun k hk2 => ?_, fun j hj x hx => ?_, p1, fun j hj hF => ?_, fun j hj => ?_, fun k hk2 => ?_, by rw [e3, E.eq, len_relAll]; exact h.len⟩, ?_⟩
  · have nx := h.next.trans E.next
    exact ⟨nx.turn.trans p2 (fun j hj => .inr (h.fresh j hj)), fun j hj => nx.foot j hj⟩
  · rw [eO] at hx
    by_cases e : j = c
    · rw [if_pos e] at hx; cases hx
    · rw [if_neg e, if_neg hj] at hx
      exact h.dead j x hx hd e
  · rw [e2, List.length_append]
    have := h.live
    show M.live - 1 + (l.length + 1) = _
    omega
  · rw [eO]
    by_cases e : k = c
    · rw [if_pos e]
    · rw [if_neg e]
      have hk3 : k ∈ l := by
        rcases List.mem_append.1 hk2 with hh | hh
        · exact hh
        · exact absurd (by simpa using hh) e
      rw [h.gone k hk3]
      split <;> rfl
  · rw [eO] at hx
    by_cases e : j = c
    · rw [if_pos e] at hx; cases hx
    · rw [if_neg e] at hx
      by_cases e2 : j = (o.par : Int)
      · rw [if_pos e2] at hx
        cases hy : M.O j with
        | none => rw [hy] at hx; cases hx
        | some y =>
          rw [hy] at hx
          cases hx
          exact h.drs j hj y hy
      · rw [if_neg e2] at hx
        exact h.drs j hj x hx
  · rcases p3 j hj with e | e
    · exact hv5 j e hF
    · have := E.mem.lt hF; omega
  · rcases p3 j hj with e | e
    · exact h.fresh j e
    · exact Nat.le_trans (h.next.trans E.next).turn.size e
  · rcases List.mem_append.1 hk2 with hh | hh
    · exact h.rng k hh
    · have e : k = c := by simpa using hh
      subst e
      have := h.tree.ids k o hO
      rw [h.made] at this
      exact this
  · exact p2.cell E.par (fun hb => h.apart a hb (.inr (.inr (.inr (.inl ⟨c, hA⟩)))))
theorem Tree.fit {M : Mod} (h : Tree M) (hm : M.made < 4611686018427387904) {i : Int} {o : Ob} (hO : M.O i = some o) : Go.Proofs.YtdddmjdlikjedaaGreat.fit i ∧ Go.Proofs.YtdddmjdlikjedaaGreat.fit (o.par : Int) := by
  have h1 := h.ids i o hO
  have h2 := (h.par i o hO).1
  unfold Go.Proofs.YtdddmjdlikjedaaGreat.fit
  omega
theorem drop_start (h : SMem w s r M) (hi : Inv8 M) (ht : Tree M) (hd : ∀ j o, M.O j = some o → o.drp = true → 0 < o.kids) {i : Int} {o : Ob} {a : Nat} (hO : M.O i = some o) (hA : r.A i = some a) :
    DropI w (w.setCell ⟨a, 6, none⟩ (.bool true)) s r (dropM M i o) r (dropM M i o) i (.slice none 0 0) [] := by
  obtain ⟨a', pb, hA', hB, hcell, hpm⟩ := h.live hO
  rw [hA] at hA'
  cases hA'
  have t2 : Turn (fun k => k = a) w (w.setCell ⟨a, 6, none⟩ (.bool true)) := (Turn.refl (fun k => k = a) _).setCell (p := ⟨a, 6, none⟩) (.inl rfl) _
  refine ⟨h.setOb (o' := { o with drp := true }) hA hB t2 (fun k hk => .inl hk) (set_at hcell 6 _) (IMap.past hpm t2 (fun e => h.aB hA hB e.symm)), ⟨t2.mono (fun k hk => .inl (.inr (.inr (.inr (.inl ⟨i, by subst hk; exact hA⟩))))), fun k hk => .inl hk⟩, ⟨?_, ?_, hi.few⟩, ?_, fun j x hx hxd hj => ?_, rfl, rfl, rfl, fun k hk => (by cases hk), fun j hj => hj, ints_nil _, fun j hj => (blk_nil j hj).elim, fun j hj => (blk_nil j hj).elim, fun k hk => (by cases hk), rfl⟩
  · refine hi.good.congr (fun k => ?_)
    unfold famOf dropM updI
    by_cases e : k.1 = i
    · simp only [if_pos e]; rw [e, hO]
    · simp only [if_neg e]
  · exact hi.chain.upd hO rfl rfl rfl rfl (fun hp => hi.chain.pgs i o hO hp)
  · exact ht.same hO rfl rfl rfl rfl rfl rfl rfl (fun q hq => ht.neg i o q hO hq)
  · have hx' : updI M.O i _ j = some x := hx
    unfold updI at hx'
    rw [if_neg hj] at hx'
    exact hd j x hx' hxd

/-- What Drop leaves. -/
structure Dropped (w w' : World) (s : Nat) (r : Rep) (M : Mod) (i : Int) (r' : Rep) (M' : Mod) (v : Value) (l : List Int) : Prop where
  mem : SMem w' s r' M'
  next : VNext w s r w' r'
  inv : Inv8 M'
  tree : Tree M'
  dead : ∀ j o, M'.O j = some o → o.drp = true → 0 < o.kids
  made : M'.made = M.made
  most : M'.most = M.most
  live : M'.live + l.length = M.live
  gone : ∀ k ∈ l, M'.O k = none
  drs : ∀ j, Dr M j → Dr M' j
  dr : Dr M' i
  ints : Ints v l w'
  apart : ∀ j, Blk v j → ¬ SFoot s r' j
  fresh : ∀ j, Blk v j → w.heap.size ≤ j
  rng : ∀ k ∈ l, 1 ≤ k ∧ k ≤ (M.made : Int)
  len : M'.L.length = M.L.length
theorem DropI.done {rr : Rep} {M0 : Mod} {i : Int} {o : Ob} (h : DropI w wr s r (dropM M0 i o) rr M c v l) (_hO : M0.O i = some o) (hx : ∀ x, M.O c = some x → x.drp = true → 0 < x.kids) : Dropped w wr s r M0 i rr M v l := by
  refine ⟨h.mem, h.next, h.inv, h.tree, fun j x hj hd => ?_, h.made, h.most, h.live, h.gone, fun j hj => h.drs j (fun y hy => ?_), h.drs i (fun y hy => ?_), h.ints, h.apart, h.fresh, h.rng, h.len⟩
  · by_cases e : j = c
    · subst e; exact hx x hj hd
    · exact h.dead j x hj hd e
  · have hy' : updI M0.O i _ j = some y := hy
    unfold updI at hy'
    split at hy'
    · cases hy'; rfl
    · exact hj y hy'
  · have hy' : updI M0.O i _ i = some y := hy
    rw [updI_same] at hy'
    cases hy'; rfl

theorem drop_no (h : SMem w s r M) (i : Int) (hi : Go.Proofs.YtdddmjdlikjedaaGreat.fit i) (hn : findS M i ≠ 0) :
    Calls Tryz.prog 9 #[.pointer (some ⟨s, 0, none⟩), .int .i64 i] w fun e w' => e = .returned (.tuple #[.slice none 0 0, .int .i64 (-25)]) ∧ w = w' := by
  have c := find_no h i hi hn
  clear h hn
  go_enter Tryz.func9, Tryz.ntmps9
  go_wp2_with (go_at_call 21; (with_reducible refine c.mono ?_); rintro x w1 ⟨rfl, rfl⟩)
  go_ret2
  exact ⟨rfl, rfl⟩

set_option maxRecDepth 20000 in
set_option maxHeartbeats 4000000 in
theorem drop_yes (h : SMem w s r M) (hi : Inv8 M) (ht : Tree M) (hd : ∀ j o, M.O j = some o → o.drp = true → 0 < o.kids) (hmd : M.made < 140737488355) {i : Int} {o : Ob} (hO : M.O i = some o) (hdr : o.drp = false) :
    Calls Tryz.prog 9 #[.pointer (some ⟨s, 0, none⟩), .int .i64 i] w fun e w' => ∃ p cp l r' M', e = .returned (.tuple #[.slice p l.length cp, .int .i64 0]) ∧ Dropped w w' s r M i r' M' (.slice p l.length cp) l := by
  obtain ⟨iv, hi3, hz0, hz1, hz2⟩ := info_parts info3
  obtain ⟨a0, pb0, hA0, hB0, hcell0, hpm0⟩ := h.live hO
  have c49 := find_yes h i (ht.fit (by omega) hO).1 hO hdr hA0
  have hf6 := (ocells hcell0).f 6
  have hc6 := (ocells hcell0).c6
  have halt := lt_of_block hcell0
  have HS := Lib.hid (drop_start h hi ht hd hO hA0)
  have HO := Lib.hid hO
  have Hm := Lib.hid hmd
  have HA0 := Lib.hid hA0
  have Hlv := Lib.hid (show (dropM M i o).live ≤ M.made from by show M.live ≤ _; rw [ht.live]; exact cntI_le _ _)
  clear h hi ht hd hO hA0 hB0 hcell0 hpm0 hmd hdr
  go_enter Tryz.func9, Tryz.ntmps9
  go_wp2_with (go_at_call 21; (with_reducible refine c49.mono ?_); rintro x w1 ⟨rfl, rfl⟩)
  go_loopg [1, 4, 6] M.live (fun g s1 s4 s6 wr => ∃ (c : Int) (M' : Mod) (rr : Rep) (p : Option Addr) (cp n : Nat) (l : List Int), g = M'.live ∧ s1 = .int .i64 c ∧ s4 = .slice p n cp ∧ ((s6 = .pointer none ∧ rr.A c = none) ∨ ∃ a, s6 = .pointer (some ⟨a, 0, none⟩) ∧ rr.A c = some a) ∧
    Hid (DropI w wr s r (dropM M i o) rr M' c (.slice p n cp) l ∧ l.length = n))
  case atStart => exact ⟨i, dropM M i o, r, none, 0, 0, [], rfl, rfl, rfl, .inr ⟨a0, rfl, HA0.out⟩, HS.out, rfl⟩
  case round =>
    obtain ⟨c, M', rr, p, cp, n, l, hg, rfl, rfl, hs6, HA⟩ := hrel
    rcases hs6 with ⟨rfl, hAc⟩ | ⟨a, rfl, hAc⟩
    · have HX := Lib.hid hAc
      clear hAc
      go_wp2
      go_ret2
      obtain ⟨h1, h2⟩ := HA.out
      subst h2
      exact ⟨p, cp, l, rr, M', rfl, h1.done HO.out (fun x hx => by
        have := (h1.mem.no c HX.out).1
        rw [this] at hx; cases hx)⟩
    · obtain ⟨oc, pbc, hOc, hBc, hcell, hpm⟩ := HA.out.1.mem.ob c a hAc
      have oo := ocells hcell
      have d6 := oo.c6
      have d2 := oo.c2
      by_cases hdc : oc.drp = true ∧ oc.kids = 0
      · obtain ⟨hd1, hd2⟩ := hdc
        rw [hd1] at d6
        rw [hd2] at d2
        have T := HA.out.1.tree
        have hmade : M'.made < 140737488355 := by rw [HA.out.1.made]; exact Hm.out
        have hfit := T.fit (by omega) hOc
        have hln : n ≤ 140737488355 := by
          have h1 := HA.out.1.live
          have h2 := HA.out.2
          have h3 : (dropM M i o).live ≤ M.made := Hlv.out
          have := Hm.out
          omega
        have cE := end_any HA.out.1.mem hOc hAc HA.out.1.inv.few hfit.1 hfit.2 (by have := (T.par c oc hOc).1; omega) (fun q hq => by
          obtain ⟨u1, u2, u3, u4⟩ := T.up hOc hq
          exact ⟨u1, by omega, u3, by omega⟩)
        have q3 : n + 1 ≤ maxLen := by unfold maxLen; omega
        have q4 : (n + 1) * 8 ≤ 140737488355328 := by omega
        have HST := Lib.hid (fun (w5 w6 : World) r5 S' ks (E : Ended wr w5 s rr M' c oc a r5 S' ks) g cap hown hgrow hat => HA.out.1.step (w5 := w5) (w6 := w6) hOc hAc hd2 E (.cells #[.int .i64 c] 3) (g := g) (cap := cap) HA.out.2 hown hgrow hat)
        have HI := Lib.hid (fun (w5 : World) r5 S' ks (E : Ended wr w5 s rr M' c oc a r5 S' ks) => show (w5.alloc (.cells #[.int .i64 c] 3)).ownsRow 0 3 1 (.slice p n cp) n (l.map (Value.int .i64)) from by
          have h1 := HA.out.1.ints
          unfold Ints at h1
          rw [HA.out.2] at h1
          exact World.ownsRow.alloc (E.next.turn.own h1 (fun j hj hF => HA.out.1.apart j hj hF)) _)
        have HF := Lib.hid hfit.2
        have HLV := Lib.hid (show 1 ≤ M'.live ∧ ∀ S', (endM M' c oc S').live = M'.live - 1 from ⟨(T.ended (M' := endM M' c oc ⟨[], fun _ => none, 0⟩) hOc hd2 (endM_O (by have := (T.par c oc hOc).1; omega)) (endM_rest _ _ _ _).1 (endM_rest _ _ _ _).2.1).2, fun S' => (endM_rest _ _ _ _).2.1⟩)
        clear hAc hOc hBc hcell hpm oo hd1 hd2 T hmade hfit hln
        go_wp2_with (first
          | (go_at_call 22; (with_reducible refine cE.mono ?_); rintro x w5 ⟨rfl, r5, S5, ks5, E5⟩; have KE := Lib.hid E5; clear E5)
          | (at_builtin; refine wpList_append_lies _ rfl (.tmp 38) (.tmp 40) 31 rfl 0 3 iv _ 1 8 intsUnder hi3 hz0 hz1 hz2 rfl (by decide) (.slice p n cp) n (l.map (Value.int .i64)) rfl (HI.out _ _ _ _ KE.out) ⟨w5.heap.size, 0, none⟩ 1 1 [.int .i64 c] rfl rfl (fun j u hu => World.news_of_block (heap_alloc_new w5 _) j u (by simpa using hu)) (by simp [Value.oneCell']) (by decide) q3 q4 (Nat.zero_le _) (w5.heap.size + 1) (by simp) ?_; intro g6 c6 w6 hown hgrow hat hlt6; obtain ⟨k6, z1⟩ := HST.out _ w6 _ _ _ KE.out g6 c6 hown hgrow hat; have z3 := k6.mem.c3; have lk0 := k6.mem.omap.look (oc.par : Int) HF.out; have lkd := (k6.mem.past ((Turn.refl NoBlock w6).drew)).omap.look (oc.par : Int) HF.out; have K6 := Lib.hid k6; clear k6 hown hgrow hat hlt6))
        go_region
        all_goals
          go_wp2
          go_roundg (M'.live - 1)
          case measure => have := HLV.out.1; omega
          case rel =>
            refine ⟨(oc.par : Int), endM M' c oc S5, r5, _, c6, n + 1, l ++ [c], (HLV.out.2 _).symm, rfl, rfl, ?_, K6.out.past ((Turn.refl NoBlock w6).drew), by rw [List.length_append, HA.out.2]; rfl⟩
            cases hx : r5.A (oc.par : Int) with
            | none => exact .inl ⟨rfl, rfl⟩
            | some b => exact .inr ⟨b, rfl, rfl⟩
      · have hcs : (oc.drp = false) ∨ (oc.drp = true ∧ ((oc.kids : Int) == 0) = false) := by
          cases hdd : oc.drp with
          | false => exact .inl rfl
          | true =>
            have hk0 : oc.kids ≠ 0 := fun e => hdc ⟨(by first | exact hdd | rfl), e⟩
            exact .inr ⟨rfl, by simp; omega⟩
        have HX := Lib.hid (And.intro hOc hdc)
        clear hAc hOc hBc hcell hpm oo hdc
        have fin : ∀ (_ : True), Dropped w wr s r M i rr M' (.slice p n cp) l := fun _ => by
          refine HA.out.1.done HO.out (fun x hx hxd => ?_)
          rw [HX.out.1] at hx
          cases hx
          have := HX.out.2
          rcases Nat.eq_zero_or_pos oc.kids with e | e
          · exact absurd ⟨hxd, e⟩ this
          · exact e
        have FIN := Lib.hid fin
        clear fin
        rcases hcs with e | ⟨e, e2⟩
        · rw [e] at d6
          go_wp2
          go_ret2
          obtain ⟨h1, h2⟩ := HA.out
          subst h2
          exact ⟨p, cp, l, rr, M', rfl, FIN.out trivial⟩
        · rw [e] at d6
          go_wp2
          go_ret2
          obtain ⟨h1, h2⟩ := HA.out
          subst h2
          exact ⟨p, cp, l, rr, M', rfl, FIN.out trivial⟩
end
end Go.Proofs.YtdddmjdlikjedaaGreat

