/-
  releaseFrom: the pages from one on are released, in whatever order. No conditions but that the set is one that calls can make.
-/
import Derived.Test.YtdhbhigoboamfaaVRel
import Derived.Test.YtdhbhigoboamfaaPView
namespace Go.Proofs.Ytdhbhigoboamfaa
open Go.ChangeShapes Go.WideShapes Go.ChangeAt Go.RowKit Go.Maps

theorem ranges_turn {w w' : World} {b it n cnt : Nat} {D : DataW Unit} {left : Lit → Bool} {G : Nat → Prop} (h : w.ranges Try.prog 3 (plainElem Try.prog 3) b it n D left cnt) (t : Turn G w w') (hb : ¬ G b) (hi : ¬ G it) : w'.ranges Try.prog 3 (plainElem Try.prog 3) b it n D left cnt := by
  obtain ⟨es, clock, since, seen, c0, h1, F, hs, hD, hr, rest⟩ := h
  exact ⟨es, clock, since, seen, c0, t.heap h1 hb, F, hs, hD, t.heap hr hi, rest⟩
theorem pmap_of {w : World} {b n : Nat} {D : DataW Unit} {L : Int → Option Int} {s : Nat} (h : w.ownsMap Try.prog 3 (plainElem Try.prog 3) b n D) (hS : Says D L s) : PMap w b L s := ⟨D, hS.2 ▸ own_tight h, hS⟩

/-- The step of a range over a map of numbers, what it tells hidden. -/
theorem wp_next_I (w : World) {ops : Array Oper} {rest : List Oper} {o : Oper} {a : Act} {Q : Exit → Act → World → Prop} (hg : o.guard = none) (it : Operand) (hop : o.op = Op.next it false)
    (b r n : Nat) (D : DataW Unit) (left : Lit → Bool) (cnt : Nat) (hit : a.eval it = .pointer (some ⟨r, 0, none⟩)) (h : w.ranges Try.prog 3 (plainElem Try.prog 3) b r n D left cnt)
    (hDone : Hid (∀ kl, left kl = false) → wpList Try.prog ops Q rest (a.put o.dst (.tuple #[.bool false])) w)
    (hMore : ∀ (x c : Int) (w' : World) (cnt' : Nat), Hid (fit x ∧ (∀ zd, D.atKey (.int .i64 x) zd = .lit (.int .i64 c)) ∧ w'.ranges Try.prog 3 (plainElem Try.prog 3) b r n D (fun z => left z && !z.sameKey (.int .i64 x)) cnt' ∧ cnt' < cnt ∧ w.grownBy w' (some r)) →
      (Instr.entry (.pointer (some ⟨r, 0, none⟩))).run Try.prog w' = .ok (.tuple #[.int .i64 x, .int .i64 c]) w' → wpList Try.prog ops Q rest (a.put o.dst (.tuple #[.bool true, .int .i64 x, .int .i64 c])) w') :
    wpList Try.prog ops Q (o :: rest) a w :=
  wpList_next_ranges_ii w hg it hop 3 3 .i64 .i64 intKey Try.underlying3 Try.underlying3 b r n D left cnt hit h (fun _ hl => hDone hl) (fun x c w' cnt' hwx _ _ hat hrg hlt hgr _ hen => hMore x c w' cnt' ⟨fit_wf hwx, hat, hrg, hlt, hgr⟩ hen)

section
variable {w : World} {s : Nat} {r : Rep} {M : Mod}
set_option maxRecDepth 20000 in
theorem release_rng (h : SMem w s r M) {i : Int} {o : Ob} {a pb : Nat} (hO : M.O i = some o) (hA : r.A i = some a) (hB : r.B i = some pb) (hf : Few M.L) (p : Int) (hp : fit p) {f : Int} (hgp : o.pgs p = some f)
    {it n cnt : Nat} {D : DataW Unit} {left : Lit → Bool} (hr : w.ranges Try.prog 3 (plainElem Try.prog 3) pb it n D left cnt) (hS : Says D o.pgs o.cnt) (hit : ¬ SFoot s r it) :
    Calls Try.prog 69 #[.pointer (some ⟨s, 0, none⟩), .pointer (some ⟨a, 0, none⟩), .int .i64 p] w fun e w' => e = .returned (.tuple #[]) ∧
      ∃ F' cnt', SMem w' s { r with FP := F' } (setM M i o (rel1 ⟨M.L, o.pgs, o.cnt⟩ p)) ∧ VNext w s r w' { r with FP := F' } ∧ (∀ j, F' j → r.FP j ∨ w.heap.size ≤ j) ∧
        w'.ranges Try.prog 3 (plainElem Try.prog 3) pb it n (D.del (.int .i64 p)) (fun z => left z && !z.sameKey (.int .i64 p)) cnt' ∧ cnt' ≤ cnt ∧ Says (D.del (.int .i64 p)) (updI o.pgs p none) (o.cnt - 1) := by
  obtain ⟨x, xt, hx1, hx2, hx3, hx4⟩ := h.live hO
  rw [hA] at hx1
  rw [hB] at hx2
  cases hx1
  cases hx2
  have lk := PMap.look hx4 p hp
  have d7 := (ocells hx3).c7
  have d0 := h.c0
  rw [rel1_some (S := ⟨M.L, o.pgs, o.cnt⟩) hgp]
  rw [hgp] at lk
  simp only [Option.getD_some, Option.isSome_some] at lk
  have c1 := Lib.hid (show Calls Try.prog 36 #[.pointer (some ⟨r.p, 0, none⟩), .int .i64 f] w fun e w5 => (∃ z, e = .returned (.int .i64 z)) ∧ w5.cell? ⟨a, 7, none⟩ = some (.map (some pb)) ∧
      ∃ w6, (∀ ty, Sem.run Try.prog (Builtin.delete_ #[86, 3] ty #[.map (some pb), .int .i64 p]) w5 = .ok (.tuple #[]) w6) ∧ Hid (∃ F' cnt', SMem w6 s { r with FP := F' } (setM M i o ⟨relL M.L f, updI o.pgs p none, o.cnt - 1⟩) ∧ VNext w s r w6 { r with FP := F' } ∧ (∀ j, F' j → r.FP j ∨ w.heap.size ≤ j) ∧
        w6.ranges Try.prog 3 (plainElem Try.prog 3) pb it n (D.del (.int .i64 p)) (fun z => left z && !z.sameKey (.int .i64 p)) cnt' ∧ cnt' ≤ cnt ∧ Says (D.del (.int .i64 p)) (updI o.pgs p none) (o.cnt - 1)) from by
    refine (rel_any h.pool f (hf.users f)).mono ?_
    rintro e w5 ⟨rfl, F', k1, k2, k3⟩
    have m5 := h.setPool k1 k2 k3
    have nx := pool_next (s := s) k2 k3
    obtain ⟨y, yt, hy1, hy2, hy3, hy4⟩ := m5.live (i := i) (o := o) hO
    simp only at hy1 hy2
    rw [hA] at hy1
    rw [hB] at hy2
    cases hy1
    cases hy2
    have hr5 := ranges_turn hr k2 (h.pB i pb hB) (fun e => hit (.inr (.inr (.inl e))))
    obtain ⟨w6, cnt', hrun, hr6, hle, hmt⟩ := hr5.drop intKey pmapUnder (key_int hp) 0
    have t6 := turn_map hmt
    have hS6 := says_del hS (hr.owns.tidy intKey) p
    rw [hgp] at hS6
    have pm6 := pmap_of hr6.owns hS6
    have m6 := m5.setOb (o' := { o with pgs := updI o.pgs p none, cnt := o.cnt - 1 }) hA hB t6 (fun j hj => .inr hj) (t6.heap hy3 (fun e => m5.aB hA hB e)) pm6
    exact ⟨⟨_, rfl⟩, (ocells hy3).c7, w6, fun ty => hrun, F', cnt', m6, nx.trans ⟨t6.mono (fun j hj => .inl (.inr (.inr (.inr (.inr ⟨i, by subst hj; exact hB⟩))))), fun j hj => .inl hj⟩, k3, hr6, hle, hS6⟩)
  clear h hx3 hx4 hA hB hO hp hf hgp hr hS hit
  go_enter Try.func69, Try.ntmps69
  go_wp2_with (go_at_call 36; (with_reducible refine c1.out.mono ?_); rintro e w5 ⟨⟨z5, rfl⟩, y7, w6, hrun, K6⟩)
  go_end0
  exact ⟨rfl, K6.out⟩

/-- What the loop of releaseFrom holds. -/
structure FIn (w wr : World) (s : Nat) (r : Rep) (M : Mod) (i : Int) (o : Ob) (first : Int) (it n : Nat) (F : Nat → Prop) (S : PL) (ks : List Int) (D : DataW Unit) (left : Lit → Bool) (cnt : Nat) : Prop where
  eq : S = ks.foldl rel1 ⟨M.L, o.pgs, o.cnt⟩
  keys : ∀ k ∈ ks, first ≤ k ∧ (o.pgs k).isSome = true
  nodup : ks.Nodup
  gone : ∀ q, S.g q = if q ∈ ks then none else o.pgs q
  mem : SMem wr s { r with FP := F } (setM M i o S)
  next : VNext w s r wr { r with FP := F }
  few : Few S.L
  rng : ∀ pb, r.B i = some pb → wr.ranges Try.prog 3 (plainElem Try.prog 3) pb it n D left cnt
  says : Says D S.g S.c
  come : ∀ q, first ≤ q → (S.g q).isSome = true → left (.int .i64 q) = true
  itf : ¬ SFoot s { r with FP := F } it
  itn : w.heap.size ≤ it

theorem FIn.seen {w wr : World} {i : Int} {o : Ob} {first : Int} {it n : Nat} {F : Nat → Prop} {S : PL} {ks : List Int} {D : DataW Unit} {left : Lit → Bool} {cnt : Nat} (h : FIn w wr s r M i o first it n F S ks D left cnt) {x c : Int} (hat : ∀ zd, D.atKey (.int .i64 x) zd = .lit (.int .i64 c)) : S.g x = some c := by
  have h1 := (h.says.1 x).2 (.lit (.int .i64 0))
  have h2 := (h.says.1 x).2 (.lit (.int .i64 1))
  rw [hat] at h1 h2
  cases hg : S.g x with
  | none => rw [hg] at h1 h2; simp at h1 h2; omega
  | some v => rw [hg] at h1; simp at h1; rw [h1]
theorem same_no {q x : Int} (h : q ≠ x) : (Lit.int .i64 q).sameKey (.int .i64 x) = false := Maps.sameKey_ne (int_ne h)
theorem FIn.skip {w wr w1 : World} {i : Int} {o : Ob} {first : Int} {it n : Nat} {F : Nat → Prop} {S : PL} {ks : List Int} {D : DataW Unit} {left : Lit → Bool} {cnt cnt1 pb : Nat} (h : FIn w wr s r M i o first it n F S ks D left cnt) (hB : r.B i = some pb) {x : Int}
    (hrg : w1.ranges Try.prog 3 (plainElem Try.prog 3) pb it n D (fun z => left z && !z.sameKey (.int .i64 x)) cnt1) (hg : wr.grownBy w1 (some it)) (hx : ∀ q, first ≤ q → (S.g q).isSome = true → q ≠ x) :
    FIn w w1 s r M i o first it n F S ks D (fun z => left z && !z.sameKey (.int .i64 x)) cnt1 := by
  have t : Turn (fun k => k = it) wr w1 := (Turn.refl _ _).grown hg (fun k hk => by cases hk; exact .inl rfl)
  refine ⟨h.eq, h.keys, h.nodup, h.gone, h.mem.kept t (fun k hk e => by subst e; exact h.itf hk), ⟨h.next.turn.trans t (fun k hk => by subst hk; exact .inr h.itn), h.next.foot⟩, h.few, fun pb' hB' => ?_, h.says, fun q hq hs => ?_, h.itf, h.itn⟩
  · rw [hB] at hB'
    cases hB'
    exact hrg
  · rw [h.come q hq hs, same_no (hx q hq hs)]
    rfl
theorem FIn.take {w w1 : World} {i : Int} {o : Ob} {first : Int} {it n a pb : Nat} {F : Nat → Prop} {S : PL} {ks : List Int} {D : DataW Unit} {left : Lit → Bool} {cnt1 : Nat} {x c : Int} (hA : r.A i = some a) (hB : r.B i = some pb) (hf : fit x) (hg : S.g x = some c) (hx : first ≤ x)
    (heq : S = ks.foldl rel1 ⟨M.L, o.pgs, o.cnt⟩) (hk : ∀ k ∈ ks, first ≤ k ∧ (o.pgs k).isSome = true) (hn : ks.Nodup) (hgone : ∀ q, S.g q = if q ∈ ks then none else o.pgs q) (hm : SMem w1 s { r with FP := F } (setM M i o S)) (hnx : VNext w s r w1 { r with FP := F }) (hfew : Few S.L)
    (hrg : w1.ranges Try.prog 3 (plainElem Try.prog 3) pb it n D left cnt1) (hsay : Says D S.g S.c) (hcome : ∀ q, first ≤ q → q ≠ x → (S.g q).isSome = true → left (.int .i64 q) = true) (hitf : ¬ SFoot s { r with FP := F } it) (hitn : w.heap.size ≤ it) :
    Calls Try.prog 69 #[.pointer (some ⟨s, 0, none⟩), .pointer (some ⟨a, 0, none⟩), .int .i64 x] w1 fun e w6 => e = .returned (.tuple #[]) ∧
      ∃ F' ks' D' left' cnt', cnt' ≤ cnt1 ∧ FIn w w6 s r M i o first it n F' (rel1 S x) ks' D' left' cnt' := by
  refine (release_rng hm (i := i) (o := { o with pgs := S.g, cnt := S.c }) (updI_same _ _ _) hA hB hfew x hf (f := c) hg hrg hsay hitf).mono ?_
  rintro e w6 ⟨k1, F', cnt', m6, nx, hF, hr6, hle, hS6⟩
  have hxk : x ∉ ks := fun hmem => by
    have := hgone x
    rw [if_pos hmem, hg] at this
    cases this
  have hox : o.pgs x = some c := by
    have := hgone x
    rw [if_neg hxk, hg] at this
    exact this.symm
  have e1 : rel1 (⟨(setM M i o S).L, S.g, S.c⟩ : PL) x = rel1 S x := rfl
  have e2 := rel1_some (S := S) hg
  refine ⟨k1, F', ks ++ [x], D.del (.int .i64 x), (fun z => left z && !z.sameKey (.int .i64 x)), cnt', hle, ?_, fun k hk' => ?_, ?_, fun q => ?_, ?_, hnx.trans nx, few_rel hfew x, fun pb' hB' => ?_, ?_, fun q hq hs => ?_, fun hit => ?_, hitn⟩
  · rw [List.foldl_append, ← heq]
    rfl
  · rcases List.mem_append.1 hk' with hk' | hk'
    · exact hk k hk'
    · simp at hk'
      subst hk'
      exact ⟨hx, by rw [hox]; rfl⟩
  · exact List.nodup_append.2 ⟨hn, by simp, fun a ha b hb => by simp at hb; subst hb; intro e; subst e; exact hxk ha⟩
  · rw [e2]
    show updI S.g x none q = _
    unfold updI
    by_cases e : q = x
    · subst e
      simp
    · rw [if_neg e, hgone q]
      simp [e]
  · have e3 : setM (setM M i o S) i { o with pgs := S.g, cnt := S.c } (rel1 S x) = setM M i o (rel1 S x) := by
      unfold setM
      simp only [updI_twice]
    rw [← e3]
    exact m6
  · rw [hB] at hB'
    cases hB'
    exact hr6
  · rw [e2]
    exact hS6
  · rw [e2] at hs
    have hs' : (updI S.g x none q).isSome = true := hs
    unfold updI at hs'
    by_cases e : q = x
    · rw [if_pos e] at hs'; cases hs'
    · rw [if_neg e] at hs'
      rw [hcome q hq e hs', same_no e]
      rfl
  · rcases nx.foot it hit with e | e
    · exact hitf e
    · have := hrg.lt
      omega

theorem FIn.take2 {w wr w1 : World} {i : Int} {o : Ob} {first : Int} {it n a pb : Nat} {F : Nat → Prop} {S : PL} {ks : List Int} {D : DataW Unit} {left : Lit → Bool} {cnt cnt1 : Nat} {x c : Int} (h : FIn w wr s r M i o first it n F S ks D left cnt) (hA : r.A i = some a) (hB : r.B i = some pb)
    (hx : first ≤ x) (k : fit x ∧ S.g x = some c ∧ w1.ranges Try.prog 3 (plainElem Try.prog 3) pb it n D (fun z => left z && !z.sameKey (.int .i64 x)) cnt1 ∧ cnt1 < cnt ∧ wr.grownBy w1 (some it)) :
    Calls Try.prog 69 #[.pointer (some ⟨s, 0, none⟩), .pointer (some ⟨a, 0, none⟩), .int .i64 x] w1 fun e w6 => e = .returned (.tuple #[]) ∧
      ∃ F' ks' D' left' cnt', cnt' ≤ cnt1 ∧ FIn w w6 s r M i o first it n F' (rel1 S x) ks' D' left' cnt' := by
  have t : Turn (fun k => k = it) wr w1 := (Turn.refl _ _).grown k.2.2.2.2 (fun k hk => by cases hk; exact .inl rfl)
  exact FIn.take hA hB k.1 k.2.1 hx h.eq h.keys h.nodup h.gone (h.mem.kept t (fun k hk e => by subst e; exact h.itf hk)) ⟨h.next.turn.trans t (fun k hk => by subst hk; exact .inr h.itn), h.next.foot⟩ h.few k.2.2.1 h.says
    (fun q hq hne hs => by rw [h.come q hq hs, same_no hne]; rfl) h.itf h.itn

set_option maxRecDepth 20000 in
set_option maxHeartbeats 2000000 in
theorem from_any (h : SMem w s r M) {i : Int} {o : Ob} {a pb : Nat} (hO : M.O i = some o) (hA : r.A i = some a) (hB : r.B i = some pb) (hf : Few M.L) (first : Int) :
    Calls Try.prog 58 #[.pointer (some ⟨s, 0, none⟩), .pointer (some ⟨a, 0, none⟩), .int .i64 first] w fun e w' => e = .returned (.tuple #[]) ∧
      ∃ (F' : Nat → Prop) (S' : PL) (ks : List Int), S' = ks.foldl rel1 ⟨M.L, o.pgs, o.cnt⟩ ∧ (∀ k ∈ ks, first ≤ k ∧ (o.pgs k).isSome = true) ∧ ks.Nodup ∧ (∀ q, S'.g q = if q ∈ ks then none else o.pgs q) ∧ (∀ q, first ≤ q → S'.g q = none) ∧
        SMem w' s { r with FP := F' } (setM M i o S') ∧ VNext w s r w' { r with FP := F' } ∧ Few S'.L := by
  obtain ⟨x, xt, hx1, hx2, hx3, hx4⟩ := h.live hO
  rw [hA] at hx1
  rw [hB] at hx2
  cases hx1
  cases hx2
  have d7 := (ocells hx3).c7
  obtain ⟨D, hown, hS⟩ := hx4
  have H := Lib.hid (And.intro h (And.intro hO (And.intro hA (And.intro hB (And.intro hf hS)))))
  have HK := Lib.hid (fun q (hq : (o.pgs q).isSome = true) => by
    have := (hS.1 q).1
    rw [hq] at this
    exact this)
  clear h hO hA hB hf hx3 hS
  go_enter Try.func58, Try.ntmps58
  go_wp2_with (at_range; refine wpList_range_own _ rfl _ 86 rfl 3 3 intKey pmapUnder _ pb o.cnt D rfl hown ?_; intro w0 hrg0 hg0 hs0; have K0 := Lib.hid (show FIn w w0 s r M i o first w.heap.size o.cnt r.FP ⟨M.L, o.pgs, o.cnt⟩ [] D (has D) (size D) from ⟨rfl, (fun k hk => by simp at hk), List.nodup_nil, (fun q => by simp), (by rw [setM_start H.out.2.1]; exact H.out.1.past ((Turn.refl NoBlock w).grown hg0 (fun k e => by cases e))), (next_refl w s r).past ((Turn.refl NoBlock w).grown hg0 (fun k e => by cases e)), H.out.2.2.2.2.1, (fun pb' hB' => by have e := H.out.2.2.2.1.symm.trans hB'; cases e; exact hrg0), H.out.2.2.2.2.2, (fun q _ hq => HK.out q hq), fresh_not H.out.1, Nat.le_refl _⟩); clear hrg0 hg0 hs0)
  go_frame
  go_loopg [6] (size D) (fun g s6 wr => ∃ (F : Nat → Prop) (S : PL) (ks : List Int) (D' : DataW Unit) (left : Lit → Bool), Hid (FIn w wr s r M i o first w.heap.size o.cnt F S ks D' left g))
  case atStart => exact ⟨r.FP, _, [], D, _, K0⟩
  case round =>
    obtain ⟨F, S, ks, D', left, HA⟩ := hrel
    have hrg := HA.out.rng pb H.out.2.2.2.1
    have HB := Lib.hid H.out.2.2.2.1
    have HAa := Lib.hid H.out.2.2.1
    have HO := Lib.hid H.out.2.1
    go_wp2_with (first
      | (at_next; refine wp_next_I _ rfl _ rfl pb w.heap.size o.cnt _ _ _ rfl hrg (fun KD => ?_) (fun x c w1 cnt1 KX hen => ?_))
      | (go_at_call 69; (with_reducible refine (HA.out.take2 HAa.out HB.out (by assumption) ⟨KX.out.1, HA.out.seen KX.out.2.1, KX.out.2.2⟩).mono ?_); rintro e w6 ⟨rfl, F6, ks6, D6, left6, cnt6, hle6, k6⟩; have K6 := Lib.hid (And.intro hle6 k6); clear hle6 k6))
    · go_end0
      have hF := HA.out
      refine ⟨rfl, F, S, ks, hF.eq, hF.keys, hF.nodup, hF.gone, fun q hq => ?_, hF.mem, hF.next, hF.few⟩
      cases hg : S.g q with
      | none => rfl
      | some v =>
        have := hF.come q hq (by rw [hg]; rfl)
        rw [KD.out] at this
        cases this
    · go_roundg cnt6
      case measure => have := K6.out.1; have := KX.out.2.2.2.1; omega
      case rel => exact ⟨F6, _, ks6, D6, left6, K6.out.2⟩
    · go_roundg cnt1
      case measure => exact KX.out.2.2.2.1
      case rel => exact ⟨F, S, ks, D', _, HA.out.skip HB.out KX.out.2.2.1 KX.out.2.2.2.2 (fun q hq _ e => by omega)⟩
end
end Go.Proofs.Ytdhbhigoboamfaa
