/-
  What Protect answers, and List of any pieces. No conditions but that the pieces rise and lie in the region, and that arguments are numbers of 64 bits.
-/
import Derived.Test.YtdddmjdlikjedaaGAppAll
namespace Go.Proofs.Ytdddmjdlikjedaa
open Go.ChangeShapes Go.WideShapes Go.ChangeAt Go.RowKit Go.Shelf

set_option maxRecDepth 20000 in
theorem clone_all {w : World} {v : Value} {l : List Pc} (h : PRow v l w) (hm : l.length ≤ 1048576) :
    Calls Try.prog 74 #[v] w fun e w' => ∃ v', e = .returned v' ∧ PRow v' l w' ∧ (∀ j, Blk v' j → w.heap.size ≤ j) ∧ Turn NoBlock w w' := by
  rcases Nat.eq_zero_or_pos l.length with h0 | h0
  · obtain rfl : l = [] := List.eq_nil_of_length_eq_zero h0
    rcases h.2 with ⟨rfl, _⟩ | ⟨g, c, cur, rfl, _⟩
    · have hb : ∀ w, Sem.run Try.prog (binOp .eql 65 (.slice none 0 0) (.slice none 0 0)) w = .ok (.bool true) w := fun w => by
        first
          | rfl
          | (simp [binOp, run_underlying pieces_s]; done)
          | (unfold binOp; simp [run_underlying pieces_s])
      go_enter Try.func74, Try.ntmps74
      go_wp2
      go_ret
      exact ⟨_, rfl, prow_nil _, fun j hj => (by cases hj), Turn.refl _ _⟩
    · have t0 : Turn NoBlock w (w.alloc (.cells #[] 61)) := (Turn.refl _ _).alloc _
      have hown : PRow (.slice (some ⟨w.heap.size, 0, none⟩) 0 0) [] (w.alloc (.cells #[] 61)) := by
        have hf := full_new w [] [] 0 #[] rfl rfl (by decide)
        exact hf.prow rfl (Nat.le_refl _) rfl
      obtain ⟨v', W', h1, h2, h3, h4⟩ := append_all hown (h.past t0) (by simp)
      have HS := Lib.hid (And.intro h2 (And.intro h3 (And.intro h4 t0)))
      have hb : ∀ w, Sem.run Try.prog (binOp .eql 65 (.slice (some ⟨g, 0, none⟩) 0 c) (.slice none 0 0)) w = .ok (.bool false) w := fun w => by
        first
          | rfl
          | (simp [binOp, run_underlying pieces_s]; done)
          | (unfold binOp; simp [run_underlying pieces_s])
      simp only [List.length_nil] at h1
      clear h2 h3 h4 t0 hown h h0
      go_enter Try.func74, Try.ntmps74
      go_wp2_with (at_builtin; refine Lib.wpList_append_run _ rfl (.tmp 5) (.tmp 6) 65 65 rfl _ _ rfl rfl _ _ (h1 _) ?_)
      go_ret
      obtain ⟨h2, h3, h4, t0⟩ := HS.out
      refine ⟨_, rfl, h2, fun j hj => ?_, t0.trans h4 (fun j hj => .inr ?_)⟩
      · rcases h3 j hj with e | e
        · simp [Blk, Value.ownBlock] at e; omega
        · rw [World.size_alloc] at e; omega
      · simp [Blk, Value.ownBlock] at hj
        omega
  · exact clone_any h h0 hm
theorem list_all {w : World} {a : Nat} {size most : Int} {v : Value} {l : List Pc} (h : GMem w a size most v l) (hm : l.length ≤ 1048576) :
    Calls Try.prog 35 #[.pointer (some ⟨a, 0, none⟩)] w fun e w' => ∃ v', e = .returned v' ∧ PRow v' l w' ∧ (∀ j, Blk v' j → w.heap.size ≤ j) ∧ Turn NoBlock w w' := by
  have c2 := h.c2
  have cT := clone_all h.row hm
  clear h hm
  go_enter Try.func35, Try.ntmps35
  go_wp2_with (go_at_call 74; (with_reducible refine cT.mono ?_); rintro e w' ⟨v', rfl, K⟩; have HK := Lib.hid K; clear K)
  go_ret
  exact ⟨_, rfl, HK.out⟩

theorem protect_bad (a : Nat) (x n pr : Int) (w : World) (h : ¬ isProt pr) :
    Calls Try.prog 34 #[.pointer (some ⟨a, 0, none⟩), .int .i64 x, .int .i64 n, .int .i64 pr] w fun e w' => e = .returned (.int .i64 (-10)) ∧ w = w' := by
  have cP := prot_any pr
  rw [show decide (isProt pr) = false from decide_eq_false h] at cP
  clear h
  go_enter Try.func34, Try.ntmps34
  go_wp2_with (go_at_call 68; (with_reducible refine (cP _).mono ?_); rintro e w' ⟨rfl, rfl⟩)
  go_ret
  exact ⟨rfl, rfl⟩
theorem protect_no {w : World} {a : Nat} {size most : Int} {v : Value} {l : List Pc} (h : GMem w a size most v l) (ok : GOK size l) (x n pr : Int) (hx : fit x) (hn : fit n) (hp : isProt pr) (hr : ¬ (isGrid x n ∧ x + n ≤ size)) :
    Calls Try.prog 34 #[.pointer (some ⟨a, 0, none⟩), .int .i64 x, .int .i64 n, .int .i64 pr] w fun e W' => ∃ z : Int, z < 0 ∧ e = .returned (.int .i64 z) ∧ Turn NoBlock w W' := by
  have cR := right_any h ok x n hx hn
  have cP := prot_any pr
  rw [show decide (isProt pr) = true from decide_eq_true hp] at cP
  have hs : rightS size x n = -14 ∨ rightS size x n = -10 := by
    unfold rightS
    by_cases h1 : isGrid x n
    · rw [if_pos h1, if_neg (fun h2 => hr ⟨h1, h2⟩)]; exact .inl rfl
    · rw [if_neg h1]; exact .inr rfl
  clear h ok hp hr
  rcases hs with hs | hs
  all_goals
    rw [hs] at cR
    go_enter Try.func34, Try.ntmps34
    go_wp2_with (first
      | (go_at_call 68; (with_reducible refine (cP _).mono ?_); rintro e w' ⟨rfl, rfl⟩)
      | (go_at_call 71; (with_reducible refine cR.mono ?_); rintro e w' ⟨rfl, rfl⟩))
    go_ret
    exact ⟨_, by omega, rfl, Turn.refl _ _⟩

/-- What Protect leaves when it changes something. -/
structure ProtIs (w w' : World) (a : Nat) (size most : Int) (v : Value) (l lp : List Pc) (k b : Nat) : Prop where
  ok : ∃ v' lo', lo'.Perm lp ∧ lo'.Pairwise (fun p q => p.at' ≤ q.at') ∧ GMem w' a size most v' (l.take k ++ lo' ++ l.drop b) ∧ ∀ j, GFoot a v' j → GFoot a v j ∨ w.heap.size ≤ j
  turn : Turn (GFoot a v) w w'
/-- On the way: the rows of the parts, the region. -/
structure PrI (B : Nat) (a : Nat) (size most : Int) (v vi vo : Value) (l li lo : List Pc) (w : World) : Prop where
  ri : PRow vi li w
  ro : PRow vo lo w
  gm : GMem w a size most v l
  fi : ∀ j, Blk vi j → B ≤ j
  fo : ∀ j, Blk vo j → B ≤ j
  fg : ∀ j, GFoot a v j → j < B
  ap : ∀ j, Blk vi j → ¬ Blk vo j

set_option maxRecDepth 20000 in
set_option maxHeartbeats 1000000 in
theorem protect_any {w : World} {a : Nat} {size most : Int} {v : Value} {l : List Pc} (h : GMem w a size most v l) (ok : GOK size l) (hll : l.length ≤ 16384) (hsz : size ≤ 1048576) (hmost : 0 ≤ most ∧ most ≤ 65536) (x n pr : Int) (hr : isGrid x n ∧ x + n ≤ size) (hp : isProt pr) (k b : Nat) (hs : SegIs l x n k b) :
    Calls Try.prog 34 #[.pointer (some ⟨a, 0, none⟩), .int .i64 x, .int .i64 n, .int .i64 pr] w fun e W' =>
      (sumP (insL l k b x n) < n ∧ e = .returned (.int .i64 (-25)) ∧ Turn NoBlock w W') ∨
      (n ≤ sumP (insL l k b x n) ∧ ((most < (l.length - (b - k) + (protL l k b x n pr).length : Nat) ∧ e = .returned (.int .i64 (-4)) ∧ Turn NoBlock w W') ∨
        ((l.length - (b - k) + (protL l k b x n pr).length : Nat) ≤ most ∧ e = .returned (.int .i64 0) ∧ ProtIs w W' a size most v l (protL l k b x n pr) k b))) := by
  have htop := ok.top
  have hg : 0 ≤ x ∧ 1 ≤ n := by have := hr.1; unfold isGrid isMul at this; omega
  have fx : fit x := by unfold fit; omega
  have fn : fit n := by unfold fit; omega
  have cR := right_any h ok x n fx fn
  rw [show rightS size x n = 0 by unfold rightS; rw [if_pos hr.1, if_pos hr.2]] at cR
  have cS := callsIn_wide.1 (split_in 4 (Nat.le_refl _) h ok (by omega) x n hg.1 (by omega) hr.2 k b hs)
  have cP := prot_any pr
  rw [show decide (isProt pr) = true from decide_eq_true hp] at cP
  have oki := gok_ins hs ok hr.1
  have hli : (insL l k b x n).length ≤ 16384 := by unfold insL seg; rw [List.length_map, List.length_drop, List.length_take]; omega
  have hlo := outL_len l k b x n
  obtain ⟨S, hS⟩ : ∃ S, S = sumP (insL l k b x n) := ⟨_, rfl⟩
  have hSb : 0 ≤ S ∧ S ≤ 1048576 := by
    have := sumP_bd oki 16384 (by omega)
    rw [hS]
    omega
  rw [← hS]
  obtain ⟨li, hlie⟩ : ∃ li, li = insL l k b x n := ⟨_, rfl⟩
  obtain ⟨lo, hloe⟩ : ∃ lo, lo = outL l k b x n := ⟨_, rfl⟩
  have hpl : protL l k b x n pr = li.map (withP pr) ++ lo := by rw [hlie, hloe]; rfl
  obtain ⟨lp, hlp⟩ : ∃ lp, lp = li.map (withP pr) ++ lo := ⟨_, rfl⟩
  rw [hpl, ← hlp]
  have HLP := Lib.hid hlp
  clear hlp
  have hlie2 : (seg l k b).map (fun p => partP p x n) = li := by rw [hlie]; rfl
  have hloe2 : (seg l k b).flatMap (outP x n) = lo := by rw [hloe]; rfl
  rw [hlie2, hloe2] at cS
  rw [← hlie] at hS hli oki
  rw [← hloe] at hlo
  have hlt : ∀ j, GFoot a v j → j < w.heap.size := fun j hj => h.lt hj
  have HG := Lib.hid (And.intro h (And.intro ok (And.intro hs (And.intro oki (And.intro hS (And.intro hr hlt))))))
  clear h ok hs hr hp hlie hloe hpl hlie2 hloe2 oki hS hlt
  obtain ⟨N, hN⟩ : ∃ N, li.length = N := ⟨_, rfl⟩
  have cS2 := cS.mono (R' := fun e w' => ∃ (pi : Option Addr) (ci : Nat) (vo : Value), e = .returned (.tuple #[.slice pi N ci, vo]) ∧ Hid (PrI w.heap.size a size most v (.slice pi N ci) vo l li lo w' ∧ Turn NoBlock w w')) (by
    rintro e w' ⟨vi, vo, h1, r1, r2, q1, q2, q3, t1⟩
    obtain ⟨pi, ci, hv⟩ := r1.slice
    rw [hN] at hv
    subst hv
    exact ⟨pi, ci, vo, h1, Lib.hid ⟨⟨r1, r2, HG.out.1.past t1, q1, q2, HG.out.2.2.2.2.2.2, q3⟩, t1⟩⟩)
  have hNl := Lib.hid hN
  rw [hN] at hli
  clear cS hN
  have cT := fun (u : Value) (w1 : World) (r : PRow u li w1) => total_any r (fun p hp => by have := (HG.out.2.2.2.1.each p hp).1; omega) (by rw [← HG.out.2.2.2.2.1]; omega) (by rw [hNl.out]; omega)
  rw [← HG.out.2.2.2.2.1] at cT
  by_cases hlt : S < n
  · have cT' := cT
    go_enter Try.func34, Try.ntmps34
    go_wp2_with (first
      | (go_at_call 68; (with_reducible refine (cP _).mono ?_); rintro e w' ⟨rfl, rfl⟩)
      | (go_at_call 71; (with_reducible refine cR.mono ?_); rintro e w' ⟨rfl, rfl⟩)
      | (go_at_call 72; (with_reducible refine cS2.mono ?_); rintro e w1 ⟨pi, ci, vo, rfl, H1⟩)
      | (go_at_call 73; (with_reducible refine (cT _ _ H1.out.1.ri).mono ?_); rintro e w2 ⟨rfl, t2⟩))
    go_ret
    exact .inl ⟨hlt, rfl, H1.out.2.trans t2 (fun _ h => .inl h)⟩
  · go_enter Try.func34, Try.ntmps34
    go_wp2_with (first
      | (go_at_call 68; (with_reducible refine (cP _).mono ?_); rintro e w' ⟨rfl, rfl⟩)
      | (go_at_call 71; (with_reducible refine cR.mono ?_); rintro e w' ⟨rfl, rfl⟩)
      | (go_at_call 72; (with_reducible refine cS2.mono ?_); rintro e w1 ⟨pi, ci, vo, rfl, H1⟩)
      | (go_at_call 73; (with_reducible refine (cT _ _ H1.out.1.ri).mono ?_); rintro e w2 ⟨rfl, t2⟩; have T2 := Lib.hid t2; clear t2))
    go_loopg [36] N (fun g s36 wr => ∃ i : Nat, i ≤ N ∧ g = N - i ∧ s36 = .int .i64 i ∧ Hid (PrI w.heap.size a size most v (.slice pi N ci) vo l (protTo pr li i) lo wr ∧ Turn NoBlock w wr))
    case atStart =>
      have p := H1.out.1
      have t := T2.out
      exact ⟨0, by omega, by omega, rfl, Lib.hid ⟨⟨by rw [protTo_zero]; exact p.ri.past t, p.ro.past t, p.gm.past t, p.fi, p.fo, p.fg, p.ap⟩, H1.out.2.trans t (fun _ h => .inl h)⟩⟩
    case round =>
      obtain ⟨i, hi, hg1, rfl, HT⟩ := hrel
      by_cases hlt2 : i < N
      · obtain ⟨q, hq⟩ := gget_some (show i < li.length by rw [hNl.out]; exact hlt2)
        have hq2 := protTo_at pr hq
        have hr1 := HT.out.1.ri
        obtain ⟨g, c', he, -, -⟩ := hr1.shape (by rw [protTo_len, hNl.out]; omega)
        rw [protTo_len, hNl.out] at he
        simp only [Value.slice.injEq] at he
        obtain ⟨rfl, -, rfl⟩ := he
        obtain ⟨-, -, -, -, c4⟩ := hr1.five hq2
        have f4 : wr.frozen? ⟨g, i * 5 + 4, none⟩ = false := by unfold PRow at hr1; obtain ⟨_, _, he⟩ := own_slice hr1; simp at he; rw [he.2.1] at hr1; exact hr1.frozenAt _
        have hst := hr1.prot pr hq2
        rw [protTo_step pr hq] at hst
        have HQ := Lib.hid hst
        clear hq hq2 hr1 hst
        go_wp2
        go_roundg (N - (i + 1))
        case measure => omega
        case rel =>
          have p := HT.out.1
          have t := HQ.out.2
          have hgi : w.heap.size ≤ g := p.fi g rfl
          exact ⟨i + 1, by omega, by omega, by go_num, Lib.hid ⟨⟨HQ.out.1, (own_prow vo lo).kept _ _ _ p.ro t (fun j hj e => by subst e; exact p.ap _ rfl hj), p.gm.kept t (fun j hj e => by have := p.fg j hj; omega), p.fi, p.fo, p.fg, p.ap⟩, HT.out.2.trans t (fun j hj => .inr (by omega))⟩⟩
      · obtain rfl : i = N := by omega
        have p := HT.out.1
        have hri := p.ri
        have hNi := hNl.out
        rw [← hNi, protTo_all, hNi] at hri
        obtain ⟨v', W', g1, g2, g3, g4⟩ := append_all hri p.ro (by rw [List.length_map]; omega)
        have tw : Turn NoBlock w W' := HT.out.2.trans g4 (fun j hj => .inr (p.fi j hj))
        have gmW : GMem W' a size most v l := p.gm.kept g4 (fun j hj e => by have := p.fg j hj; have := p.fi j e; omega)
        have hv' : ∀ j, Blk v' j → w.heap.size ≤ j := fun j hj => by
          rcases g3 j hj with e | e
          · exact p.fi j e
          · exact Nat.le_trans HT.out.2.size e
        have cX := callsIn_wide.1 (replace_in 4 (Nat.le_refl _) gmW HG.out.2.1 (by omega) x n fx fn k b HG.out.2.2.1 g2 (by rw [List.length_append, List.length_map]; omega) (fun j hj hv => by have h1 := p.fg j hj; have h2 := hv' j hv; omega) hmost)
        rw [← HLP.out] at cX g2
        have cX2 := cX.mono (R' := fun e w' => ∃ z : Int, e = .returned (.int .i64 z) ∧ Hid ((z = -4 ∧ most < (l.length - (b - k) + lp.length : Nat) ∧ Turn NoBlock W' w') ∨ (z = 0 ∧ (l.length - (b - k) + lp.length : Nat) ≤ most ∧ ReplIs W' w' a size most v v' l lp k b))) (by
          rintro e w' (⟨g1, rfl, g2⟩ | ⟨g1, rfl, g2⟩)
          · exact ⟨_, rfl, Lib.hid (.inl ⟨rfl, g1, g2⟩)⟩
          · exact ⟨_, rfl, Lib.hid (.inr ⟨rfl, g1, g2⟩)⟩)
        have HX := Lib.hid (And.intro tw (And.intro hv' hlt))
        clear cX hri p g2 g3 g4 tw gmW hv' hNi
        go_wp2_with (first
          | (at_builtin; refine Lib.wpList_append_run _ rfl (.tmp 48) (.tmp 49) 65 65 rfl _ _ rfl rfl _ _ (g1 _) ?_)
          | (go_at_call 70; (with_reducible refine cX2.mono ?_); rintro e w3 ⟨z, rfl, HZ⟩))
        go_ret
        obtain ⟨tw, hv', hlt'⟩ := HX.out
        rcases HZ.out with ⟨rfl, z1, z2⟩ | ⟨rfl, z1, ⟨v2, lo', p1, p2, p3, p4⟩, p5⟩
        · exact .inr ⟨by omega, .inl ⟨z1, rfl, tw.trans z2 (fun _ h => .inl h)⟩⟩
        · refine .inr ⟨by omega, .inr ⟨z1, rfl, ⟨v2, lo', p1, p2, p3, fun j hj => ?_⟩, (tw.mono (fun _ h => h.elim)).trans p5 (fun j hj => ?_)⟩⟩
          · rcases p4 j hj with e | e
            · exact .inl e
            · exact .inr (Nat.le_trans tw.size e)
          · rcases hj with e | e
            · exact .inl e
            · exact .inr (hv' j e)
end Go.Proofs.Ytdddmjdlikjedaa
