/-
  What replace of a region answers, and what it makes of its pieces. No conditions but that the pieces rise and lie in the region, that arguments are numbers of 64 bits, and that what comes in lies apart from it.
-/
import Derived.Test.YtdddmjdlikjedaaGOver
import Derived.Test.YtdddmjdlikjedaaGRepl3
import Derived.Test.YtdddmjdlikjedaaGSmall
import Derived.StillTailTactics
namespace Go.Proofs.Ytdddmjdlikjedaa
open Go.ChangeShapes Go.WideShapes Go.ChangeAt Go.RowKit Go.Shelf

attribute [local go_sem] Oper.semAt_some

def bhOf {l : List Pc} {x n : Int} {k b : Nat} (pre : List (Sg l x n k b)) : Nat := match pre.getLast? with
  | none => k
  | some y => y.1.1 + 1
theorem bhOf_snoc {l : List Pc} {x n : Int} {k b : Nat} (pre : List (Sg l x n k b)) (y : Sg l x n k b) : bhOf (pre ++ [y]) = y.1.1 + 1 := by
  simp [bhOf]
theorem bhOf_all {l : List Pc} {x n : Int} {k b : Nat} {xs : List (Sg l x n k b)} (h : IsSeg xs (b - k)) (hk : k ≤ b) : bhOf xs = b := by
  unfold bhOf
  cases he : xs.getLast? with
  | none =>
    rw [List.getLast?_eq_none_iff] at he
    subst he
    have := h.1
    simp at this
    simp; omega
  | some y =>
    have h1 := h.1
    have h2 : xs[xs.length - 1]? = some y := by rw [← List.getLast?_eq_getElem?]; exact he
    have h3 := h.2 _ _ h2
    have h4 := (List.getElem?_eq_some_iff.1 h2).1
    simp
    omega

/-- What replace leaves. -/
structure ReplIs (w w' : World) (a : Nat) (size most : Int) (v vb : Value) (l bl : List Pc) (k b : Nat) : Prop where
  ok : ∃ v' bl', bl'.Perm bl ∧ bl'.Pairwise (fun p q => p.at' ≤ q.at') ∧ GMem w' a size most v' (l.take k ++ bl' ++ l.drop b) ∧ ∀ j, GFoot a v' j → GFoot a v j ∨ w.heap.size ≤ j
  turn : Turn (fun j => GFoot a v j ∨ Blk vb j) w w'

set_option maxRecDepth 100000 in
set_option maxHeartbeats 4000000 in
/-- A region that only ends normally: its post may be taken as False elsewhere. -/
theorem wp_calm {P : Program} {c : Code} {Q : Exit → Act → World → Prop} {a : Act} {w : World} (h : c.wp P (fun e a w => match e with | .normal => Q .normal a w | _ => False) a w) : c.wp P Q a w :=
  Code.wp_mono (fun e a w h => by cases e <;> first | exact h | exact h.elim) h

theorem replace_in (m : Nat) (hm : 4 ≤ m) {w : World} {a : Nat} {size most : Int} {v vb : Value} {l bl : List Pc} (h : GMem w a size most v l) (ok : GOK size l) (hll : l.length ≤ 65536) (x n : Int) (hx : fit x) (hn : fit n) (k b : Nat) (hs : SegIs l x n k b)
    (hb : PRow vb bl w) (hbl : bl.length ≤ 65536) (hap : ∀ j, GFoot a v j → ¬ Blk vb j) (_hmost : 0 ≤ most ∧ most ≤ 65536) :
    CallsIn Fence.wide m Try.prog 70 #[.pointer (some ⟨a, 0, none⟩), .int .i64 x, .int .i64 n, vb] w fun e W' =>
      (most < (l.length - (b - k) + bl.length : Nat) ∧ e = .returned (.int .i64 (-4)) ∧ Turn NoBlock w W') ∨ ((l.length - (b - k) + bl.length : Nat) ≤ most ∧ e = .returned (.int .i64 0) ∧ ReplIs w W' a size most v vb l bl k b) := by
  have h1 : 1 ≤ m := by omega
  obtain ⟨C, hC⟩ : ∃ C, w.heap.size = C := ⟨_, rfl⟩
  obtain ⟨pb, cb, rfl⟩ := hb.slice
  obtain ⟨N, hN⟩ : ∃ N, l.length = N := ⟨_, rfl⟩
  obtain ⟨M, hM⟩ : ∃ M, bl.length = M := ⟨_, rfl⟩
  have hsk := hs.lo
  have hsb := hs.hi
  rw [hN] at hsb hll
  rw [hM] at hb hap hbl
  have cF := fun (W : World) (hg : GMem W a size most v l) => ((gfrom_any hg ok (by omega) x).mono (R' := fun e w' => e = .returned (.int .i64 k) ∧ Turn NoBlock W w') (by
    rintro e w' ⟨k', rfl, h3, h4⟩
    rw [h3.one hs.from']
    exact ⟨rfl, h4⟩))
  have HG := Lib.hid (And.intro h (And.intro ok (And.intro hs (And.intro hb hap))))
  have HNM := Lib.hid (And.intro hN hM)
  have cF0 := cF w h
  have HCF := Lib.hid cF
  rw [hN, hM]
  clear h ok hs hb hap cF hN hM
  refine callsIn_of_wp_marks Try.func70 rfl trivial ?_ rfl
  simp only [Try.ntmps70, List.size_toArray, List.length_cons, List.length_nil, Nat.reduceAdd, Nat.reduceSub, Array.replicate_succ, Array.replicate_zero, List.push_toArray, List.append_toArray, List.nil_append, List.cons_append]
  gi_wp2_with (first
    | (refine ⟨trivial, ?_⟩; gi_at_call 91; refine (callsIn_wide.2 cF0).mono ?_; rintro e w1 ⟨rfl, t1⟩; have K1 := Lib.hid t1; clear t1)
    | (refine ⟨trivial, ?_⟩; gi_at_call 69; refine (over_in Fence.wide (m - 1) trivial rfl a x n _).mono ?_; rintro e w' ⟨rfl, rfl⟩))
  obtain ⟨B, hB⟩ : ∃ B, w1.heap.size = B := ⟨_, rfl⟩
  have t1 := K1.out
  have hg1 := HG.out.1.past t1
  obtain ⟨W0, hW0⟩ : ∃ W0, W0 = w1.alloc (.cells #[.int .i64 k] 3) := ⟨_, rfl⟩
  have hz0 : W0.heap.size = B + 1 := by rw [hW0, ← hB]; simp
  have hT0 : Turn NoBlock w1 W0 := by rw [hW0]; exact (Turn.refl _ _).alloc _
  have hb0 : Boxed W0 B 3 (.int .i64 k) := by rw [hW0, ← hB]; exact Boxed.new w1 3 _
  have hO := osees_new (x := x) (n := n) (hg1.past hT0)
  rw [hz0] at hO
  have hft : ∀ j, GFoot a v j → j < C := fun j hj => by rw [← hC]; exact HG.out.1.lt hj
  have hCB : C ≤ B := by rw [← hC, ← hB]; exact t1.size
  have hst := over_stops HG.out.2.1 (by rw [HNM.out.1]; exact hll) hx hn HG.out.2.2.1 (m - 1) (by omega) (B + 1) (B + 1 + 1) (B + 1 + 2) _ hO
  rw [← hW0]
  try simp only [hB]
  obtain ⟨W5, hW5⟩ : ∃ W5, W5 = ((W0.alloc (.cells #[.pointer (some ⟨a, 0, none⟩)] 57)).alloc (.cells #[.int .i64 x] 3)).alloc (.cells #[.int .i64 n] 3) := ⟨_, rfl⟩
  rw [← hW5] at hst hO ⊢
  have hz5 : W5.heap.size = B + 4 := by rw [hW5]; simp [hz0]
  have hT5 : Turn NoBlock W0 W5 := by rw [hW5]; exact (((Turn.refl _ _).alloc _).alloc _).alloc _
  have hb5 : Boxed W5 B 3 (.int .i64 k) := hT5.heap hb0 (fun h => h)
  have hT : Turn NoBlock w W5 := (t1.trans hT0 (fun _ h => .inl h)).trans hT5 (fun _ h => .inl h)
  have hBel : Below C w W5 := by rw [← hC]; exact hT.below (fun _ h => h.elim) (Nat.le_refl _)
  clear hW5 hW0 hT0 hb0 hT5 hz0 hg1 t1 cF0
  refine wpIn_rangeFunc_ownG (F := Fence.wide) rfl h1 (gf := 90) (lb := #[.pointer (some ⟨B + 1, 0, none⟩), .pointer (some ⟨B + 1 + 1, 0, none⟩), .pointer (some ⟨B + 1 + 2, 0, none⟩)]) rfl trivial (enters_of Try.func90 (by kernel_rfl) rfl)
    hst (fun h k => KpO.trans h k) (KpO.put (by omega) (by omega) (by omega) (fun j hj => by have := hft j hj; omega)) (Below.refl _ _) (fun _ => rfl)
    (fun pre W => OSees (B + 1) (B + 1 + 1) (B + 1 + 2) a size most v l x n W ∧ Boxed W B 3 (.int .i64 ((bhOf pre : Nat) : Int)) ∧ Below C w W)
    (fun _ _ _ => False)
    (OwnFrom.and (ownFrom_of osees_own osees_cells _) (OwnFrom.and (Go.Own.from (boxed_own B 3 (fun (pre : List (Sg l x n k b)) => .int .i64 ((bhOf pre : Nat) : Int))) _) (ownFrom_below (by omega) (by omega))))
    (fun _ _ _ _ _ hs _ _ => hs)
    ⟨hO, hb5, hBel⟩
    (fun y => { tmps := #[.pointer (some ⟨a, 0, none⟩), .int .i64 x, .int .i64 n, .slice pb M cb, undef, undef, undef, undef, .int .i64 0, .int .i64 k, .pointer (some ⟨B, 0, none⟩), .int .i64 ((y.1.1 : Nat) : Int), .pointer (some ⟨a, 0, none⟩), .int .i64 x, .int .i64 k, .int .i64 k, .pointer (some ⟨a, 0, none⟩), .int .i64 x, .int .i64 n, .func (.func 90) #[] #[.pointer (some ⟨B + 1, 0, none⟩), .pointer (some ⟨B + 1 + 1, 0, none⟩), .pointer (some ⟨B + 1 + 2, 0, none⟩)], .int .i64 ((y.1.1 : Nat) : Int), y.1.2.agg, undef, undef, undef, undef, undef, undef, undef, undef, undef, undef, undef, undef, undef, undef, undef, undef, undef, undef, undef, undef, undef, undef, undef, undef, undef, undef, undef, undef, undef, undef, undef, undef], defers := [] })
    ?assign ?body ?done ?stop
  case assign =>
    intro i y W K hK
    unfold Sg.enc
    gi_wp2
    exact hK
  case body =>
    rintro i pre y W ⟨hS, hbx, hBl⟩ hlt
    have e1 := hbx.cell
    have e2 := hbx.frozen
    have hyb := y.2.2.1
    have hyi : ((y.1.1 : Nat) : Int) < 65536 := by omega
    have hyw : IntKind.i64.wrap (((y.1.1 : Nat) : Int) + 1) = ((y.1.1 : Nat) : Int) + 1 := wrap_fit (by unfold fit; omega)
    have hlb := hbx.lt
    gi_wp2
    have tS : Turn (fun j => j = B) W (W.setCell ⟨B, 0, none⟩ (.int .i64 (((y.1.1 : Nat) : Int) + 1))) := (Turn.refl (fun j => j = B) W).setCell (p := ⟨B, 0, none⟩) (.inl rfl) _
    have hks : ∀ j, j = B + 1 ∨ j = B + 1 + 1 ∨ j = B + 1 + 2 ∨ GFoot a v j → ¬ (j = B) := fun j hj e => by
      rcases hj with h | h | h | h
      · omega
      · omega
      · omega
      · have := hft j h; omega
    refine ⟨(KeepsOthers.setCell _ _ _).from _, fun s => s.kept tS hks, hS.kept tS hks, ?_, ?_⟩
    · rw [bhOf_snoc]
      have := set_at hbx 0 (.int .i64 (((y.1.1 : Nat) : Int) + 1))
      simpa [Boxed] using this
    · exact ⟨tS.os.trans hBl.os, tS.tape.trans hBl.tape, tS.output.trans hBl.output, Nat.le_trans hBl.size tS.size, fun j hj => (tS.block j (by have := hBl.size; omega) (by omega)).trans (hBl.block j hj)⟩
  case stop =>
    rintro D c pre W _ _ h _
    exact h.elim
  case done =>
    rintro D ys W hD hI ⟨hS, hbx, hBl⟩ hK
    rw [bhOf_all hI hsk] at hbx
    have hg := hS.mem
    have HS := Lib.hid (And.intro hg (And.intro hbx (And.intro hBl hK)))
    have e1 := hbx.cell
    have e2 := hbx.frozen
    have e3 := hg.c1
    have e4 := hg.c2
    gi_wp2
    refine wpIn_wide.2 ?_
    obtain ⟨pv, cv, hv⟩ := hg.row.slice
    rw [HNM.out.1] at hv
    rw [hv] at e4
    have hl2 := hbx.lt
    have hl3 := lt_of_block hg.head
    obtain ⟨r, hr⟩ : ∃ r, b - k = r := ⟨_, rfl⟩
    obtain ⟨s, hs⟩ : ∃ s, N - r = s := ⟨_, rfl⟩
    obtain ⟨t, ht⟩ : ∃ t, s + M = t := ⟨_, rfl⟩
    have hbk : (b : Int) - k = (r : Int) := by omega
    have hNr : (N : Int) - r = (s : Int) := by omega
    have hsM : (s : Int) + M = (t : Int) := by omega
    have htb : t ≤ 131072 := by omega
    have HV := Lib.hid hv
    have HT := Lib.hid (show t = N - (b - k) + M by omega)
    have TW := Lib.hid (show Turn NoBlock w W from turn_of_below (by rw [hC]; exact hBl))
    clear hr hs ht hv hg hbx hBl
    by_cases hmo : most < (t : Int)
    · go_quiet (fail)
      gi_wp2
      have hKq : (W.drewN nq).heap[D]? = some (.deferred (some [])) := HS.out.2.2.2
      have tq : Turn NoBlock w (W.drewN nq) := TW.out.drewN nq
      obtain ⟨Wq, hWq⟩ : ∃ Wq, Wq = W.drewN nq := ⟨_, rfl⟩
      rw [← hWq] at hKq tq ⊢
      clear hWq
      refine ⟨by simp, .inl ⟨_, _, rfl, run_takeDeferred hKq, ?_⟩⟩
      refine ⟨_, results_tmp rfl _ _ _, .inl ⟨by rw [← HT.out]; exact hmo, rfl, ?_⟩⟩
      exact tq.trans (turn_putObj Wq D (.deferred none)) (fun j hj => .inr (by subst hj; omega))
    · go_quiet (fail)
      obtain ⟨Wq, hWq⟩ : ∃ Wq, Wq = W.drewN nq := ⟨_, rfl⟩
      rw [← hWq]
      have gq : GMem Wq a size most v l := by rw [hWq]; exact HS.out.1.past ((Turn.refl _ _).drewN nq)
      have bq : Boxed Wq B 3 (.int .i64 ((b : Nat) : Int)) := by rw [hWq]; exact HS.out.2.1
      have kq : Wq.heap[D]? = some (.deferred (some [])) := by rw [hWq]; exact HS.out.2.2.2
      have tq : Turn NoBlock w Wq := by rw [hWq]; exact TW.out.drewN nq
      clear hWq e1 e2 e3 e4
      have hvb := HG.out.2.2.2.1.past tq
      have cS := sort_any hvb (by rw [HNM.out.2]; omega)
      have HQ := Lib.hid (And.intro gq (And.intro bq (And.intro kq tq)))
      clear gq bq kq tq hvb
      gi_wp2_with (refine ⟨trivial, ?_⟩; gi_at_call 93; refine (callsIn_wide.2 cS).mono ?_; rintro e w2 ⟨rfl, bl', p2, s2, r2, t2⟩; have K2 := Lib.hid (And.intro p2 (And.intro s2 (And.intro r2 t2))); clear p2 s2 r2 t2)
      have hvbC : ∀ j, Blk (.slice pb M cb) j → j < C := fun j hj => by rw [← hC]; exact (own_prow _ bl).lt w HG.out.2.2.2.1 j hj
      obtain ⟨p2, s2, r2, t2⟩ := K2.out
      obtain ⟨gq, bq, kq, tq⟩ := HQ.out
      have g2 : GMem w2 a size most v l := gq.kept t2 (fun j hj hv => HG.out.2.2.2.2 j hj hv)
      have b2 : Boxed w2 B 3 (.int .i64 ((b : Nat) : Int)) := t2.heap bq (fun hv => by have := hvbC _ hv; omega)
      have k2 : w2.heap[D]? = some (.deferred (some [])) := t2.heap kq (fun hv => by have := hvbC _ hv; omega)
      have hbl2 : bl'.length = M := by rw [p2.length_eq, HNM.out.2]
      have cR := replace_any (w := w2.drew) (v := v) (vb := .slice pb M cb) g2.row r2 (fun j hj hv => HG.out.2.2.2.2 j (.inr hj) hv) k b hsk (by rw [HNM.out.1]; exact hsb) (by rw [HNM.out.1, hbl2]; omega)
      have e4 := g2.c2
      have e5 : w2.drew.cell? ⟨a, 2, none⟩ = some v := g2.c2
      have e2 := b2.cell
      have e6 : w2.drew.cell? ⟨B, 0, none⟩ = some (.int .i64 ((b : Nat) : Int)) := b2.cell
      rw [HV.out] at e4 e5 cR
      have hvB : ∀ j, Blk (.slice pv N cv) j → j ≠ B ∧ j ≠ D ∧ j ≠ a := fun j hj => by
        rw [← HV.out] at hj
        have := hft j (.inr hj)
        refine ⟨by omega, by omega, fun e => ?_⟩
        subst e
        obtain ⟨cur, hcu⟩ := own_block g2.row hj
        rw [g2.head] at hcu
        simp at hcu
      have hw2 : Turn (fun j => GFoot a v j ∨ Blk (.slice pb M cb) j) w w2 := (tq.mono (fun _ h => h.elim)).trans t2 (fun j hj => .inl (.inr hj))
      have HE := Lib.hid (And.intro g2 (And.intro b2 (And.intro k2 (And.intro hw2 (And.intro p2 s2)))))
      have hal := lt_of_block g2.head
      have hff := g2.f 2
      clear p2 s2 r2 t2 gq bq kq tq g2 b2 k2 hw2 hbl2
      refine wpIn_wide.2 ?_
      refine wp_calm ?_
      go_region_with (first | (go_at_call 95; (with_reducible refine cR.mono ?_); rintro e w3 ⟨v3, rfl, h3⟩; obtain ⟨p3, c3, hv3⟩ := h3.row.slice; have a3 := h3.turn.heap (show w2.drew.heap[a]? = _ from HE.out.1.head) (fun hv => (hvB _ hv).2.2 rfl); have e8 := cell_at a3 2; have e9 := free_at a3 2; simp at e8; have K3 := Lib.hid (And.intro h3 a3); clear h3 a3))
      all_goals
        dsimp only
        gi_wp2
        obtain ⟨h3, a3⟩ := K3.out
        obtain ⟨g2, b2, k2, hw2, p2, s2⟩ := HE.out
        have hv4 : Value.slice p3 (min k l.length + (bl'.length + (l.length - b))) c3 = v3 := by rw [hv3]; simp
        rw [hv4]
        have haC : a < C := hft a (.inl rfl)
        have hDl := lt_of_block k2
        have k3 : w3.heap[D]? = some (.deferred (some [])) := h3.turn.heap (show w2.drew.heap[D]? = _ from k2) (fun hv => (hvB _ hv).2.1 rfl)
        have a6 := set_at a3 2 v3
        have k6 := set_past k3 (p := ⟨a, 2, none⟩) (by show D ≠ a; omega) v3
        have t3 : Turn (fun j => j = a) w3 (w3.setCell ⟨a, 2, none⟩ v3) := (Turn.refl (fun j => j = a) w3).setCell (p := ⟨a, 2, none⟩) (.inl rfl) _
        obtain ⟨W6, hW6⟩ : ∃ W6, W6 = w3.setCell ⟨a, 2, none⟩ v3 := ⟨_, rfl⟩
        rw [← hW6] at a6 k6 t3 ⊢
        clear hW6
        refine ⟨by simp, .inl ⟨_, _, rfl, run_takeDeferred k6, ?_⟩⟩
        refine ⟨_, results_tmp rfl _ _ _, .inr ⟨by rw [← HT.out]; exact hmo, rfl, ?_⟩⟩
        have tp := turn_putObj W6 D (.deferred none)
        have ha3 : ∀ j, Blk v3 j → j ≠ a ∧ j ≠ D := fun j hj => by
          rcases h3.at' j hj with h | h
          · exact ⟨(hvB j h).2.2, (hvB j h).2.1⟩
          · have : w2.heap.size ≤ j := h
            exact ⟨by omega, by omega⟩
        have g6 : GMem W6 a size most v3 (l.take k ++ bl' ++ l.drop b) := ⟨by simpa using a6, (own_prow v3 _).kept _ _ _ h3.row t3 (fun j hj e => (ha3 j hj).1 e)⟩
        have g7 := g6.kept tp (fun j hj e => by
          subst e
          rcases hj with h | h
          · omega
          · exact (ha3 _ h).2 rfl)
        refine ⟨⟨v3, bl', p2, s2, g7, ?_⟩, ?_⟩
        · rintro j (rfl | hj)
          · exact .inl (.inl rfl)
          · rcases h3.at' j hj with h | h
            · exact .inl (.inr (by rw [HV.out]; exact h))
            · exact .inr (Nat.le_trans hw2.size h)
        · have q1 := hw2.drew.trans h3.turn (fun j hj => .inl (.inl (.inr (by rw [HV.out]; exact hj))))
          have q2 := q1.trans t3 (fun j hj => by subst hj; exact .inl (.inl (.inl rfl)))
          exact q2.trans tp (fun j hj => by subst hj; exact .inr (by omega))
end Go.Proofs.Ytdddmjdlikjedaa
