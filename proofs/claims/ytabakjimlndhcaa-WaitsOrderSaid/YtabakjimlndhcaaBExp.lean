/-
  Expire: who is told, and who waits still. Conditions: the waits lie in memory.
-/
import Derived.Test.YtabakjimlndhcaaBExp0
import Derived.Test.YtabakjimlndhcaaBThreads
namespace Go.Proofs.Ytabakjimlndhcaa
open Go.ChangeShapes Go.WideShapes Go.ChangeAt Go.RowKit Go.Shelf

attribute [local go_sem] Oper.semAt_some

section
variable {w : World} {c tm lm : Nat} {most : Int} {G : List Gw} {r : Int → Nat} {K : List Int}
theorem ex_new (w : World) (c : Nat) (now : Int) (E : Nat) (hs : w.heap.size = E) : ∃ W, (((w.alloc (.cells #[.int .i64 now] 3)).alloc (.cells #[.slice none 0 0] 114)).alloc (.cells #[.pointer (some ⟨c, 0, none⟩)] 23)).alloc (.cells #[.int .i64 0] 3) = W ∧
    W.heap[E]? = some (.cells #[.int .i64 now] 3 (0, 0)) ∧ W.heap[E + 1]? = some (.cells #[.slice none 0 0] 114 (0, 0)) ∧ W.heap[E + 2]? = some (.cells #[.pointer (some ⟨c, 0, none⟩)] 23 (0, 0)) ∧ W.heap[E + 3]? = some (.cells #[.int .i64 0] 3 (0, 0)) ∧ W.heap.size = E + 4 ∧ Turn NoBlock w W := by
  obtain ⟨W0, h0⟩ : ∃ W1, w.alloc (.cells #[.int .i64 now] 3) = W1 := ⟨_, rfl⟩
  obtain ⟨W1, h1⟩ : ∃ W1, W0.alloc (.cells #[.slice none 0 0] 114) = W1 := ⟨_, rfl⟩
  obtain ⟨W2, h2⟩ : ∃ W2, W1.alloc (.cells #[.pointer (some ⟨c, 0, none⟩)] 23) = W2 := ⟨_, rfl⟩
  obtain ⟨W3, h3⟩ : ∃ W3, W2.alloc (.cells #[.int .i64 0] 3) = W3 := ⟨_, rfl⟩
  have s0 : W0.heap.size = E + 1 := by rw [← h0]; simp [hs]
  have s1 : W1.heap.size = E + 2 := by rw [← h1]; simp [s0]
  have s2 : W2.heap.size = E + 3 := by rw [← h2]; simp [s1]
  have s3 : W3.heap.size = E + 4 := by rw [← h3]; simp [s2]
  have t0 : Turn NoBlock w W0 := by rw [← h0]; exact (Turn.refl _ _).alloc _
  have t1 : Turn NoBlock W0 W1 := by rw [← h1]; exact (Turn.refl _ _).alloc _
  have t2 : Turn NoBlock W1 W2 := by rw [← h2]; exact (Turn.refl _ _).alloc _
  have t3 : Turn NoBlock W2 W3 := by rw [← h3]; exact (Turn.refl _ _).alloc _
  have n0 := heap_alloc_new w (.cells #[.int .i64 now] 3)
  have n1 := heap_alloc_new W0 (.cells #[.slice none 0 0] 114)
  have n2 := heap_alloc_new W1 (.cells #[.pointer (some ⟨c, 0, none⟩)] 23)
  have n3 := heap_alloc_new W2 (.cells #[.int .i64 0] 3)
  rw [h0, hs] at n0
  rw [h1, s0] at n1
  rw [h2, s1] at n2
  rw [h3, s2] at n3
  exact ⟨W3, by rw [h0, h1, h2, h3], (TT t1 (TT t2 t3)).heap n0 (fun h => h), (TT t2 t3).heap n1 (fun h => h), t3.heap n2 (fun h => h), n3, s3, TT t0 (TT t1 (TT t2 t3))⟩
/-- What Expire leaves. -/
structure Expd (w : World) (c : Nat) (most : Int) (tm lm : Nat) (G : List Gw) (r : Int → Nat) (K : List Int) (now : Int) (v : Value) (w' : World) : Prop where
  ex : ∃ D : List { g : Gw // g ∈ G }, D.Perm (dueL G now) ∧ D.Pairwise (fun p q => ¬ befW q.1.a p.1.a) ∧ KRow v (D.map (fun y => woke y.1.a)) w'
  mem : ∃ K', (∀ n ∈ K', n ∈ K) ∧ WM w' c most tm lm (G.filter (fun g => !dueB now g)) r K'
  turn : Turn (GFoot c tm lm G r K) w w'
  fr : ∀ k, Blk v k → w.heap.size ≤ k
set_option linter.unusedSimpArgs false in
set_option linter.unusedVariables false in
set_option maxRecDepth 100000 in
set_option maxHeartbeats 4000000 in
theorem expire_any (h : WM w c most tm lm G r K) (now : Int) : Calls Try.prog 19 #[.pointer (some ⟨c, 0, none⟩), .int .i64 now] w fun e w' => ∃ v, e = .returned v ∧ Expd w c most tm lm G r K now v w' := by
  obtain ⟨E, hE⟩ : ∃ E, w.heap.size = E := ⟨_, rfl⟩
  have HM := Lib.hid h
  have HE := Lib.hid hE
  clear h
  refine (callsIn_wide (n := 6)).1 ?_
  refine callsIn_of_wp_marks (F := Fence.wide) Try.func19 rfl trivial ?_ rfl
  simp only [Try.ntmps19, List.size_toArray, List.length_cons, List.length_nil, Nat.reduceAdd, Nat.reduceSub, Array.replicate_succ, Array.replicate_zero, List.push_toArray, List.append_toArray, List.nil_append, List.cons_append]
  gi_wp2_with (refine ⟨trivial, ?_⟩; gi_at_call 58; refine (callsIn_wide.2 (line_any c 0 _)).mono ?_; rintro e w' ⟨rfl, rfl⟩)
  obtain ⟨W0, hW0, hb0, hb1, hb2, hb3, hsz, hT⟩ := ex_new w c now E hE
  simp only [hE, Nat.add_assoc, Nat.reduceAdd]
  rw [hW0]
  have hI0 : ExInv w E c most tm lm G r K now [] W0 := ⟨Nat.zero_le _, HM.out.past hT, hb0, ⟨_, hb1, wrow_nil _ _ _, fun k hk => (blk_nil k hk).elim⟩, hb2, hb3, hT⟩
  have HZ := Lib.hid hsz
  clear hW0 hb0 hb1 hb2 hb3 hT
  refine range2 (gf := 82) (lb := #[.pointer (some ⟨E + 2, 0, none⟩), .pointer (some ⟨E + 3, 0, none⟩)]) rfl (enters_of Try.func82 (by kernel_rfl) rfl)
    (line_gives (E + 2) (E + 3) c 0 (r 0) (stdP G 0)) (fun _ => rfl)
    (fun pre X => ExInv w E c most tm lm G r K now pre X)
    (fun _ _ _ => False) ?hI ?hIx (fun pre W h => h.mem.see0 h.le h.b2 h.b3) hI0
    (fun x a' X => a' = { tmps := #[.pointer (some ⟨c, 0, none⟩), .int .i64 now, undef, .pointer (some ⟨E, 0, none⟩), .slice none 0 0, .pointer (some ⟨E + 1, 0, none⟩), .pointer (some ⟨x.2, 0, none⟩), undef, undef, undef, .pointer (some ⟨c, 0, none⟩), .func (.func 82) #[] #[.pointer (some ⟨E + 2, 0, none⟩), .pointer (some ⟨E + 3, 0, none⟩)], .pointer (some ⟨x.2, 0, none⟩), undef, undef, undef, undef, undef, undef, undef, undef, undef, undef, undef, undef, undef, undef, undef, undef, undef, undef, undef, undef, undef, undef, undef, undef, undef, undef, undef, undef, undef, undef, undef], defers := [] }) ?hAx ?assign ?body ?done ?stop
  case hI => exact exinv_own HM.out HE.out (by omega)
  case hIx => exact fun cc pre X Y row h => h.elim
  case hAx => exact fun x a' pre X Y row h _ _ => h
  case stop => exact fun D cc pre X _ _ h => h.elim
  case assign =>
    rintro l pre ⟨xb, xx⟩ X K' hi hok hX hK
    have HK := Lib.hid hK
    have HI := Lib.hid hi
    clear hi hK hok
    dsimp only [ptr]
    gi_wp2
    exact HK.out _ _ (KeepsAll.refl _ _) HI.out rfl
  case body =>
    rintro l pre ⟨xb, xx⟩ a' X hX hi rfl hok
    obtain ⟨g, hg, hgx⟩ := std_at HM.out.ok hok
    subst hgx
    have hgm := List.mem_of_getElem? hg
    have hob := hi.mem.mem.obj g hgm
    have Z0 := Lib.hid (show X.drew.cell? ⟨g.x, 1, none⟩ = some (.int .i64 g.a.d) ∧ X.drew.cell? ⟨E, 0, none⟩ = some (.int .i64 now) from ⟨hob.x1, cell_at hi.b0 0⟩)
    have HG := Lib.hid hg
    have HI := Lib.hid hi
    obtain ⟨bb, hbb⟩ : ∃ bb, dueB now g = bb := ⟨_, rfl⟩
    have HBB := Lib.hid hbb
    have HDD := Lib.hid (show decide (g.a.d ≤ now) = bb from hbb)
    clear hi hok hg hgm hob hbb hX hI0 hsz hE
    gi_wp2
    refine round_held (S := fun W => W.cell? ⟨g.x, 1, none⟩ = some (.int .i64 g.a.d) ∧ W.cell? ⟨E, 0, none⟩ = some (.int .i64 now)) (by kernel_rfl) (by kernel_rfl) (fun ⟨a, w, h⟩ => h) Z0.out (fun _ => ?_)
    refine wpAnyH_take (i := 0) (oi := ?oi1) (v := ?v1) ?hi1 (by kernel_rfl) (by kernel_rfl) (by kernel_rfl) ?hq1 (Or.inl ⟨?hw1, ?hy1⟩) Z0.out ?rest1
    case hi1 => rfl
    case hq1 => exact fun c a w h => h
    case hw1 => rfl
    case hy1 => (intro w hSw; go_simp; (try (with_reducible rfl)))
    (try simp only [Act.put, List.setIfInBounds_toArray, List.set_cons_zero, List.set_cons_succ])
    refine wpAnyH_take (i := 1) (oi := ?oi2) (v := ?v2) ?hi2 (by kernel_rfl) (by kernel_rfl) (by kernel_rfl) ?hq2 (Or.inl ⟨?hw2, ?hy2⟩) Z0.out ?rest2
    case hi2 => rfl
    case hq2 => exact fun c a w h => h
    case hw2 => rfl
    case hy2 => (intro w hSw; go_simp; (try (with_reducible rfl)))
    (try simp only [Act.put, List.setIfInBounds_toArray, List.set_cons_zero, List.set_cons_succ])
    refine wpAnyH_take (i := 2) (oi := ?oi3) (v := ?v3) ?hi3 (by kernel_rfl) (by kernel_rfl) (by kernel_rfl) ?hq3 (Or.inl ⟨?hw3, ?hy3⟩) Z0.out ?rest3
    case hi3 => rfl
    case hq3 => exact fun c a w h => h
    case hw3 => rfl
    case hy3 => (intro w hSw; go_simp; (try (with_reducible rfl)))
    (try simp only [Act.put, List.setIfInBounds_toArray, List.set_cons_zero, List.set_cons_succ])
    refine wpAnyH_take (i := 3) (oi := ?oi4) (v := ?v4) ?hi4 (by kernel_rfl) (by kernel_rfl) (by kernel_rfl) ?hq4 (Or.inl ⟨?hw4, ?hy4⟩) Z0.out ?rest4
    case hi4 => rfl
    case hq4 => exact fun c a w h => h
    case hw4 => rfl
    case hy4 => (intro w hSw; go_simp; (try (with_reducible rfl)))
    (try simp only [Act.put, List.setIfInBounds_toArray, List.set_cons_zero, List.set_cons_succ])
    refine wpAnyH_take (i := 4) (oi := ?oi5) (v := ?v5) ?hi5 (by kernel_rfl) (by kernel_rfl) (by kernel_rfl) ?hq5 (Or.inl ⟨?hw5, ?hy5⟩) Z0.out ?rest5
    case hi5 => rfl
    case hq5 => exact fun c a w h => h
    case hw5 => rfl
    case hy5 => (intro w hSw; go_simp; (try (with_reducible rfl)))
    (try simp only [Act.put, List.setIfInBounds_toArray, List.set_cons_zero, List.set_cons_succ])
    refine wpAnyH_take (i := 5) (oi := ?oi6) (v := ?v6) ?hi6 (by kernel_rfl) (by kernel_rfl) (by kernel_rfl) ?hq6 (Or.inl ⟨?hw6, ?hy6⟩) Z0.out ?rest6
    case hi6 => rfl
    case hq6 => exact fun c a w h => h
    case hw6 => rfl
    case hy6 => (intro w hSw; go_simp; (try (with_reducible rfl)))
    (try simp only [Act.put, List.setIfInBounds_toArray, List.set_cons_zero, List.set_cons_succ])
    refine wpAnyH_done (by kernel_rfl) ?_ _
    cases bb with
    | false =>
      have hd : ¬ g.a.d ≤ now := of_decide_eq_false HDD.out
      gi_wp2
      exact ⟨keeps_low (B := W0.heap.size) (Turn.refl NoBlock X).drew (fun _ h => h.elim), HI.out.drew.miss HG.out HBB.out⟩
    | true =>
      have hd : g.a.d ≤ now := of_decide_eq_true HDD.out
      obtain ⟨p, n, cap, p', cap', W9, q1, hap, q9, f9, HH⟩ := HI.out.drew.hit (x := (xb, g.x)) HM.out HE.out HG.out HBB.out
      gi_wp2_with (gi_at_builtin; refine wpListIn_append_run rfl (.tmp 19) (.tmp 21) 114 114 rfl _ _ rfl rfl _ _ hap ?_)
      exact ⟨by rw [HZ.out]; exact (keeps_low (B := E + 4) (Turn.refl NoBlock X).drew (fun _ h => h.elim)).trans HH.out.2, HH.out.1⟩
  case done =>
    rintro D xs X hD hxl hi hK
    obtain ⟨v, hv1, hrow, hvf⟩ := hi.ex
    have hl : xs.length = G.length := by rw [← std_len G HM.out.ok]; exact hxl
    rw [hl, List.take_length, ← dueL_ptrs] at hrow
    have hD4 : E + 4 ≤ D := by rw [← HZ.out]; exact hD
    have c1 : X.cell? ⟨E + 1, 0, none⟩ = some v := cell_at hv1 0
    have hx1 := lt_of_block hv1
    obtain ⟨pv, cv, hveq⟩ := WRow.sl hrow
    obtain ⟨N, hN⟩ : ∃ N, (ptrs (dueL G now)).length = N := ⟨_, rfl⟩
    have hNl : (dueL G now).length = N := by rw [← hN]; unfold ptrs; rw [List.length_map]
    have hN6 : N ≤ 65536 := by rw [← hNl]; exact Nat.le_trans (dueL_len G now) HM.out.len
    rw [hN] at hveq
    subst hveq
    have HN := Lib.hid hNl
    have CS := Lib.hid (sort_due (w := X) (G := G) (fun g hg => hi.mem.mem.obj g hg) hrow (Nat.le_trans (dueL_len G now) (by have := HM.out.len; omega)))
    have HI := Lib.hid (And.intro hi (And.intro hv1 (And.intro hrow (And.intro hvf (And.intro hK hD4)))))
    clear hi hrow hvf hK hD hI0 hsz hl hxl hD4 hE hN hNl
    gi_wp2_with (refine ⟨trivial, ?_⟩; gi_at_call 59; refine (callsIn_wide.2 CS.out).mono ?_; rintro e X1 ⟨rfl, L, hp, hso, hr1, t1⟩; have HS := Lib.hid (And.intro hp (And.intro hso (And.intro hr1 t1))); have c11 := t1.cell c1 (fun hk => blk_typed HI.out.2.2.1 (⟨_, HI.out.2.1⟩ : TBlk X (E + 1) 114) (by decide) hk); clear hp hso hr1 t1)
    obtain ⟨hp, hso, hr1, t1⟩ := HS.out
    obtain ⟨hi, hv1, hrow, hvf, hK, hD4⟩ := HI.out
    have hL : L.length = N := by rw [hp.length_eq]; exact HN.out
    have hpp : (ptrs L).Perm (ptrs (dueL G now)) := hp.map _
    have hnod : (ptrs L).Nodup := hpp.nodup_iff.2 (dueL_nodup hi.mem.mem.xs)
    have H0 := Lib.hid (show ExLoop w E c most tm lm G r K L (.slice pv N cv) D 0 (.slice none 0 0) X1 from
      ⟨⟨K, fun _ h => h, by
        show WM X1 c most tm lm (restX G []) r K
        rw [rest_nil]
        exact hi.mem.kept t1 (fun k hk hb => by have := HM.out.mem.lt hk; have := hvf k hb; have := HE.out; omega)⟩, hr1, wrow_nil _ _ _, hvf, fun k hk => (blk_nil k hk).elim, ⟨t1.heap hK (fun hb => by
          obtain ⟨cur, hc⟩ := WRow.typed hrow hb
          have := hK
          rw [hc] at this
          cases this), hD4⟩, ((TU hi.turn).trans t1 (fun k hk => .inr (by have := hvf k hk; have := HE.out; omega)))⟩)
    have HL := Lib.hid (And.intro hL (And.intro hnod (And.intro hp hso)))
    clear hp hso hr1 t1 hi hv1 hrow hvf hK hD4 hL hnod hpp c1 hx1 c11
    gi_loopg [7, 9, 27] N (fun z s7 s9 s27 wr => ∃ i : Nat, i ≤ N ∧ z = N - i ∧ s27 = .int .i64 (i : Int) ∧ Hid (ExLoop w E c most tm lm G r K L (.slice pv N cv) D i s7 wr))
    case atStart => exact ⟨0, by omega, by omega, rfl, H0⟩
    case round =>
      obtain ⟨i, hi, hz, rfl, HX⟩ := hrel
      by_cases hlt : i < N
      · have hin : (i : Int) < (N : Int) := by omega
        obtain ⟨y, hy⟩ : ∃ y, L[i]? = some y := ⟨_, List.getElem?_eq_getElem (by rw [HL.out.1]; exact hlt)⟩
        obtain ⟨p, n, cap, p', cap', W9, hs7, x0, hap, HD⟩ := HX.out.next HM.out HE.out HL.out.2.1 (by rw [HL.out.1]; exact hN6) hy
        subst hs7
        have hrow := HX.out.rowD
        obtain ⟨ga, go, gc, he, -⟩ := WRow.shape hrow (by show 0 < (ptrs L).length; unfold ptrs; rw [List.length_map, HL.out.1]; omega)
        simp only [Value.slice.injEq] at he
        obtain ⟨rfl, -, rfl⟩ := he
        have q1 : wr.cell? ⟨ga, go + i, none⟩ = some (.pointer (some ⟨y.1.x, 0, none⟩)) := hrow.one (j := i) (b := y.1.x) (by unfold ptrs; rw [List.getElem?_map, hy]; rfl)
        clear hrow hy
        gi_wp2_with (first
          | (gi_at_builtin; refine wpListIn_append_run rfl (.tmp 31) (.tmp 37) 42 42 rfl _ _ rfl rfl _ _ hap ?_)
          | (refine ⟨trivial, ?_⟩; gi_at_call 61; refine (callsIn_wide.2 HD.out).mono ?_; rintro e Y ⟨rfl, hy2⟩; have HY := Lib.hid hy2; clear hy2))
        gi_roundg (N - (i + 1))
        case measure => omega
        case rel => exact ⟨i + 1, by omega, by omega, by go_num, HY⟩
      · obtain rfl : i = N := by omega
        gi_wp2
        have hX := HX.out
        have htl : L.take i = L := List.take_of_length_le (by rw [HL.out.1]; exact Nat.le_refl _)
        have tp := turn_putObj wr D (.deferred none)
        refine ⟨by simp, .inl ⟨_, _, rfl, run_takeDeferred hX.dk.1, ?_⟩⟩
        refine ⟨_, results_tmp rfl _ _ _, _, rfl, ?_⟩
        obtain ⟨K', hs, hm⟩ := hX.mem
        have hrk := hX.rowK
        have hD4 := hX.dk.2
        rw [htl] at hm hrk
        rw [rest_due HL.out.2.2.1 HM.out.mem.xs] at hm
        refine ⟨⟨L, HL.out.2.2.1, HL.out.2.2.2, hrk.kept tp (fun k hk e => ?_)⟩, ⟨K', hs, hm.kept tp (fun k hk e => ?_)⟩, hX.turn.trans tp (fun k hk => .inr (by have := HE.out; omega)), fun k hk => by have := hX.frK k hk; have := HE.out; omega⟩
        · subst e
          obtain ⟨cur, hc⟩ := WRow.typed hrk hk
          have := hX.dk.1
          rw [hc] at this
          cases this
        · have := (foot_lt HM.out.mem (fun y hy => (List.mem_filter.1 hy).1) hs hk).2
          have := HE.out
          omega
end
end Go.Proofs.Ytabakjimlndhcaa
