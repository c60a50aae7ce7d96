/-
  Threads: who waits, in the order in which they blocked. Conditions: the waits lie in memory.
-/
import Derived.Test.YtabakjimlndhcaaBTh0
namespace Go.Proofs.Ytabakjimlndhcaa
open Go.ChangeShapes Go.WideShapes Go.ChangeAt Go.RowKit Go.Shelf

attribute [local go_sem] Oper.semAt_some

section
variable {w : World} {c tm lm : Nat} {most : Int} {G : List Gw} {r : Int → Nat} {K : List Int}
theorem th_new (w1 : World) (c E N : Nat) (hs : w1.heap.size = E + 1) : ∃ W, ((w1.alloc (.cells #[.slice (some ⟨E, 0, none⟩) 0 N] 53)).alloc (.cells #[.pointer (some ⟨c, 0, none⟩)] 23)).alloc (.cells #[.int .i64 0] 3) = W ∧
    W.heap[E + 1]? = some (.cells #[.slice (some ⟨E, 0, none⟩) 0 N] 53 (0, 0)) ∧ W.heap[E + 2]? = some (.cells #[.pointer (some ⟨c, 0, none⟩)] 23 (0, 0)) ∧ W.heap[E + 3]? = some (.cells #[.int .i64 0] 3 (0, 0)) ∧ W.heap.size = E + 4 ∧ Turn NoBlock w1 W := by
  obtain ⟨W1, h1⟩ : ∃ W1, w1.alloc (.cells #[.slice (some ⟨E, 0, none⟩) 0 N] 53) = W1 := ⟨_, rfl⟩
  obtain ⟨W2, h2⟩ : ∃ W2, W1.alloc (.cells #[.pointer (some ⟨c, 0, none⟩)] 23) = W2 := ⟨_, rfl⟩
  obtain ⟨W3, h3⟩ : ∃ W3, W2.alloc (.cells #[.int .i64 0] 3) = W3 := ⟨_, rfl⟩
  have s1 : W1.heap.size = E + 2 := by rw [← h1]; simp [hs]
  have s2 : W2.heap.size = E + 3 := by rw [← h2]; simp [s1]
  have s3 : W3.heap.size = E + 4 := by rw [← h3]; simp [s2]
  have t1 : Turn NoBlock w1 W1 := by rw [← h1]; exact (Turn.refl _ _).alloc _
  have t2 : Turn NoBlock W1 W2 := by rw [← h2]; exact (Turn.refl _ _).alloc _
  have t3 : Turn NoBlock W2 W3 := by rw [← h3]; exact (Turn.refl _ _).alloc _
  have n1 := heap_alloc_new w1 (.cells #[.slice (some ⟨E, 0, none⟩) 0 N] 53)
  have n2 := heap_alloc_new W1 (.cells #[.pointer (some ⟨c, 0, none⟩)] 23)
  have n3 := heap_alloc_new W2 (.cells #[.int .i64 0] 3)
  rw [h1, hs] at n1
  rw [h2, s1] at n2
  rw [h3, s2] at n3
  exact ⟨W3, by rw [h1, h2, h3], (TT t2 t3).heap n1 (fun h => h), t3.heap n2 (fun h => h), n3, s3, TT t1 (TT t2 t3)⟩
set_option linter.unusedSimpArgs false in
set_option linter.unusedVariables false in
set_option maxRecDepth 100000 in
set_option maxHeartbeats 4000000 in
theorem threads_any (h : WM w c most tm lm G r K) : Calls Try.prog 26 #[.pointer (some ⟨c, 0, none⟩)] w fun e w' => ∃ v, e = .returned v ∧ Nums v (G.map (fun g => g.a.t)) w' ∧ Turn NoBlock w w' ∧ ∀ k, Blk v k → w.heap.size ≤ k := by
  obtain ⟨N, hN⟩ : ∃ N, G.length = N := ⟨_, rfl⟩
  have hN6 := h.len
  rw [hN] at hN6
  have c1 := h.mem.c1
  have hl := fun ty => h.mem.tmap.len tmapU ty
  rw [hN] at hl
  obtain ⟨E, hE⟩ : ∃ E, w.heap.size = E := ⟨_, rfl⟩
  obtain ⟨i5, hi5, hz5, hs5, hb5⟩ := info_parts infoI
  have H5 := Lib.hid (And.intro hi5 (And.intro hz5 (And.intro hs5 hb5)))
  have hmk := run_make (P := Try.prog) w 53 3 i5 (.int .i64 0) intsT hi5 hz5 .i64 .i64 0 (N : Int) (Int.le_refl _) (by omega) (by rw [hb5]; omega) (by omega)
  simp only [Int.toNat_zero, Int.toNat_natCast] at hmk
  have hown := World.ownsRow_made w (base := 0) (e := 3) (size := 1) (madeCells (Value.int .i64 0).cells (N * i5.size)) N (Nat.zero_le _) (by unfold maxLen; omega) (by rw [hs5]; exact size_madeCells _ _)
  have tm1 : Turn NoBlock w (w.alloc (.cells (madeCells (Value.int .i64 0).cells (N * i5.size)) 3)) := (Turn.refl _ w).alloc _
  have hs2 : (w.alloc (.cells (madeCells (Value.int .i64 0).cells (N * i5.size)) 3)).heap.size = E + 1 := by simp [hE]
  generalize w.alloc (.cells (madeCells (Value.int .i64 0).cells (N * i5.size)) 3) = w1 at *
  rw [hE] at hmk hown
  have HM := Lib.hid h
  have HE := Lib.hid hE
  have HO := Lib.hid (And.intro (WRow.of_own hown) (And.intro tm1 hN))
  clear h hi5 hz5 hs5 hb5 hown tm1 hN hE
  refine (callsIn_wide (n := 6)).1 ?_
  refine callsIn_of_wp_marks (F := Fence.wide) Try.func26 rfl trivial ?_ rfl
  simp only [Try.ntmps26, List.size_toArray, List.length_cons, List.length_nil, Nat.reduceAdd, Nat.reduceSub, Array.replicate_succ, Array.replicate_zero, List.push_toArray, List.append_toArray, List.nil_append, List.cons_append]
  gi_wp2_with (refine ⟨trivial, ?_⟩; gi_at_call 58; refine (callsIn_wide.2 (line_any c 0 _)).mono ?_; rintro e w' ⟨rfl, rfl⟩)
  obtain ⟨W0, hW0, hb1, hb2, hb3, hsz, hT⟩ := th_new w1 c E N hs2
  simp only [Nat.add_assoc, Nat.reduceAdd]
  rw [hW0]
  have hI0 : ThInv w E c most tm lm G r K [] W0 := ⟨Nat.zero_le _, (HM.out.past HO.out.2.1).past hT, ⟨_, hb1, (HO.out.1).past hT, fun k hk => .inl (by simpa [Blk, Value.ownBlock, eq_comm] using hk)⟩, hb2, hb3, TT HO.out.2.1 hT⟩
  have HZ := Lib.hid hsz
  clear hW0 hb1 hb2 hb3 hT hmk hs2 hl
  refine range2 (gf := 82) (lb := #[.pointer (some ⟨E + 2, 0, none⟩), .pointer (some ⟨E + 3, 0, none⟩)]) rfl (enters_of Try.func82 (by kernel_rfl) rfl)
    (line_gives (E + 2) (E + 3) c 0 (r 0) (stdP G 0)) (fun _ => rfl)
    (fun pre X => ThInv w E c most tm lm G r K pre X)
    (fun _ _ _ => False) ?hI ?hIx (fun pre W h => h.mem.see0 h.le h.b2 h.b3) hI0
    (fun x a' X => a' = { tmps := #[.pointer (some ⟨c, 0, none⟩), undef, .slice none 0 0, .pointer (some ⟨E + 1, 0, none⟩), .pointer (some ⟨x.2, 0, none⟩), .pointer (some ⟨c, 0, none⟩), .pointer (some ⟨c, 0, none⟩), .pointer (some ⟨c, 1, none⟩), .map (some tm), .int .i64 (N : Int), .slice (some ⟨E, 0, none⟩) 0 N, .pointer (some ⟨c, 0, none⟩), .func (.func 82) #[] #[.pointer (some ⟨E + 2, 0, none⟩), .pointer (some ⟨E + 3, 0, none⟩)], .pointer (some ⟨x.2, 0, none⟩), undef, undef, undef, undef, undef, undef, undef, undef], defers := [] }) ?hAx ?assign ?body ?done ?stop
  case hI => exact thinv_own HM.out HE.out (by omega)
  case hIx => exact fun cc pre X Y row h => h.elim
  case hAx => exact fun x a' pre X Y row h _ _ => h
  case stop => exact fun D cc pre X _ _ h => h.elim
  case assign =>
    rintro l pre ⟨xb, xx⟩ X K' hi hok hX hK
    have HK := Lib.hid hK
    have HI := Lib.hid hi
    clear hi hK hok
    dsimp only [ptr]
    gi_wp2
    exact HK.out _ _ (KeepsAll.refl _ _) HI.out rfl
  case body =>
    rintro l pre ⟨xb, xx⟩ a' X hX hi rfl hok
    obtain ⟨g, hg, hgx⟩ := std_at HM.out.ok hok
    subst hgx
    have hgm := List.mem_of_getElem? hg
    have hob := hi.mem.mem.obj g hgm
    have x0 := hob.x0
    have xl := hob.xt.lt
    obtain ⟨v, hv1, hrow, hvf⟩ := hi.ex
    obtain ⟨pv, cv, rfl⟩ := WRow.sl hrow
    have hnl : ((G.take pre.length).map (fun g => g.a.t)).length = (G.take pre.length).length := List.length_map _
    have hle : (G.take pre.length).length ≤ 65536 := by rw [List.length_take]; have := HM.out.len; omega
    unfold Nums at hrow
    rw [hnl] at hrow hv1
    obtain ⟨M, hMn⟩ : ∃ M, (G.take pre.length).length = M := ⟨_, rfl⟩
    have hty : TBlk X (E + 1) 53 := ⟨_, hv1⟩
    have hEB : ¬ Blk (.slice pv M cv) (E + 1) := fun hk => by
      rw [← hMn, ← hnl] at hk
      rcases hvf _ hk with h4 | h4 <;> omega
    rw [hMn] at hrow hv1
    have e1 : X.cell? ⟨E + 1, 0, none⟩ = some (.slice pv M cv) := cell_at hv1 0
    have el := hty.lt
    have TA := Lib.hid (show Turn NoBlock X (X.drew.alloc (.cells #[.int .i64 g.a.t] 3)) from ((Turn.refl _ X).drew).alloc _)
    have HROW := Lib.hid hrow
    have HEB := Lib.hid hEB
    have HTY := Lib.hid hty
    have F := Lib.hid (show M + 1 ≤ maxLen ∧ (M + 1) * 8 ≤ 140737488355328 from ⟨by unfold maxLen; omega, by omega⟩)
    have Z0 := Lib.hid (show X.drew.cell? ⟨g.x, 0, none⟩ = some (.int .i64 g.a.t) from x0)
    have ZA := Lib.hid (show (X.drew.alloc (.cells #[.int .i64 g.a.t] 3)).cell? ⟨g.x, 0, none⟩ = some (.int .i64 g.a.t) from TA.out.cell x0 (fun h => h))
    have hxv : ¬ Blk (.slice pv M cv) g.x := fun hk => (hob.xt.unlike (hrow.typed hk) (by decide)) rfl
    have Z9 := Lib.hid (show ∀ W9, Turn (Blk (.slice pv M cv)) (X.drew.alloc (.cells #[.int .i64 g.a.t] 3)) W9 → W9.cell? ⟨g.x, 0, none⟩ = some (.int .i64 g.a.t) from fun W9 t9 => t9.cell ZA.out hxv)
    have hxE : g.x ≠ E + 1 := (hob.xt.unlike hty (by decide))
    have Z10 := Lib.hid (show ∀ W9, Turn (Blk (.slice pv M cv)) (X.drew.alloc (.cells #[.int .i64 g.a.t] 3)) W9 → ∀ u, (W9.setCell ⟨E + 1, 0, none⟩ u).cell? ⟨g.x, 0, none⟩ = some (.int .i64 g.a.t) from fun W9 t9 u => (World.cell?_setCell_other _ _ _ _ (by simp)).trans (Z9.out W9 t9))
    have FIN := Lib.hid (show ∀ p9 c9 W9, WRow W9 3 1 (.slice p9 (M + 1) c9) (M + 1) (icells ((G.take pre.length).map (fun g => g.a.t)) ++ [.int .i64 g.a.t]) → Turn (Blk (.slice pv M cv)) (X.drew.alloc (.cells #[.int .i64 g.a.t] 3)) W9 → (∀ k, Blk (.slice p9 (M + 1) c9) k → Blk (.slice pv M cv) k ∨ (k = (X.drew.alloc (.cells #[.int .i64 g.a.t] 3)).heap.size ∧ k < W9.heap.size)) →
        KeepsAll W0.heap.size X (W9.setCell ⟨E + 1, 0, none⟩ (.slice p9 (M + 1) c9)) ∧ ThInv w E c most tm lm G r K (pre ++ [(xb, g.x)]) (W9.setCell ⟨E + 1, 0, none⟩ (.slice p9 (M + 1) c9)) from by
      intro p9 c9 W9 r9 t9 k9
      rw [← hMn] at r9
      have hE4 : E + 4 ≤ X.heap.size := by have := hX; have := HZ.out; omega
      obtain ⟨n1, n2⟩ := hi.next HM.out HE.out (x := (xb, g.x)) hg hv1 (v' := .slice p9 (M + 1) c9) (W1 := W9) (by rw [← hMn]; exact r9) ((TU TA.out).trans t9 (fun _ h => .inl h)) (fun k hk => (k9 k hk).imp id (fun e => by have := TA.out.size; omega))
      exact ⟨by rw [HZ.out]; exact n2, n1⟩)
    clear hi hok hg hgm hob hv1 hrow hvf hnl hle hMn hty hEB hxv hxE hX hI0 hsz
    gi_wp2
    refine round_held (S := fun W => W.cell? ⟨g.x, 0, none⟩ = some (.int .i64 g.a.t)) (by kernel_rfl) (by kernel_rfl) (fun ⟨a, w, h⟩ => h) Z0.out (fun _ => ?_)
    refine wpAnyH_take (i := 1) (oi := ?oi1) (v := ?v1) ?hi1 (by kernel_rfl) (by kernel_rfl) (by kernel_rfl) ?hq1 (Or.inl ⟨?hw1, ?hy1⟩) Z0.out ?rest1
    case hi1 => rfl
    case hq1 => exact fun c a w h => h
    case hw1 => rfl
    case hy1 => (intro w hSw; go_simp; (try (with_reducible rfl)))
    (try simp only [Act.put, List.setIfInBounds_toArray, List.set_cons_zero, List.set_cons_succ])
    refine wpAnyH_take (i := 2) (oi := ?oi2) (v := ?v2) ?hi2 (by kernel_rfl) (by kernel_rfl) (by kernel_rfl) ?hq2 (Or.inl ⟨?hw2, ?hy2⟩) Z0.out ?rest2
    case hi2 => rfl
    case hq2 => exact fun c a w h => h
    case hw2 => rfl
    case hy2 => (intro w hSw; go_simp; (try (with_reducible rfl)))
    (try simp only [Act.put, List.setIfInBounds_toArray, List.set_cons_zero, List.set_cons_succ])
    refine wpAnyH_take (i := 3) (oi := ?oi3) (v := ?v3) ?hi3 (by kernel_rfl) (by kernel_rfl) (by kernel_rfl) ?hq3 (Or.inl ⟨?hw3, ?hy3⟩) Z0.out ?rest3
    case hi3 => rfl
    case hq3 => exact fun c a w h => h
    case hw3 => rfl
    case hy3 => (intro w hSw; go_simp; (try (with_reducible rfl)))
    (try simp only [Act.put, List.setIfInBounds_toArray, List.set_cons_zero, List.set_cons_succ])
    refine wpAnyH_take (i := 4) (oi := ?oi4) (v := ?v4) ?hi4 (by kernel_rfl) (by kernel_rfl) (by kernel_rfl) ?hq4 (Or.inl ⟨?hw4, ?hy4⟩) Z0.out ?rest4
    case hi4 => rfl
    case hq4 => exact fun c a w h => h
    case hw4 => rfl
    case hy4 => (intro w hSw; go_simp; (try (with_reducible rfl)))
    (try simp only [Act.put, List.setIfInBounds_toArray, List.set_cons_zero, List.set_cons_succ])
    refine wpAnyH_ready (rs := [0, 5]) (by kernel_rfl) (by simp) ?_
    refine AllReadyH.cons rfl (fun K' hK' => ?_) ?_
    · go_simp
      refine hK' _ _ Z0.out (fun _ => ?_)
      clear hK' K'
      (try simp only [Act.put, List.setIfInBounds_toArray, List.set_cons_zero, List.set_cons_succ])
      refine wpAnyH_ready (rs := [5]) (by kernel_rfl) (by simp) ?_
      refine AllReadyH.cons rfl (fun K' hK' => ?_) AllReadyH.nil
      go_simp
      refine hK' _ _ ZA.out (fun _ => ?_)
      clear hK' K'
      (try simp only [Act.put, List.setIfInBounds_toArray, List.set_cons_zero, List.set_cons_succ])
      refine wpAnyH_ready (rs := [6]) (by kernel_rfl) (by simp) ?_
      refine AllReadyH.cons rfl (fun K' hK' => ?_) AllReadyH.nil
      refine step_append_r rfl (.tmp 14) (.tmp 19) 53 53 rfl (HROW.out.past TA.out) i5 _ 8 intsT H5.out.1 H5.out.2.1 H5.out.2.2.1 H5.out.2.2.2 (by rfl) (by rfl) (by rfl) (Rd.src (rd_new X.drew 3 1 #[.int .i64 g.a.t] rfl) 53 3 intsT (fun u hu => by simp at hu; subst hu; rfl)) F.out.1 F.out.2 ?_
      intro v9 W9 z9 r9 t9 k9
      clear z9
      obtain ⟨p9, c9, rfl⟩ := r9.sl
      have e9 := t9.cell (TA.out.cell e1 (fun h => h)) HEB.out
      have f9 := ((HTY.out.kept TA.out (fun h => h)).kept t9 HEB.out).free 0
      have R9 := Lib.hid (And.intro r9 (And.intro t9 k9))
      clear r9 t9 k9
      try go_simp
      refine hK' _ _ (by first | exact Z9.out _ R9.out.2.1) (fun _ => ?_)
      clear hK' K'
      (try simp only [Act.put, List.setIfInBounds_toArray, List.set_cons_zero, List.set_cons_succ])
      refine wpAnyH_ready (rs := [7]) (by kernel_rfl) (by simp) ?_
      refine AllReadyH.cons rfl (fun K' hK' => ?_) AllReadyH.nil
      go_simp
      refine hK' _ _ (by exact Z10.out _ R9.out.2.1 _) (fun _ => ?_)
      clear hK' K'
      (try simp only [Act.put, List.setIfInBounds_toArray, List.set_cons_zero, List.set_cons_succ])
      refine wpAnyH_done (by kernel_rfl) ?_ _
      gi_wp2
      exact FIN.out _ _ _ R9.out.1 R9.out.2.1 R9.out.2.2
    refine AllReadyH.cons rfl (fun K' hK' => ?_) AllReadyH.nil
    go_simp
    refine hK' _ _ ZA.out (fun _ => ?_)
    clear hK' K'
    (try simp only [Act.put, List.setIfInBounds_toArray, List.set_cons_zero, List.set_cons_succ])
    refine wpAnyH_ready (rs := [0]) (by kernel_rfl) (by simp) ?_
    refine AllReadyH.cons rfl (fun K' hK' => ?_) AllReadyH.nil
    go_simp
    refine hK' _ _ ZA.out (fun _ => ?_)
    clear hK' K'
    (try simp only [Act.put, List.setIfInBounds_toArray, List.set_cons_zero, List.set_cons_succ])
    refine wpAnyH_ready (rs := [6]) (by kernel_rfl) (by simp) ?_
    refine AllReadyH.cons rfl (fun K' hK' => ?_) AllReadyH.nil
    refine step_append_r rfl (.tmp 14) (.tmp 19) 53 53 rfl (HROW.out.past TA.out) i5 _ 8 intsT H5.out.1 H5.out.2.1 H5.out.2.2.1 H5.out.2.2.2 (by rfl) (by rfl) (by rfl) (Rd.src (rd_new X.drew 3 1 #[.int .i64 g.a.t] rfl) 53 3 intsT (fun u hu => by simp at hu; subst hu; rfl)) F.out.1 F.out.2 ?_
    intro v9 W9 z9 r9 t9 k9
    clear z9
    obtain ⟨p9, c9, rfl⟩ := r9.sl
    have e9 := t9.cell (TA.out.cell e1 (fun h => h)) HEB.out
    have f9 := ((HTY.out.kept TA.out (fun h => h)).kept t9 HEB.out).free 0
    have R9 := Lib.hid (And.intro r9 (And.intro t9 k9))
    clear r9 t9 k9
    try go_simp
    refine hK' _ _ (by first | exact Z9.out _ R9.out.2.1) (fun _ => ?_)
    clear hK' K'
    (try simp only [Act.put, List.setIfInBounds_toArray, List.set_cons_zero, List.set_cons_succ])
    refine wpAnyH_ready (rs := [7]) (by kernel_rfl) (by simp) ?_
    refine AllReadyH.cons rfl (fun K' hK' => ?_) AllReadyH.nil
    go_simp
    refine hK' _ _ (by exact Z10.out _ R9.out.2.1 _) (fun _ => ?_)
    clear hK' K'
    (try simp only [Act.put, List.setIfInBounds_toArray, List.set_cons_zero, List.set_cons_succ])
    refine wpAnyH_done (by kernel_rfl) ?_ _
    gi_wp2
    exact FIN.out _ _ _ R9.out.1 R9.out.2.1 R9.out.2.2
  case done =>
    rintro D xs X hD hxl hi hK
    obtain ⟨v, hv1, hrow, hvf⟩ := hi.ex
    have hl : xs.length = G.length := by rw [← std_len G HM.out.ok]; exact hxl
    rw [hl, List.take_length] at hrow
    have c4 : X.cell? ⟨E + 1, 0, none⟩ = some v := cell_at hv1 0
    have HR := Lib.hid (And.intro hrow (And.intro hvf (And.intro hi.turn hD)))
    have HKK := Lib.hid hK
    clear hi hv1 hrow hvf hK hD hI0 hsz hl hxl
    gi_wp2
    obtain ⟨hrow, hvf, htn, hDl⟩ := HR.out
    have hD4 : E + 4 ≤ D := by rw [← HZ.out]; exact hDl
    have tp := turn_putObj X D (.deferred none)
    refine ⟨by simp, .inl ⟨_, _, rfl, run_takeDeferred HKK.out, ?_⟩⟩
    refine ⟨_, results_tmp rfl _ _ _, v, rfl, ?_⟩
    refine ⟨hrow.kept tp (fun k hk e => ?_), htn.trans tp (fun k hk => .inr (by have := HE.out; omega)), fun k hk => by have := hvf k hk; have := HE.out; omega⟩
    subst e
    obtain ⟨cur, hc⟩ := WRow.typed hrow hk
    have := HKK.out
    rw [hc] at this
    cases this
end
end Go.Proofs.Ytabakjimlndhcaa
