/-
  slices.Insert at pieces: what it answers, and what it makes of a row of the call's own. No conditions but that the place lies in the row, and that what comes in lies in another block.
-/
import Derived.Test.YtdddmjdlikjedaaGRow
import Derived.Test.YtdddmjdlikjedaaGFrom
import Derived.Deep.RegionLaw
import Derived.RegionTactic
import Derived.BigQuiet
namespace Go.Proofs.Ytdddmjdlikjedaa
open Go.ChangeShapes Go.WideShapes Go.ChangeAt Go.RowKit

/-- What a call leaves: a row, in its block or in a new one. -/
structure RowIs (w w' : World) (v v' : Value) (l : List Pc) : Prop where
  row : PRow v' l w'
  at' : ∀ k, Blk v' k → Blk v k ∨ w.heap.size ≤ k
  turn : Turn (Blk v) w w'
theorem cls_of {w : World} {vb : Value} {bl : List Pc} (h : PRow vb bl w) : ∃ D c, vb = .slice D bl.length c ∧ Cls w D bl.length (pcs bl) ∧ ∀ a, D = some a → vb.ownBlock = some a.block ∧ a.spot = none ∧ a.off = 0 := by
  obtain ⟨D, c, hv⟩ := h.slice
  refine ⟨D, c, hv, ⟨pcs_len bl, pcs_one bl, fun h0 => ?_⟩, fun a ha => ?_⟩
  · obtain ⟨g, c', he, -, -⟩ := h.shape h0
    rw [hv] at he
    simp only [Value.slice.injEq, true_and] at he
    obtain ⟨rfl, rfl⟩ := he
    refine ⟨_, rfl, fun j u hj => ?_⟩
    rw [hv] at h
    have hlt := (List.getElem?_eq_some_iff.1 hj).1
    rw [pcs_len] at hlt
    rw [Addr.add_lit, Nat.zero_add, h.cellAt j hlt]; exact hj
  · subst ha
    rcases h.2 with ⟨h1, _⟩ | ⟨g', c', cur, h1, _⟩
    · rw [hv] at h1; simp at h1
    · rw [hv] at h1
      simp only [Value.slice.injEq, Option.some.injEq, true_and] at h1
      obtain ⟨rfl, rfl⟩ := h1
      exact ⟨by rw [hv]; rfl, rfl, rfl⟩

section
variable {w : World} {v vb : Value} {l bl : List Pc}
set_option maxRecDepth 20000 in
/-- Nothing comes in. -/
theorem ins_none (h : PRow v l w) (i : Nat) (hi : i ≤ l.length) (D : Option Addr) (cb : Nat) :
    Calls Try.prog 108 #[v, .int .i64 i, .slice D 0 cb] w fun e w' => e = .returned v ∧ w = w' := by
  obtain ⟨p, c, rfl⟩ := h.slice
  have hc : l.length ≤ c := by
    rcases h.2 with ⟨h1, h2⟩ | ⟨g', c', cur, h1, hb, hg, hnc, _⟩
    · omega
    · simp only [Value.slice.injEq] at h1; omega
  obtain ⟨n, hn⟩ : ∃ n, l.length = n := ⟨_, rfl⟩
  rw [hn] at hi hc ⊢
  have hs : ∃ u, ∀ w, Sem.run Try.prog (Instr.slice 65 (.slice p n c) (some (.int .i64 (i : Int))) none none) w = .ok u w := by
    have ht : Try.prog.underlying 65 = some (.slice (Try.prog.elem 65)) := by kernel_rfl
    refine ⟨sliced p i n c 5, fun w => ?_⟩
    have := run_slice_l (P := Try.prog) w 65 p n c ht .i64 (i : Int) (by omega) (by omega)
    rw [elemP, sizeP w] at this
    simpa only [Result.andThen, Int.toNat_natCast] using this
  obtain ⟨u, hs⟩ := hs
  clear h hn
  go_enter Try.func108, Try.ntmps108
  go_wp2
  go_ret
  exact ⟨rfl, rfl⟩

set_option maxRecDepth 20000 in
/-- It comes in at the end. -/
theorem ins_end (h : PRow v l w) (hb : PRow vb bl w) (h0 : 0 < bl.length) (hm : l.length + bl.length ≤ 1048576) :
    Calls Try.prog 108 #[v, .int .i64 l.length, vb] w fun e w' => ∃ v', e = .returned v' ∧ RowIs w w' v v' (l ++ bl) := by
  obtain ⟨iv, hiv, hz0, hz1, hz2⟩ := info_parts infoP
  obtain ⟨p, c, rfl⟩ := h.slice
  obtain ⟨D, cb, rfl, hcl, -⟩ := cls_of hb
  obtain ⟨a, rfl, hca⟩ := hcl.2.2 h0
  have hc : l.length ≤ c := by
    rcases h.2 with ⟨h1, h2⟩ | ⟨g', c', cur, h1, hb', hg, hnc, _⟩
    · omega
    · simp only [Value.slice.injEq] at h1; omega
  unfold PRow at h
  obtain ⟨n, hn⟩ : ∃ n, l.length = n := ⟨_, rfl⟩
  obtain ⟨m, hmb⟩ : ∃ m, bl.length = m := ⟨_, rfl⟩
  rw [hn] at hc h hm ⊢
  rw [hmb] at h0 hm ⊢
  have hs : ∃ u, ∀ w, Sem.run Try.prog (Instr.slice 65 (.slice p n c) (some (.int .i64 (n : Int))) none none) w = .ok u w := by
    have ht : Try.prog.underlying 65 = some (.slice (Try.prog.elem 65)) := by kernel_rfl
    refine ⟨sliced p n n c 5, fun w => ?_⟩
    have := run_slice_l (P := Try.prog) w 65 p n c ht .i64 (n : Int) (by omega) (by omega)
    rw [elemP, sizeP w] at this
    simpa only [Result.andThen, Int.toNat_natCast] using this
  obtain ⟨u, hs⟩ := hs
  have hm0 : ((m : Int) == 0) = false := by simp; omega
  have q1 : n + m ≤ maxLen := by unfold maxLen; omega
  have q2 : (n + m) * 40 ≤ 140737488355328 := by omega
  have hl5 : (pcs bl).length = m * 5 := by rw [pcs_len, hmb]
  have HN := Lib.hid (And.intro hn hmb)
  clear hb hcl hn hmb
  go_enter Try.func108, Try.ntmps108
  go_wp2_with (at_builtin; refine wpList_append_lies _ rfl (.tmp 23) (.tmp 24) 65 rfl 0 61 iv _ 5 40 pieces_s hiv hz0 hz1 hz2 rfl (by decide) (.slice p n c) n (pcs l) rfl h a m cb (pcs bl) rfl hl5 hca (pcs_one bl) h0 q1 q2 (Nat.zero_le _) w.heap.size rfl ?_; intro g1 c1 w1 hown hgrow hat hlt1; have K := Lib.hid (And.intro hown (And.intro hgrow hat)); clear hown hgrow hat)
  go_ret
  obtain ⟨k1, k2, k3⟩ := K.out
  refine ⟨_, rfl, ⟨?_, fun k hk => ?_, (Turn.refl _ w).grown k2 (fun k hk => .inl hk)⟩⟩
  · unfold PRow
    rw [List.length_append, HN.out.1, HN.out.2, pcs_app]
    exact k1
  · simp [Blk, Value.ownBlock] at hk
    subst hk
    rcases k3 with h3 | h3
    · exact .inl h3
    · exact .inr (by omega)

set_option maxRecDepth 20000 in
set_option maxHeartbeats 4000000 in
/-- It comes in ahead of others, and there is no room. -/
theorem ins_grow {g n c : Nat} (h : PRow (.slice (some ⟨g, 0, none⟩) n c) l w) (hb : PRow vb bl w) (hn : l.length = n) (i : Nat) (hi : i < n) (h0 : 0 < bl.length) (hm : n + bl.length ≤ 1048576) (hg : c < n + bl.length) :
    Calls Try.prog 108 #[.slice (some ⟨g, 0, none⟩) n c, .int .i64 i, vb] w fun e w' => ∃ v', e = .returned v' ∧ RowIs w w' (.slice (some ⟨g, 0, none⟩) n c) v' (l.take i ++ bl ++ l.drop i) := by
  obtain ⟨D, cb, rfl, hcl, hD⟩ := cls_of hb
  obtain ⟨hnc, hcm, zs0, hz0, hF0⟩ := GFull.of h hn
  obtain ⟨m, hmb⟩ : ∃ m, bl.length = m := ⟨_, rfl⟩
  rw [hmb] at h0 hm hg hcl ⊢
  obtain ⟨c2, zs, W, hap, hc1, hc2, hF, hzt, tW⟩ := append_make h hn i (n + m - i) (by omega) (by omega) (by omega) (by omega)
  have hik : i + (n + m - i) = n + m := by omega
  rw [hik] at hap hc1
  obtain ⟨D1, hs1, hD1, -⟩ := slice_lo g n c i (by omega) hnc
  have hs2 := slice_hi g n c i (by omega)
  obtain ⟨D3, hs3, hD3, -⟩ := slice_lo w.heap.size (n + m) c2 i (by omega) hc1
  obtain ⟨D4, hs4, hD4, -⟩ := slice_lo w.heap.size (n + m) c2 (i + m) (by omega) hc1
  have hclW : Cls W D m (pcs bl) := hcl.past tW (fun _ _ h => h) (fun a ha => (hD a ha).2.1)
  obtain ⟨W1, hcp1, hF1, tW1⟩ := copy5 (o := i) (dLen := n + m - i) (dCap := c2 - i) (sCap := cb) hF (fun _ => hD3 (by omega)) (by omega) (by omega) hclW
  have hsl : Cls W1.drew D1 (n - i) (pcs (l.drop i)) := by
    refine ⟨by rw [pcs_len, List.length_drop, hn], pcs_one _, fun _ => ⟨_, hD1 (by omega), fun j u hu => ?_⟩⟩
    have hlt := (List.getElem?_eq_some_iff.1 hu).1
    rw [pcs_len, List.length_drop, hn] at hlt
    rw [← pcs_drop, List.getElem?_drop] at hu
    rw [Addr.add_lit]
    refine tW1.drew.cell (tW.cell ?_ (fun h => h)) (fun e => ?_)
    · unfold PRow at h
      rw [hn] at h
      exact (h.cellAt (i * 5 + j) (by omega)).trans hu
    · obtain ⟨cur, hcu⟩ := own_block h (k := g) rfl
      have := lt_of_block hcu
      simp at e
      omega
  obtain ⟨W2, hcp2, hF2, tW2⟩ := copy5 (o := i + m) (dLen := n + m - (i + m)) (dCap := c2 - (i + m)) (sCap := c - i) hF1.drew (fun _ => hD4 (by omega)) (by omega) (by omega) hsl
  have hres : PRow (.slice (some ⟨w.heap.size, 0, none⟩) (n + m) c2) (l.take i ++ bl ++ l.drop i) W2 := by
    refine hF2.prow (by simp [hn, hmb]; omega) hc1 ?_
    have e1 : (gputAt zs (i * 5) (pcs bl)).length = c2 * 5 := hF1.len
    rw [gput_take (by omega) (by rw [pcs_len, List.length_drop, hn]; omega), show (i + m) * 5 = i * 5 + (pcs bl).length by rw [pcs_len, hmb]; omega, gput_take (by rw [hF.len]; omega) rfl, hzt, pcs_app, pcs_app]
  have HR := Lib.hid (And.intro hres (And.intro tW (And.intro tW1.drew tW2)))
  have hm0 : ((m : Int) == 0) = false := by simp; omega
  have hin : ((i : Int) == (n : Int)) = false := by simp; omega
  obtain ⟨q, hq⟩ : ∃ q, i + m = q := ⟨_, rfl⟩
  obtain ⟨t, ht⟩ : ∃ t, n + m = t := ⟨_, rfl⟩
  obtain ⟨kk, hke⟩ : ∃ kk, t - i = kk := ⟨_, rfl⟩
  have hkk : (t : Int) - i = (kk : Int) := by omega
  have him : (i : Int) + m = (q : Int) := by omega
  have hnm : (n : Int) + m = (t : Int) := by omega
  have hqt : q ≤ t := by omega
  rw [hq, ht] at hs4 hcp2
  rw [ht] at hs3 hcp1 hap hc1 HR hg hm hik
  rw [hke] at hap hs3 hcp1
  clear hq ht hke hik
  clear h hb hcl hD hF0 hz0 hF hF1 hF2 hzt hclW hsl hres tW tW1 tW2 hmb hD1 hD3 hD4 hn
  go_enter Try.func108, Try.ntmps108
  go_wp2_with (at_builtin; refine Lib.wpList_append_run _ rfl (.tmp 34) (.tmp 39) 65 3 rfl _ _ rfl rfl _ _ (hap _) ?_)
  go_region
  all_goals
    go_wp2
    go_ret
    obtain ⟨r1, r2, r3, r4⟩ := HR.out
    refine ⟨_, rfl, ⟨r1, fun k hk => ?_, ((r2.mono (fun _ h => h.elim)).trans r3 (fun k hk => .inr (by subst hk; exact Nat.le_refl _))).trans r4 (fun k hk => .inr (by subst hk; exact Nat.le_refl _))⟩⟩
    simp [Blk, Value.ownBlock] at hk
    right; omega

theorem shape_new {w : World} {g : Nat} {cur : Array Value} {t : TypeId} {f : Nat × Nat} (h : w.heap[g]? = some (.cells cur t f)) : w.shape? g = some (t, cur.size) := by
  simp [World.shape?, h]
theorem frozen_past {w : World} {g : Nat} {cur : Array Value} {t : TypeId} (h : w.heap[g]? = some (.cells cur t (0, 0))) (k : Nat) : w.frozen? ⟨g, k, none⟩ = false := free_at h k
/-- Two rows in two blocks overlap not. -/
theorem over_no {w : World} {g c : Nat} {zs : List Value} (hF : GFull g c zs w) (h0 : 0 < c) {gb nb cb : Nat} {bl : List Pc} (hb : PRow (.slice (some ⟨gb, 0, none⟩) nb cb) bl w) (hnb : 0 < bl.length) (hne : gb ≠ g) (o lo co : Nat) :
    (callFunc 109 #[.slice (some ⟨g, o, none⟩) lo co, .slice (some ⟨gb, 0, none⟩) nb cb]).run Try.prog w = .ok (.value (.bool false)) w ∧
    (callFunc 109 #[.slice (some ⟨gb, 0, none⟩) nb cb, .slice (some ⟨g, o, none⟩) lo co]).run Try.prog w = .ok (.value (.bool false)) w := by
  obtain ⟨c1, h1⟩ := own_block hF (k := g) rfl
  obtain ⟨c2, h2⟩ := own_block hb (k := gb) rfl
  have s1 := shape_new h1
  have s2 := shape_new h2
  have z1 : c1.size ≠ 0 := by
    rcases hF.2 with ⟨h3, _⟩ | ⟨g', c', cur, h3, hb', hg, hnc, hcm, hcs, _⟩
    · cases h3
    · simp only [Value.slice.injEq, Option.some.injEq, Addr.mk.injEq, true_and, and_true] at h3
      obtain ⟨rfl, h5⟩ := h3
      rw [h1] at hg
      simp at hg
      rw [hg, hcs]
      omega
  have z2 : c2.size ≠ 0 := by
    rcases hb.2 with ⟨h3, _⟩ | ⟨g', c', cur, h3, hb', hg, hnc, hcm, hcs, _⟩
    · cases h3
    · simp only [Value.slice.injEq, Option.some.injEq, Addr.mk.injEq, and_true] at h3
      obtain ⟨rfl, h5⟩ := h3
      rw [h2] at hg
      simp at hg
      rw [hg, hcs]
      omega
  have hx := fun args => run_callFunc_extern (args := args) (w := w) Try.func109 (by kernel_rfl) (by kernel_rfl) (by kernel_rfl) (e := Extern.SlicesOverlaps.overlaps #[65, 65] #[4]) (by kernel_rfl)
  refine ⟨?_, ?_⟩
  · rw [hx, Lib.run_overlaps_apart w 65 4 61 pieces_s 5 sizeP ⟨g, o, none⟩ ⟨gb, 0, none⟩ lo co nb cb (fun e => hne e.symm) _ _ _ _ s1 s2 z2 (free_at h1 o) (free_at h1 _)]
    rfl
  · rw [hx, Lib.run_overlaps_apart w 65 4 61 pieces_s 5 sizeP ⟨gb, 0, none⟩ ⟨g, o, none⟩ nb cb lo co hne _ _ _ _ s2 s1 z1 (free_at h2 0) (free_at h2 _)]
    rfl

set_option maxRecDepth 20000 in
set_option maxHeartbeats 4000000 in
/-- It comes in ahead of others, and there is room. -/
theorem ins_shift {g n c : Nat} (h : PRow (.slice (some ⟨g, 0, none⟩) n c) l w) (hb : PRow vb bl w) (hap : ¬ Blk vb g) (hn : l.length = n) (i : Nat) (hi : i < n) (h0 : 0 < bl.length) (hm : n + bl.length ≤ 1048576) (hg : n + bl.length ≤ c) :
    Calls Try.prog 108 #[.slice (some ⟨g, 0, none⟩) n c, .int .i64 i, vb] w fun e w' => ∃ v', e = .returned v' ∧ RowIs w w' (.slice (some ⟨g, 0, none⟩) n c) v' (l.take i ++ bl ++ l.drop i) := by
  obtain ⟨hnc, hcm, zs, hz0, hF⟩ := GFull.of h hn
  obtain ⟨gb, cb, rfl, -, -⟩ := hb.shape h0
  obtain ⟨D, cb', hve, hcl, hD⟩ := cls_of hb
  simp only [Value.slice.injEq, true_and] at hve
  obtain ⟨rfl, rfl⟩ := hve
  have hne : gb ≠ g := fun e => hap (by subst e; rfl)
  have hov := fun o lo co => (over_no hF (by omega) hb h0 hne o lo co).2
  obtain ⟨m, hmb⟩ : ∃ m, bl.length = m := ⟨_, rfl⟩
  rw [hmb] at h0 hm hg hcl hov ⊢
  obtain ⟨D1, hs1, -, -⟩ := slice_lo g n c i (by omega) hnc
  have hs2 := slice_hi g n c (n + m) hg
  obtain ⟨D3, hs3, hD3, -⟩ := slice_lo g (n + m) c (i + m) (by omega) hg
  obtain ⟨D4, hs4, hD4, -⟩ := slice_lo g (n + m) c i (by omega) hg
  have hD3' := hD3 (by omega)
  subst hD3'
  have hD4' := hD4 (by omega)
  subst hD4'
  have hsl : Cls w.drew (some ⟨g, i * 5, none⟩) (n - i) (pcs (l.drop i)) := by
    refine ⟨by rw [pcs_len, List.length_drop, hn], pcs_one _, fun _ => ⟨_, rfl, fun j u hu => ?_⟩⟩
    have hlt := (List.getElem?_eq_some_iff.1 hu).1
    rw [pcs_len, List.length_drop, hn] at hlt
    rw [← pcs_drop, List.getElem?_drop] at hu
    rw [Addr.add_lit]
    unfold PRow at h
    rw [hn] at h
    exact (h.cellAt (i * 5 + j) (by omega)).trans hu
  obtain ⟨W1, hcp1, hF1, tW1⟩ := copy5m (o := i + m) (k := n - i) (dLen := n + m - (i + m)) (dCap := c - (i + m)) (sLen := n + m - i) (sCap := c - i) hF.drew (by show min (n + m - i) (n + m - (i + m)) = n - i; omega) (fun _ => rfl) (by omega) hsl
  have hcl1 : Cls W1 (some ⟨gb, 0, none⟩) m (pcs bl) := hcl.past (F := fun k => k = g) ((Turn.refl (fun k => k = g) w).drew.trans tW1 (fun _ h => .inl h)) (fun a ha => by cases ha; exact hne) (fun a ha => by cases ha; rfl)
  obtain ⟨W2, hcp2, hF2, tW2⟩ := copy5 (o := i) (dLen := n + m - i) (dCap := c - i) (sCap := cb) hF1 (fun _ => rfl) (by omega) (by omega) hcl1
  have hres : PRow (.slice (some ⟨g, 0, none⟩) (n + m) c) (l.take i ++ bl ++ l.drop i) W2 := by
    refine hF2.prow (by simp [hn, hmb]; omega) hg ?_
    have lz := hF.len
    have l1 := hF1.len
    have e0 : (pcs bl).length = m * 5 := by rw [pcs_len, hmb]
    have e1 : (pcs (l.drop i)).length = (n - i) * 5 := by rw [pcs_len, List.length_drop, hn]
    have e2 : (zs.take (i * 5)) = pcs (l.take i) := by rw [← pcs_take, ← hz0, List.take_take, Nat.min_eq_left (by omega)]
    rw [put_take_high (by omega) (by omega), put_take_low (by omega) (by omega), e2, e0, show i * 5 + m * 5 = (i + m) * 5 by omega, put_drop (by omega), show (n + m) * 5 - (i + m) * 5 = (pcs (l.drop i)).length by omega, List.take_append_of_le_length (Nat.le_refl _), List.take_length, pcs_app, pcs_app, List.append_assoc]
  have HR := Lib.hid (And.intro hres (And.intro ((Turn.refl (fun k => k = g) w).drew.trans tW1 (fun _ h => .inl h)) tW2))
  have hm0 : ((m : Int) == 0) = false := by simp; omega
  have hin : ((i : Int) == (n : Int)) = false := by simp; omega
  obtain ⟨q, hq⟩ : ∃ q, i + m = q := ⟨_, rfl⟩
  obtain ⟨t, ht⟩ : ∃ t, n + m = t := ⟨_, rfl⟩
  have him : (i : Int) + m = (q : Int) := by omega
  have hnm : (n : Int) + m = (t : Int) := by omega
  have hqt : q ≤ t := by omega
  have hit : i ≤ t := by omega
  rw [hq, ht] at hs3 hcp1
  rw [ht] at hs2 hs4 hcp2 HR hg hm
  clear hq ht
  clear h hb hcl hD hF hz0 hF1 hF2 hsl hres tW1 tW2 hmb hD3 hD4 hn hcl1 hap
  go_enter Try.func108, Try.ntmps108
  go_wp2_with (simp only [hov])
  go_region
  all_goals
    go_wp2
    go_ret
    obtain ⟨r1, r2, r3⟩ := HR.out
    refine ⟨_, rfl, ⟨r1, fun k hk => .inl hk, (r2.trans r3 (fun _ h => .inl h)).mono (fun k hk => .inl (by subst hk; rfl))⟩⟩

theorem insert_any (h : PRow v l w) (hb : PRow vb bl w) (hap : ∀ k, Blk v k → ¬ Blk vb k) (i : Nat) (hi : i ≤ l.length) (hm : l.length + bl.length ≤ 1048576) :
    Calls Try.prog 108 #[v, .int .i64 i, vb] w fun e w' => ∃ v', e = .returned v' ∧ RowIs w w' v v' (l.take i ++ bl ++ l.drop i) := by
  rcases Nat.eq_zero_or_pos bl.length with h0 | h0
  · obtain ⟨D, cb, hve⟩ := hb.slice
    rw [h0] at hve
    subst hve
    obtain rfl : bl = [] := List.eq_nil_of_length_eq_zero h0
    refine (ins_none h i hi D cb).mono ?_
    rintro e w' ⟨rfl, rfl⟩
    exact ⟨v, rfl, ⟨by rw [List.append_nil, List.take_append_drop]; exact h, fun k hk => .inl hk, Turn.refl _ _⟩⟩
  · by_cases hin : i = l.length
    · subst hin
      rw [List.take_length, List.drop_length, List.append_nil]
      exact ins_end h hb h0 hm
    · obtain ⟨g, c, rfl, -, -⟩ := h.shape (by omega)
      by_cases hg : l.length + bl.length ≤ c
      · exact ins_shift h hb (hap g rfl) rfl i (by omega) h0 hm hg
      · exact ins_grow h hb rfl i (by omega) h0 hm (by omega)
end
end Go.Proofs.Ytdddmjdlikjedaa
