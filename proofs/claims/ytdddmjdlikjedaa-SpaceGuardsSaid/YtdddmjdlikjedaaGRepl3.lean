/-
  slices.Replace at pieces, in a row's midst where there is room; whatever the places. No conditions but that the places lie in the row, and that what comes in lies in another block.
-/
import Derived.Test.YtdddmjdlikjedaaGRepl2
namespace Go.Proofs.Ytdddmjdlikjedaa
open Go.ChangeShapes Go.WideShapes Go.ChangeAt Go.RowKit

section
variable {w : World} {vb : Value} {l bl : List Pc}
set_option maxRecDepth 20000 in
set_option maxHeartbeats 4000000 in
/-- No more comes in than goes. -/
theorem rep_shrink {g n c : Nat} (h : PRow (.slice (some ⟨g, 0, none⟩) n c) l w) (hb : PRow vb bl w) (hap : ¬ Blk vb g) (hn : l.length = n) (i j : Nat) (hi : i < j) (hj : j < n) (hnb : n ≤ 1048576) (hg : i + bl.length ≤ j) :
    Calls Try.prog 95 #[.slice (some ⟨g, 0, none⟩) n c, .int .i64 i, .int .i64 j, vb] w fun e w' => ∃ v', e = .returned v' ∧ RowIs w w' (.slice (some ⟨g, 0, none⟩) n c) v' (l.take i ++ bl ++ l.drop j) := by
  obtain ⟨D, cb, hve, hcl, hD⟩ := cls_of hb
  have hDg : ∀ a, D = some a → a.block ≠ g := fun a ha e => hap (by show vb.ownBlock = some g; rw [(hD a ha).1, e])
  subst hve
  obtain ⟨hnc, hcm, zs, hz0, hF⟩ := GFull.of h hn
  obtain ⟨m, hmb⟩ : ∃ m, bl.length = m := ⟨_, rfl⟩
  rw [hmb] at hg hcl ⊢
  obtain ⟨t, ht⟩ : ∃ t, i + m + (n - j) = t := ⟨_, rfl⟩
  obtain ⟨q, hq⟩ : ∃ q, i + m = q := ⟨_, rfl⟩
  obtain ⟨r, hr⟩ : ∃ r, n - j = r := ⟨_, rfl⟩
  obtain ⟨D0, hs0⟩ := slice_lh g n c i j (by omega) (by omega)
  have hs1 := slice_hi g n c i (by omega)
  obtain ⟨D2, hs2, hD2, -⟩ := slice_lo g n c j (by omega) hnc
  have hs5 := slice_hi g n c t (by omega)
  obtain ⟨D3, hs3, hD3, -⟩ := slice_lo g t c i (by omega) (by omega)
  obtain ⟨D4, hs4, hD4, -⟩ := slice_lo g t c q (by omega) (by omega)
  obtain ⟨D6, hs6, hD6, -⟩ := slice_lo g n c t (by omega) hnc
  obtain ⟨W1, hcp1, hF1, tW1⟩ := copy5 (w := w.drew) (o := i) (dLen := t - i) (dCap := c - i) (sCap := cb) hF (fun _ => hD3 (by omega)) (by omega) (by omega) hcl
  have lz := hF.len
  have l1 := hF1.len
  have e0 : (pcs bl).length = m * 5 := by rw [pcs_len, hmb]
  have e1 : (pcs (l.drop j)).length = r * 5 := by rw [pcs_len, List.length_drop, hn, hr]
  have e2 : (zs.take (i * 5)) = pcs (l.take i) := by rw [← pcs_take, ← hz0, List.take_take, Nat.min_eq_left (by omega)]
  have hsl : Cls W1.drew D2 r (pcs (l.drop j)) := by
    refine ⟨e1, pcs_one _, fun _ => ⟨_, hD2 (by omega), fun p u hu => ?_⟩⟩
    have hlt := (List.getElem?_eq_some_iff.1 hu).1
    rw [e1] at hlt
    rw [Addr.add_lit]
    refine (hF1.cell (j * 5 + p) (by omega)).trans ?_
    have e3 : (gputAt zs (i * 5) (pcs bl))[j * 5 + p]? = zs[j * 5 + p]? := by
      unfold gputAt
      have h1 : (zs.take (i * 5)).length = i * 5 := by rw [List.length_take]; omega
      rw [List.getElem?_append_right (by omega), List.getElem?_append_right (by omega), List.getElem?_drop, h1]
      congr 1; omega
    rw [e3]
    have e4 : (pcs l)[j * 5 + p]? = some u := by
      rw [← pcs_drop, List.getElem?_drop] at hu; exact hu
    rw [← hz0, List.getElem?_take, if_pos (by omega)] at e4
    exact e4
  obtain ⟨W2, hcp2, hF2, tW2⟩ := copy5 (o := q) (dLen := t - q) (dCap := c - q) (sCap := c - j) hF1.drew (fun _ => hD4 (by omega)) (by omega) (by omega) hsl
  obtain ⟨zz, W3, hzz, hclr, hF3, tW3⟩ := clear5 (o := t) (k := n - t) (cc := c - t) hF2 (fun _ => hD6 (by omega)) (by omega)
  have hres : PRow (.slice (some ⟨g, 0, none⟩) t c) (l.take i ++ bl ++ l.drop j) W3 := by
    refine hF3.prow (by simp [hn, hmb]; omega) (by omega) ?_
    have l2 := hF2.len
    rw [put_take_low (by omega) (Nat.le_refl _), gput_take (by omega) (by omega), show q * 5 = i * 5 + (pcs bl).length by omega, gput_take (by omega) rfl, e2, pcs_app, pcs_app]
  have HR := Lib.hid (And.intro hres (And.intro ((Turn.refl (fun k => k = g) w).drew.trans tW1 (fun _ h => .inl h)) (And.intro ((Turn.refl (fun k => k = g) W1).drew.trans tW2 (fun _ h => .inl h)) tW3)))
  have htb : (t : Int) ≤ 1048576 := by omega
  have hij : ((i : Int) == (j : Int)) = false := by simp; omega
  have hjn : ((j : Int) == (n : Int)) = false := by simp; omega
  rw [hr] at hs2
  have him : (i : Int) + m = (q : Int) := by omega
  have hqr : (q : Int) + r = (t : Int) := by omega
  have htc : ¬ (c : Int) < t := by omega
  have hqj : (q : Int) ≤ j := by omega
  have hqt : q ≤ t := by omega
  have hit : i ≤ t := by omega
  have htn : t ≤ n := by omega
  clear h hb hcl hD hDg hF hz0 hF1 hF2 hF3 hsl hres tW1 tW2 tW3 hmb hD2 hD3 hD4 hD6 hn hq hr ht hg hap lz l1 e0 e1 e2 hzz
  go_enter Try.func95, Try.ntmps95
  go_wp2
  go_region
  go_wp2
  go_region
  all_goals
    go_wp2
    go_ret
    obtain ⟨r1, r2, r3, r4⟩ := HR.out
    exact ⟨_, rfl, ⟨r1, fun k hk => .inl hk, ((r2.trans r3 (fun _ h => .inl h)).trans r4 (fun _ h => .inl h)).mono (fun k hk => .inl (by subst hk; rfl))⟩⟩

set_option maxRecDepth 20000 in
set_option maxHeartbeats 4000000 in
/-- More comes in than goes, and there is room. -/
theorem rep_fits {g n c : Nat} (h : PRow (.slice (some ⟨g, 0, none⟩) n c) l w) (hb : PRow vb bl w) (hap : ¬ Blk vb g) (hn : l.length = n) (i j : Nat) (hi : i < j) (hj : j < n) (hnb : n + bl.length ≤ 1048576) (hg : j < i + bl.length) (hc : i + bl.length + (n - j) ≤ c) :
    Calls Try.prog 95 #[.slice (some ⟨g, 0, none⟩) n c, .int .i64 i, .int .i64 j, vb] w fun e w' => ∃ v', e = .returned v' ∧ RowIs w w' (.slice (some ⟨g, 0, none⟩) n c) v' (l.take i ++ bl ++ l.drop j) := by
  obtain ⟨gb, cb, rfl, -, -⟩ := hb.shape (by omega)
  obtain ⟨D, cb', hve, hcl, hD⟩ := cls_of hb
  simp only [Value.slice.injEq, true_and] at hve
  obtain ⟨rfl, rfl⟩ := hve
  have hne : gb ≠ g := fun e => hap (by subst e; rfl)
  obtain ⟨hnc, hcm, zs, hz0, hF⟩ := GFull.of h hn
  have hov := fun o lo co => (over_no (w := w.drew) hF (by omega) hb (by omega) hne o lo co).1
  obtain ⟨m, hmb⟩ : ∃ m, bl.length = m := ⟨_, rfl⟩
  rw [hmb] at hg hcl hov hnb hc ⊢
  obtain ⟨t, ht⟩ : ∃ t, i + m + (n - j) = t := ⟨_, rfl⟩
  obtain ⟨q, hq⟩ : ∃ q, i + m = q := ⟨_, rfl⟩
  obtain ⟨r, hr⟩ : ∃ r, n - j = r := ⟨_, rfl⟩
  obtain ⟨D0, hs0⟩ := slice_lh g n c i j (by omega) (by omega)
  have hs1 := slice_hi g n c i (by omega)
  obtain ⟨D2, hs2, hD2, -⟩ := slice_lo g n c j (by omega) hnc
  have hs5 := slice_hi g n c t (by omega)
  obtain ⟨D3, hs3, hD3, -⟩ := slice_lo g t c i (by omega) (by omega)
  obtain ⟨D4, hs4, hD4, -⟩ := slice_lo g t c q (by omega) (by omega)
  have hD4' := hD4 (by omega)
  subst hD4'
  have hsl : Cls w.drew.drew D2 r (pcs (l.drop j)) := by
    have h1 := cls_tail (w := w.drew.drew) h hn D2 hD2 hj hnc
    rw [hr] at h1; exact h1
  obtain ⟨W1, hcp1, hF1, tW1⟩ := copy5 (w := w.drew.drew) (o := q) (dLen := t - q) (dCap := c - q) (sCap := c - j) hF (fun _ => rfl) (by omega) (by omega) hsl
  have hcl1 : Cls W1 (some ⟨gb, 0, none⟩) m (pcs bl) := Cls.past (w := w.drew.drew) hcl tW1 (fun a ha => by cases ha; exact hne) (fun a ha => by cases ha; rfl)
  obtain ⟨W2, hcp2, hF2, tW2⟩ := copy5 (o := i) (dLen := t - i) (dCap := c - i) (sCap := cb) hF1 (fun _ => hD3 (by omega)) (by omega) (by omega) hcl1
  have lz := hF.len
  have l1 := hF1.len
  have e0 : (pcs bl).length = m * 5 := by rw [pcs_len, hmb]
  have e1 : (pcs (l.drop j)).length = r * 5 := by rw [pcs_len, List.length_drop, hn, hr]
  have e2 : (zs.take (i * 5)) = pcs (l.take i) := by rw [← pcs_take, ← hz0, List.take_take, Nat.min_eq_left (by omega)]
  have hres : PRow (.slice (some ⟨g, 0, none⟩) t c) (l.take i ++ bl ++ l.drop j) W2 := by
    refine hF2.prow (by simp [hn, hmb]; omega) (by omega) ?_
    rw [put_take_high (by omega) (by omega), put_take_low (by omega) (by omega), e2, e0, show i * 5 + m * 5 = q * 5 by omega, put_drop (by omega), show t * 5 - q * 5 = (pcs (l.drop j)).length by omega, List.take_append_of_le_length (Nat.le_refl _), List.take_length, pcs_app, pcs_app, List.append_assoc]
  have HR := Lib.hid (And.intro hres (And.intro ((Turn.refl (fun k => k = g) w).drew.drew.trans tW1 (fun _ h => .inl h)) tW2))
  have htb : (t : Int) ≤ 2097152 := by omega
  have hij : ((i : Int) == (j : Int)) = false := by simp; omega
  have hjn : ((j : Int) == (n : Int)) = false := by simp; omega
  rw [hr] at hs2
  have him : (i : Int) + m = (q : Int) := by omega
  have hqr : (q : Int) + r = (t : Int) := by omega
  have htc : ¬ (c : Int) < t := by omega
  have hqj : ¬ (q : Int) ≤ j := by omega
  have hqt : q ≤ t := by omega
  have hit : i ≤ t := by omega
  clear h hb hcl hD hF hz0 hF1 hF2 hsl hres tW1 tW2 hmb hD2 hD3 hD4 hn hq hr ht hg hap lz l1 e0 e1 e2 hcl1 hc
  go_enter Try.func95, Try.ntmps95
  go_wp2
  go_region
  go_wp2_with (simp only [hov])
  go_region
  all_goals
    go_wp2
    go_ret
    obtain ⟨r1, r2, r3⟩ := HR.out
    exact ⟨_, rfl, ⟨r1, fun k hk => .inl hk, (r2.trans r3 (fun _ h => .inl h)).mono (fun k hk => .inl (by subst hk; rfl))⟩⟩

set_option maxRecDepth 20000 in
theorem replace_any {v : Value} (h : PRow v l w) (hb : PRow vb bl w) (hap : ∀ k, Blk v k → ¬ Blk vb k) (i j : Nat) (hij : i ≤ j) (hj : j ≤ l.length) (hm : l.length + bl.length ≤ 1048576) :
    Calls Try.prog 95 #[v, .int .i64 i, .int .i64 j, vb] w fun e w' => ∃ v', e = .returned v' ∧ RowIs w w' v v' (l.take i ++ bl ++ l.drop j) := by
  by_cases he : i = j
  · subst he
    have c1 := insert_any h hb hap i hj hm
    obtain ⟨p, c, rfl⟩ := h.slice
    obtain ⟨pb, cb, rfl⟩ := hb.slice
    have hc : l.length ≤ c := by
      rcases h.2 with ⟨h1, h2⟩ | ⟨g', c', cur, h1, hb', hg, hnc, _⟩
      · omega
      · simp only [Value.slice.injEq] at h1; omega
    generalize l.length = n at *
    generalize bl.length = mm at *
    have hs : ∃ u, ∀ w, Sem.run Try.prog (Instr.slice 65 (.slice p n c) (some (.int .i64 (i : Int))) (some (.int .i64 (i : Int))) none) w = .ok u w := by
      have ht : Try.prog.underlying 65 = some (.slice (Try.prog.elem 65)) := by kernel_rfl
      refine ⟨sliced p i i c 5, fun w => ?_⟩
      have := run_slice_lh (P := Try.prog) w 65 p n c ht .i64 .i64 (i : Int) (i : Int) (by omega) (by omega) (by omega)
      rw [elemP, sizeP w] at this
      simpa only [Result.andThen, Int.toNat_natCast] using this
    obtain ⟨u, hs⟩ := hs
    clear h hb hap
    go_enter Try.func95, Try.ntmps95
    go_wp2_with (go_at_call 108; (with_reducible refine c1.mono ?_); rintro e w' ⟨v', rfl, hr⟩; have K := Lib.hid hr; clear hr)
    go_ret
    exact ⟨_, rfl, K.out⟩
  · obtain ⟨g, c, rfl, hnc, -⟩ := h.shape (by omega)
    by_cases hjn : j = l.length
    · subst hjn
      rw [List.drop_length, List.append_nil]
      by_cases hg : i + bl.length ≤ c
      · exact rep_end h hb rfl i (by omega) hg
      · exact rep_endg h hb rfl i (by omega) hm (by omega)
    · by_cases hg : i + bl.length + (l.length - j) ≤ c
      · by_cases hs : i + bl.length ≤ j
        · exact rep_shrink h hb (hap g rfl) rfl i j (by omega) (by omega) (by omega) hs
        · exact rep_fits h hb (hap g rfl) rfl i j (by omega) (by omega) hm (by omega) hg
      · exact rep_grow h hb rfl i j (by omega) (by omega) hm (by omega)
end
end Go.Proofs.Ytdddmjdlikjedaa
