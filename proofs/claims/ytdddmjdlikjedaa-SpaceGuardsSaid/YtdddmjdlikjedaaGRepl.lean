/-
  slices.Replace at pieces: what it answers, and what it makes of a row of the call's own. No conditions but that the places lie in the row, and that what comes in lies in another block.
-/
import Derived.Test.YtdddmjdlikjedaaGIns
import Derived.Laws.OwnMore
namespace Go.Proofs.Ytdddmjdlikjedaa
open Go.ChangeShapes Go.WideShapes Go.ChangeAt Go.RowKit

theorem zeroP : ∀ w, (zeroValue 61).run Try.prog w = .ok Pc.zero.agg w := fun w => by kernel_rfl
theorem clear5 {w : World} {g c o k cc : Nat} {zs : List Value} {D : Option Addr} (h : GFull g c zs w) (hD : 0 < k → D = some ⟨g, o * 5, none⟩) (ho : o + k ≤ c) :
    ∃ zz W, zz.length = k * 5 ∧ (∀ ty, (Builtin.clear_ #[65] ty #[.slice D k cc]).run Try.prog w = .ok (.tuple #[]) W) ∧ GFull g c (gputAt zs (o * 5) zz) W ∧ Turn (fun k => k = g) w W := by
  have hl := zeroCells_len k
  obtain ⟨zz, hzz⟩ : ∃ zz, (Builtin.zeroCells Pc.zero.agg.cells k).toList = zz := ⟨_, rfl⟩
  have h1 : ∀ v ∈ zz, v.oneCell' = true := by
    intro v hv
    rw [← hzz] at hv
    simp [Builtin.zeroCells, Value.cells, Pc.agg, Pc.zero] at hv
    obtain ⟨a, ha, rfl⟩ := hv
    have : a % 5 = 0 ∨ a % 5 = 1 ∨ a % 5 = 2 ∨ a % 5 = 3 ∨ a % 5 = 4 := by omega
    rcases this with h | h | h | h | h <;> simp [h] <;> rfl
  rw [hzz] at hl
  obtain ⟨p1, p2⟩ := h.put (o := o * 5) (vs := zz) (by omega)
  refine ⟨zz, w.setCells g (o * 5) zz, hl, fun ty => ?_, p1, p2⟩
  rcases Nat.eq_zero_or_pos k with h0 | h0
  · subst h0
    have hv : zz = [] := List.eq_nil_of_length_eq_zero (by omega)
    subst hv
    cases D <;> simp [Builtin.clear_, run_underlying pieces_s, World.setCells]
  · rw [hD h0]
    have hst := run_storeCells_cells (P := Try.prog) g (o * 5) zz 0 w (fun j hj => h.there _ (by omega)) (fun j hj => h.free _) h1
    simp only [Nat.add_zero] at hst
    obtain ⟨m, rfl⟩ : ∃ m, k = m + 1 := ⟨k - 1, by omega⟩
    have hz2 : ∀ w, (zeroValue 61).run Try.prog w = .ok (.agg #[.int .i64 0, .int .i64 0, .int .i64 0, .int .i64 0, .int .i64 0]) w := zeroP
    have hz3 : (Builtin.zeroCells (Value.agg #[.int .i64 0, .int .i64 0, .int .i64 0, .int .i64 0, .int .i64 0]).cells (m + 1)).toList = zz := hzz
    simp [Builtin.clear_, run_underlying pieces_s, hz2, hz3, hst]

theorem PRow.take {w : World} {g n c i : Nat} {l : List Pc} (h : PRow (.slice (some ⟨g, 0, none⟩) n c) l w) (hn : l.length = n) (hi : i ≤ n) : PRow (.slice (some ⟨g, 0, none⟩) i c) (l.take i) w := by
  unfold PRow at *
  rw [hn] at h
  rw [List.length_take, hn, Nat.min_eq_left hi, ← pcs_take]
  exact own_head h hi
/-- 'append(s[:i], v...)' where there is room. -/
theorem append_in {w : World} {g n c i cb : Nat} {l bl : List Pc} {D : Option Addr} (h : PRow (.slice (some ⟨g, 0, none⟩) n c) l w) (hn : l.length = n) (hi : i ≤ n) (hv : Cls w D bl.length (pcs bl)) (hc : i + bl.length ≤ c) :
    ∃ W, (∀ ty, (Builtin.append_ #[65, 65] ty #[.slice (some ⟨g, 0, none⟩) i c, .slice D bl.length cb]).run Try.prog w = .ok (.slice (some ⟨g, 0, none⟩) (i + bl.length) c) W) ∧ PRow (.slice (some ⟨g, 0, none⟩) (i + bl.length) c) (l.take i ++ bl) W ∧ Turn (fun k => k = g) w W := by
  obtain ⟨iv, hiv, hz0, hz1, hz2⟩ := info_parts infoP
  have ht := h.take hn hi
  have hlt : (l.take i).length = i := by rw [List.length_take, hn, Nat.min_eq_left hi]
  rcases Nat.eq_zero_or_pos bl.length with h0 | h0
  · obtain rfl : bl = [] := List.eq_nil_of_length_eq_zero h0
    refine ⟨w, fun ty => ?_, by simpa using ht, Turn.refl _ _⟩
    have hl : ∀ (x : Addr), (loadCells x 0).run Try.prog w = .ok #[] w := fun x => by simpa using run_loadCells_list (P := Try.prog) w x [] (by simp)
    have hic : i ≤ c := by simp at hc; exact hc
    cases D <;> simp [Builtin.append_, run_underlying pieces_s, sizeOf, typeInfo, hiv, Builtin.lenOf, Builtin.firstCells, hl, hic, storeCells]
  · obtain ⟨a, rfl, hca⟩ := hv.2.2 h0
    unfold PRow at ht
    rw [hlt] at ht
    obtain ⟨m, hm⟩ : ∃ m, bl.length = m := ⟨_, rfl⟩
    rw [hm] at hc h0 ⊢
    have hr := fun ty => run_append_fits (P := Try.prog) (w := w) 0 65 ty 61 iv 5 pieces_s hiv hz1 g i c (pcs (l.take i)) ht a m cb (pcs bl) (by rw [pcs_len, hm]) hca (pcs_one bl) hc
    obtain ⟨W, h1, h2, h3⟩ := hr 0
    refine ⟨W, fun ty => ?_, ?_, (Turn.refl _ w).grown h3 (fun k hk => .inl (by cases hk; rfl))⟩
    · obtain ⟨W', h4, -, -⟩ := hr ty
      have e : (Builtin.append_ #[65, 65] ty #[.slice (some ⟨g, 0, none⟩) i c, .slice (some a) m cb]).run Try.prog w = (Builtin.append_ #[65, 65] 0 #[.slice (some ⟨g, 0, none⟩) i c, .slice (some a) m cb]).run Try.prog w := rfl
      rw [e]; exact h1
    · unfold PRow
      rw [List.length_append, hlt, hm, pcs_app]
      exact h2

section
variable {w : World} {vb : Value} {l bl : List Pc}
set_option maxRecDepth 20000 in
set_option maxHeartbeats 4000000 in
/-- Up to the row's end, and there is room. -/
theorem rep_end {g n c : Nat} (h : PRow (.slice (some ⟨g, 0, none⟩) n c) l w) (hb : PRow vb bl w) (hn : l.length = n) (i : Nat) (hi : i < n) (hg : i + bl.length ≤ c) :
    Calls Try.prog 95 #[.slice (some ⟨g, 0, none⟩) n c, .int .i64 i, .int .i64 n, vb] w fun e w' => ∃ v', e = .returned v' ∧ RowIs w w' (.slice (some ⟨g, 0, none⟩) n c) v' (l.take i ++ bl) := by
  obtain ⟨D, cb, rfl, hcl, hD⟩ := cls_of hb
  obtain ⟨hnc, hcm, zs0, hz0, hF0⟩ := GFull.of h hn
  obtain ⟨W1, hap, hr1, tW1⟩ := append_in (cb := cb) h hn (by omega) hcl hg
  obtain ⟨m, hmb⟩ : ∃ m, bl.length = m := ⟨_, rfl⟩
  rw [hmb] at hg hap hr1 ⊢
  have hlb : (l.take i ++ bl).length = i + m := by simp [hn, hmb]; omega
  obtain ⟨D0, hs0⟩ := slice_lh g n c i n (by omega) hnc
  have hs1 := slice_hi g n c i (by omega)
  have hin : ((i : Int) == (n : Int)) = false := by simp; omega
  have hnn : ((n : Int) == (n : Int)) = true := by simp
  obtain ⟨q, hq⟩ : ∃ q, i + m = q := ⟨_, rfl⟩
  rw [hq] at hap hr1 hg hlb
  by_cases hqn : q < n
  · obtain ⟨hqc, -, zs, hz, hF⟩ := GFull.of hr1 hlb
    obtain ⟨D2, hs2, hD2, -⟩ := slice_lo g n c q (by omega) hnc
    obtain ⟨zz, W2, hzz, hclr, hF2, tW2⟩ := clear5 (k := n - q) (cc := c - q) hF (fun _ => hD2 (by omega)) (by omega)
    have hres : PRow (.slice (some ⟨g, 0, none⟩) q c) (l.take i ++ bl) W2 := by
      refine hF2.prow hlb hqc ?_
      rw [put_take_low (by rw [hF.len]; omega) (Nat.le_refl _), hz]
    have HR := Lib.hid (And.intro hres (And.intro tW1 tW2))
    have hqq : (q : Int) < n := by omega
    clear h hb hcl hD hF0 hz0 hr1 hF hz hF2 hres tW1 tW2 hmb hn hlb hD2 hzz hq
    go_enter Try.func95, Try.ntmps95
    go_wp2_with (at_builtin; refine Lib.wpList_append_run _ rfl (.tmp 32) (.tmp 33) 65 65 rfl _ _ rfl rfl _ _ (hap _) ?_)
    go_ret
    obtain ⟨r1, r2, r3⟩ := HR.out
    exact ⟨_, rfl, ⟨r1, fun k hk => .inl hk, (r2.trans r3 (fun _ h => .inl h)).mono (fun k hk => .inl (by subst hk; rfl))⟩⟩
  · have HR := Lib.hid (And.intro hr1 tW1)
    have hqq : ¬ (q : Int) < n := by omega
    clear h hb hcl hD hF0 hz0 hr1 tW1 hmb hn hlb hq
    go_enter Try.func95, Try.ntmps95
    go_wp2_with (at_builtin; refine Lib.wpList_append_run _ rfl (.tmp 32) (.tmp 33) 65 65 rfl _ _ rfl rfl _ _ (hap _) ?_)
    go_ret
    obtain ⟨r1, r2⟩ := HR.out
    exact ⟨_, rfl, ⟨r1, fun k hk => .inl hk, r2.mono (fun k hk => .inl (by subst hk; rfl))⟩⟩

set_option maxRecDepth 20000 in
set_option maxHeartbeats 4000000 in
/-- Up to the row's end, and there is no room. -/
theorem rep_endg {g n c : Nat} (h : PRow (.slice (some ⟨g, 0, none⟩) n c) l w) (hb : PRow vb bl w) (hn : l.length = n) (i : Nat) (hi : i < n) (hm : n + bl.length ≤ 1048576) (hg : c < i + bl.length) :
    Calls Try.prog 95 #[.slice (some ⟨g, 0, none⟩) n c, .int .i64 i, .int .i64 n, vb] w fun e w' => ∃ v', e = .returned v' ∧ RowIs w w' (.slice (some ⟨g, 0, none⟩) n c) v' (l.take i ++ bl) := by
  obtain ⟨iv, hiv, hz0, hz1, hz2⟩ := info_parts infoP
  obtain ⟨D, cb, rfl, hcl, hD⟩ := cls_of hb
  obtain ⟨hnc, hcm, zs0, -, hF0⟩ := GFull.of h hn
  have ht := h.take hn (i := i) (by omega)
  have hlt : (l.take i).length = i := by rw [List.length_take, hn]; omega
  unfold PRow at ht
  rw [hlt] at ht
  obtain ⟨m, hmb⟩ : ∃ m, bl.length = m := ⟨_, rfl⟩
  rw [hmb] at hm hg hcl ⊢
  obtain ⟨a, rfl, hca⟩ := hcl.2.2 (by omega)
  obtain ⟨D0, hs0⟩ := slice_lh g n c i n (by omega) hnc
  have hs1 := slice_hi g n c i (by omega)
  have hin : ((i : Int) == (n : Int)) = false := by simp; omega
  have hnn : ((n : Int) == (n : Int)) = true := by simp
  have q1 : i + m ≤ maxLen := by unfold maxLen; omega
  have q2 : (i + m) * 40 ≤ 140737488355328 := by omega
  have hl5 : (pcs bl).length = m * 5 := by rw [pcs_len, hmb]
  have hm0 : 0 < m := by omega
  have hqq : ¬ ((i : Int) + (m : Int)) < n := by omega
  have HN := Lib.hid (And.intro hlt hmb)
  clear h hb hcl hD hF0 hmb hn hlt
  go_enter Try.func95, Try.ntmps95
  go_wp2_with (at_builtin; refine wpList_append_lies _ rfl (.tmp 32) (.tmp 33) 65 rfl 0 61 iv _ 5 40 pieces_s hiv hz0 hz1 hz2 rfl (by decide) (.slice (some ⟨g, 0, none⟩) i c) i (pcs (l.take i)) rfl ht a m cb (pcs bl) rfl hl5 hca (pcs_one bl) hm0 q1 q2 (Nat.zero_le _) w.heap.size rfl ?_; intro g1 c1 w1 hown hgrow hat hlt1; have K := Lib.hid (And.intro hown (And.intro hgrow hat)); clear hown hgrow hat)
  go_ret
  obtain ⟨k1, k2, k3⟩ := K.out
  refine ⟨_, rfl, ⟨?_, fun k hk => ?_, (Turn.refl _ w).grown k2 (fun k hk => .inl hk)⟩⟩
  · unfold PRow
    rw [List.length_append, HN.out.1, HN.out.2, pcs_app]
    exact k1
  · simp [Blk, Value.ownBlock] at hk
    subst hk
    rcases k3 with h3 | h3
    · exact .inl h3
    · exact .inr (by omega)

/-- What stands where of a row of which some are others. -/
theorem cls_tail {w : World} {g n c j : Nat} {l : List Pc} (h : PRow (.slice (some ⟨g, 0, none⟩) n c) l w) (hn : l.length = n) (D : Option Addr) (hD : j < c → D = some ⟨g, j * 5, none⟩) (hjn : j < n) (hnc : n ≤ c) : Cls w D (n - j) (pcs (l.drop j)) := by
  refine ⟨by rw [pcs_len, List.length_drop, hn], pcs_one _, fun _ => ⟨_, hD (by omega), fun q u hu => ?_⟩⟩
  have hlt := (List.getElem?_eq_some_iff.1 hu).1
  rw [pcs_len, List.length_drop, hn] at hlt
  rw [← pcs_drop, List.getElem?_drop] at hu
  rw [Addr.add_lit]
  unfold PRow at h
  rw [hn] at h
  exact (h.cellAt (j * 5 + q) (by omega)).trans hu

end
end Go.Proofs.Ytdddmjdlikjedaa
