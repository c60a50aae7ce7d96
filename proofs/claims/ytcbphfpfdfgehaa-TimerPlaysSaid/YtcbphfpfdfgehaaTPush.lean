/-
  An entry more. Conditions: the timers are some that calls can make; the key has no place yet; there is room.
-/
import Derived.Test.YtcbphfpfdfgehaaTAdd
namespace Go.Proofs.Ytcbphfpfdfgehaa
open Go.ChangeShapes Go.WideShapes Go.ChangeAt Go.RowKit

theorem TM.push {w W W3 : World} {c b : Nat} {most now : Int} {v v' : Value} {H : List En} {P : Int → Option Int} {e : En} (h : TM w c most now v b H P) (t : Turn (Blk v) w W) (hr : ERow v' (H ++ [e]) W)
    (hk : ∀ k, Blk v' k → Blk v k ∨ w.heap.size ≤ k) (m3 : PMap W3 b (updI P e.k (some (H.length : Int))) (H.length + 1)) (t3 : Turn (fun k => k = b) (W.setCell ⟨c, 2, none⟩ v') W3)
    (hP : P e.k = none) (hf : fitE e) (hl : H.length < 65536) :
    TM W3 c most now v' b (H ++ [e]) (updI P e.k (some (H.length : Int))) ∧ Turn (TFoot c v b) w W3 := by
  have hcb := h.cb
  have hc : ¬ Blk v c := fun hk => (h.vc hk).1 rfl
  have hb : ¬ Blk v b := fun hk => (h.vc hk).2 rfl
  have hcl := h.typ.lt
  have hbl := h.map.lt
  have hvc : ∀ k, Blk v' k → k ≠ c ∧ k ≠ b := fun k hk' => by
    rcases hk k hk' with h1 | h1
    · exact h.vc h1
    · omega
  have tc : Turn (fun k => k = c) W (W.setCell ⟨c, 2, none⟩ v') := (Turn.refl (fun k => k = c) W).setCell (p := ⟨c, 2, none⟩) (.inl rfl) _
  have hty : TBlk W c 116 := h.typ.kept t hc
  have other : ∀ j, j ≠ 2 → (W.setCell ⟨c, 2, none⟩ v').cell? ⟨c, j, none⟩ = W.cell? ⟨c, j, none⟩ := fun j hj => World.cell?_setCell_other _ _ _ _ (fun e => hj (by (try simp at e) <;> omega))
  have c2 : (W.setCell ⟨c, 2, none⟩ v').cell? ⟨c, 2, none⟩ = some v' := by
    obtain ⟨cur, hcur⟩ := hty
    rw [cell_at (set_at hcur 2 _)]
    have h2 := t.cell h.c2 hc
    rw [cell_at hcur] at h2
    have : 2 < cur.size := by
      rcases Nat.lt_or_ge 2 cur.size with h3 | h3
      · exact h3
      · rw [Array.getElem?_eq_none h3] at h2; cases h2
    simp [this]
  have hle : (H ++ [e]).length = H.length + 1 := by simp
  refine ⟨⟨t3.cell ((other 0 (by omega)).trans (t.cell h.c0 hc)) hcb, t3.cell ((other 1 (by omega)).trans (t.cell h.c1 hc)) hcb, t3.cell c2 hcb, t3.cell ((other 3 (by omega)).trans (t.cell h.c3 hc)) hcb, (hty.set 2 _ c).kept t3 hcb,
    (hr.kept tc (fun k hk => (hvc k hk).1)).kept t3 (fun k hk => (hvc k hk).2), by rw [hle]; exact m3, h.pos.push hP, fun x hx => ?_, by rw [hle]; omega⟩, ?_⟩
  · rcases List.mem_append.1 hx with h1 | h1
    · exact h.fits x h1
    · rw [List.mem_singleton] at h1
      subst h1
      exact hf
  · exact ((t.mono (fun k hk => .inl (.inr (.inr hk)))).trans (tc.mono (G := TFoot c v b) (fun k hk => .inl (.inl hk))) (fun k hk => .inl hk)).trans (t3.mono (G := TFoot c v b) (fun k hk => .inl (.inr (.inl hk)))) (fun k hk => .inl hk)
set_option maxHeartbeats 1000000 in
theorem add_any {w : World} {c b : Nat} {most now : Int} {v : Value} {H : List En} {P : Int → Option Int} (h : TM w c most now v b H P) (hh : HeapN (fH H) H.length) (e : En) (hP : P e.k = none) (hf : fitE e) (hl : H.length < 65536) :
    Calls Try.prog 59 #[.pointer (some ⟨c, 0, none⟩), e.agg] w fun x w' => x = .returned (.tuple #[]) ∧ (∃ v' H' P', H'.Perm (H ++ [e]) ∧ TM w' c most now v' b H' P' ∧ HeapN (fH H') H'.length ∧ ∀ k, Blk v' k → Blk v k ∨ w.heap.size ≤ k) ∧ Turn (TFoot c v b) w w' := by
  obtain ⟨i5, hi5, hz5, hs5, hb5⟩ := info_parts infoE
  obtain ⟨n, hn⟩ : ∃ n, H.length = n := ⟨_, rfl⟩
  obtain ⟨p, cap, hv⟩ := h.row.sl
  rw [hn] at hv
  subst hv
  have c2 := h.c2
  have c3 := h.c3
  have hc : ¬ Blk (.slice p n cap) c := fun hk => (h.vc hk).1 rfl
  have hb : ¬ Blk (.slice p n cap) b := fun hk => (h.vc hk).2 rfl
  have hcl := h.typ.lt
  have HT := Lib.hid (And.intro h (And.intro hh (And.intro hP (And.intro hf (And.intro hl hn)))))
  have f1 : n + 1 ≤ maxLen := by unfold maxLen; omega
  have f2 : (n + 1) * 16 ≤ 140737488355328 := by omega
  have HF := Lib.hid (And.intro f1 f2)
  have hnl : n < 65536 := by omega
  obtain ⟨g, hg⟩ : ∃ g, w.heap.size = g := ⟨_, rfl⟩
  obtain ⟨k, d⟩ := e
  have b0 := World.cell?_alloc_new w #[.int .i64 k, .int .i64 d] 118 0
  have b1 := World.cell?_alloc_new w #[.int .i64 k, .int .i64 d] 118 1
  rw [hg] at b0 b1
  have t0 : Turn NoBlock w (w.alloc (.cells #[.int .i64 k, .int .i64 d] 118)) := (Turn.refl _ w).alloc _
  have hz0 : (w.alloc (.cells #[.int .i64 k, .int .i64 d] 118)).heap.size = g + 1 := by simp [hg]
  have HG := Lib.hid hg
  unfold En.agg
  simp only
  clear h hh hP hf hl hn f1 f2 hg
  go_enter Try.func59, Try.ntmps59
  go_wp2
  rw [HG.out]
  generalize w.alloc (.cells #[.int .i64 k, .int .i64 d] 118) = W0 at *
  have x0 : W0.cell? ⟨g, 0, none⟩ = some (.int .i64 k) := b0
  have x1 : W0.cell? ⟨g, 1, none⟩ = some (.int .i64 d) := b1
  have x2 := t0.cell c2 (fun h => h)
  have ROW := Lib.hid (fun W (t : Turn NoBlock W0 W) => show WRow W 118 2 (.slice p n cap) n (ecells H) from by
    have := (HT.out.1.row.past (TT t0 t))
    unfold ERow at this
    rw [HT.out.2.2.2.2.2] at this
    exact this)
  have KC := Lib.hid (fun W (t : Turn (Blk (.slice p n cap)) w W) => show W.cell? ⟨c, 2, none⟩ = some (.slice p n cap) ∧ W.frozen? ⟨c, 2, none⟩ = false from ⟨t.cell c2 hc, (HT.out.1.typ.kept t hc).free 2⟩)
  have T0 := Lib.hid t0
  have HX := Lib.hid (And.intro x0 (And.intro x1 (And.intro c3 (And.intro hc hb))))
  have hwg := HG.out
  have hcW : c < W0.heap.size := by omega
  have hgW : g < W0.heap.size := by omega
  have HZ := Lib.hid hz0
  clear b0 b1 t0 c2 c3 hc hb hz0 hwg
  go_region_law (first
    | (refine step_append_w rfl (.tmp 14) (.tmp 16) 114 114 rfl (ROW.out _ (((Turn.refl NoBlock W0).drew).alloc _)) i5 _ 16 entriesT hi5 hz5 hs5 hb5 (by rfl) (by rfl) (by rfl) (Rd.src (rd_new W0.drew 118 2 #[.int .i64 k, .int .i64 d] rfl) 114 118 entriesT (ecells_one [⟨k, d⟩])) HF.out.1 HF.out.2 ?_; intro v7 W7 r7 t7 k7; obtain ⟨p7, c7, rfl⟩ := r7.sl; have R7 := Lib.hid (And.intro r7 (And.intro t7 k7)); have t07 := (TU (F := Blk (.slice p n cap)) (TT T0.out (((Turn.refl NoBlock W0).drew).alloc (.cells #[.int .i64 k, .int .i64 d] 118)))).trans t7 (fun _ h => .inl h); obtain ⟨m2, m3⟩ := KC.out _ t07; have T07 := Lib.hid t07; clear r7 t7 k7 t07))
  all_goals
    have hr7 : ERow (.slice p7 (n + 1) c7) (H ++ [⟨k, d⟩]) W7 := by
      unfold ERow
      rw [List.length_append, HT.out.2.2.2.2.2, ecells_app]
      exact R7.out.1
    have hgB : ¬ Blk (.slice p n cap) g := fun hk => by
      have := WRow.lt HT.out.1.row hk
      have := HG.out
      omega
    have ht07 : Turn (Blk (.slice p n cap)) W0 W7 := (TU (F := Blk (.slice p n cap)) (((Turn.refl NoBlock W0).drew).alloc (.cells #[.int .i64 k, .int .i64 d] 118))).trans R7.out.2.1 (fun _ h => .inl h)
    have q0 := ht07.cell HX.out.1 hgB
    have q3 := T07.out.cell HX.out.2.2.1 HX.out.2.2.2.1
    have hgc : g ≠ c := by have := HG.out; omega
    obtain ⟨W8, hW8⟩ : ∃ W8, W7.setCell ⟨c, 2, none⟩ (.slice p7 (n + 1) c7) = W8 := ⟨_, rfl⟩
    have tc : Turn (fun k => k = c) W7 W8 := by rw [← hW8]; exact (Turn.refl (fun k => k = c) W7).setCell (p := ⟨c, 2, none⟩) (.inl rfl) _
    have s0 := tc.cell q0 hgc
    have s3 : W8.cell? ⟨c, 3, none⟩ = some (.map (some b)) := by
      rw [← hW8]
      exact (World.cell?_setCell_other _ _ _ _ (fun e => by simp at e)).trans q3
    have mp := PMap.past (PMap.past HT.out.1.map T07.out HX.out.2.2.2.2) tc (fun e => HT.out.1.cb e.symm)
    rw [HT.out.2.2.2.2.2] at mp
    obtain ⟨W9, p9, m9, t9⟩ := PMap.put mp.drew (by unfold maxLen; omega) k (n : Int) HT.out.2.2.2.1.1 (by unfold fit; omega)
    rw [HT.out.2.2.1, if_neg (by simp)] at m9
    have t9' : Turn (fun k => k = b) W8 W9 := ((Turn.refl _ W8).drew).trans t9 (fun _ h => .inl h)
    have hbk : ∀ k, Blk (.slice p7 (n + 1) c7) k → Blk (.slice p n cap) k ∨ w.heap.size ≤ k := fun k hk => by
      rcases R7.out.2.2 k hk with h1 | h1
      · exact .inl h1
      · right
        rw [h1.1]
        exact (TT T0.out (((Turn.refl NoBlock W0).alloc _).drew)).size
    have hfin := TM.push HT.out.1 T07.out hr7 hbk (by rw [HT.out.2.2.2.2.2]; exact m9) (by rw [hW8]; exact t9') HT.out.2.2.1 HT.out.2.2.2.1 HT.out.2.2.2.2.1
    have M9 := Lib.hid (And.intro hfin hbk)
    have CT := Lib.hid (settle_any hfin.1 n (by rw [List.length_append, HT.out.2.2.2.2.2]; simp) (by
      rw [List.length_append, HT.out.2.2.2.2.2]
      refine anyInv_push (f := fH H) (by rw [← HT.out.2.2.2.2.2]; exact HT.out.2.1) (fun k hk => ?_)
      unfold fH
      rw [eAt_push (by rw [HT.out.2.2.2.2.2]; exact hk)]))
    clear hr7 hgB ht07 q0 q3 hgc tc mp m9 t9 t9' hbk hfin m2 m3 x0 x1 x2
    go_wp2
    go_region
    go_wp2_with (go_at_call 58; (with_reducible refine CT.out.mono ?_); rintro x w10 ⟨rfl, m10, t10⟩)
    go_end0
    obtain ⟨H', P', hp, hm, hh⟩ := m10
    exact ⟨rfl, ⟨_, H', P', hp, hm, hh, M9.out.2⟩, M9.out.1.2.trans t10 (fun j hj => by
      rcases hj with h1 | h1 | h1
      · exact .inl (.inl h1)
      · exact .inl (.inr (.inl h1))
      · rcases M9.out.2 j h1 with h2 | h2
        · exact .inl (.inr (.inr h2))
        · exact .inr h2)⟩
end Go.Proofs.Ytcbphfpfdfgehaa
