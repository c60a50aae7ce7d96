/-
  An entry more, an entry less. Conditions: the timers are some that calls can make.
-/
import Derived.Test.YtcbphfpfdfgehaaTSettle
namespace Go.Proofs.Ytcbphfpfdfgehaa
open Go.ChangeShapes Go.WideShapes Go.ChangeAt Go.RowKit

theorem perm_pop {H : List En} {i n : Nat} (hn : H.length = n + 1) (hi : i < H.length) : ((swE H i n).take n).Perm (H.eraseIdx i) := by
  have h1 := swE_perm H hi (j := n) (by omega)
  have h2 : swE H i n = (swE H i n).take n ++ [eAt H i] := by
    have hl : (swE H i n).length = n + 1 := by rw [swE_len, hn]
    have e1 : (swE H i n).drop n = [eAt H i] := by
      have h3 := swE_at H hi (j := n) (by omega) n
      rw [if_pos rfl] at h3
      have h4 := eAt_some (H := swE H i n) (i := n) (by omega)
      rw [h3] at h4
      rw [List.drop_eq_getElem_cons (by omega)]
      rw [List.getElem?_eq_getElem (by omega)] at h4
      simp only [Option.some.injEq] at h4
      rw [h4, List.drop_of_length_le (by omega)]
    rw [← e1, List.take_append_drop]
  have h3 : H.Perm (eAt H i :: H.eraseIdx i) := by
    have e : eAt H i = H[i] := by
      have := eAt_some hi
      rw [List.getElem?_eq_getElem hi] at this
      simpa using this.symm
    rw [e]
    rw [List.eraseIdx_eq_take_drop_succ]
    have h4 : H = H.take i ++ H[i] :: H.drop (i + 1) := by rw [← List.drop_eq_getElem_cons hi, List.take_append_drop]
    exact (by rw [← h4] : H.Perm (H.take i ++ H[i] :: H.drop (i + 1))).trans List.perm_middle
  rw [h2] at h1
  exact ((List.perm_append_singleton _ _).symm.trans (h1.trans h3)).cons_inv
theorem TM.pop {w W2 : World} {c b n : Nat} {most now : Int} {p : Option Addr} {cap : Nat} {H : List En} {P : Int → Option Int} (h : TM w c most now (.slice p (n + 1) cap) b H P) (hn : H.length = n + 1)
    (m2 : PMap W2 b (updI P (eAt H n).k none) n) (t2 : Turn (fun k => k = b) w W2) :
    TM (W2.setCell ⟨c, 2, none⟩ (.slice p n cap)) c most now (.slice p n cap) b (H.take n) (updI P (eAt H n).k none) ∧ Turn (TFoot c (.slice p (n + 1) cap) b) w (W2.setCell ⟨c, 2, none⟩ (.slice p n cap)) := by
  have hcb := h.cb
  have hvc : ∀ k, Blk (.slice p n cap) k → k ≠ c ∧ k ≠ b := fun k hk => h.vc (by cases p with | none => simp [Blk, Value.ownBlock] at hk | some a => simpa [Blk, Value.ownBlock] using hk)
  have tc : Turn (fun k => k = c) W2 (W2.setCell ⟨c, 2, none⟩ (.slice p n cap)) := (Turn.refl (fun k => k = c) W2).setCell (p := ⟨c, 2, none⟩) (.inl rfl) _
  have hty : TBlk W2 c 116 := h.typ.kept t2 hcb
  have hl : (H.take n).length = n := by rw [List.length_take]; omega
  have other : ∀ j, j ≠ 2 → (W2.setCell ⟨c, 2, none⟩ (.slice p n cap)).cell? ⟨c, j, none⟩ = W2.cell? ⟨c, j, none⟩ := fun j hj => World.cell?_setCell_other _ _ _ _ (fun e => hj (by (try simp at e) <;> omega))
  refine ⟨⟨?_, ?_, ?_, ?_, hty.set 2 _ c, ?_, ?_, h.pos.pop hn, fun e he => h.fits e (List.mem_of_mem_take he), by rw [hl]; have := h.len; omega⟩, ?_⟩
  · rw [other 0 (by omega)]; exact t2.cell h.c0 hcb
  · rw [other 1 (by omega)]; exact t2.cell h.c1 hcb
  · obtain ⟨cur, hcur⟩ := hty
    rw [cell_at (set_at hcur 2 _)]
    have h2 := t2.cell h.c2 hcb
    rw [cell_at hcur] at h2
    have : 2 < cur.size := by
      rcases Nat.lt_or_ge 2 cur.size with h3 | h3
      · exact h3
      · rw [Array.getElem?_eq_none h3] at h2; cases h2
    simp [this]
  · rw [other 3 (by omega)]; exact t2.cell h.c3 hcb
  · exact ((h.row.head (m := n) (by omega)).kept t2 (fun k hk => (hvc k hk).2)).kept tc (fun k hk => (hvc k hk).1)
  · rw [hl]; exact PMap.past m2 tc (fun e => hcb e.symm)
  · exact (t2.mono (fun k hk => .inl (.inr (.inl hk)))).trans (tc.mono (G := TFoot c (.slice p (n + 1) cap) b) (fun k hk => .inl (.inl hk))) (fun k hk => .inl hk)
set_option maxHeartbeats 1000000 in
theorem remove_any {w : World} {c b : Nat} {most now : Int} {v : Value} {H : List En} {P : Int → Option Int} (h : TM w c most now v b H P) (i : Nat) (hi : i < H.length) (hh : HeapN (fH H) H.length) :
    Calls Try.prog 57 #[.pointer (some ⟨c, 0, none⟩), .int .i64 (i : Int)] w fun x w' => x = .returned (.tuple #[]) ∧ (∃ v' H' P', H'.Perm (H.eraseIdx i) ∧ TM w' c most now v' b H' P' ∧ HeapN (fH H') H'.length ∧ ∀ k, Blk v' k ↔ Blk v k) ∧ Turn (TFoot c v b) w w' := by
  obtain ⟨g, o, cap, hv, hnc, hcm, -⟩ := WRow.shape h.row (by omega)
  obtain ⟨n, hn⟩ : ∃ n, H.length = n + 1 := ⟨H.length - 1, by omega⟩
  rw [hn] at hv hnc
  subst hv
  have hln := h.len
  rw [hn] at hln
  have c2 := h.c2
  have CS := Lib.hid (swap_any h i n hi (by omega))
  have HT := Lib.hid h
  have HH := Lib.hid (And.intro hh (And.intro hn hi))
  have hin : i ≤ n := by omega
  clear h hh hn hi
  have e1 : IntKind.i64.wrap ((n : Int) + 1 - 1) = (n : Int) := by rw [show (n : Int) + 1 - 1 = n by omega]; exact wrap_nat _ (by omega)
  go_enter Try.func57, Try.ntmps57
  go_wp2_with (first
    | (go_at_call 74; (with_reducible refine CS.out.mono ?_); rintro e w1 ⟨rfl, m1, t1⟩))
  obtain ⟨P1, m1⟩ := m1
  have hl1 : (swE H i n).length = n + 1 := by rw [swE_len]; exact HH.out.2.1
  have d2 := m1.c2
  have d3 := m1.c3
  have q1 := (m1.row.two (j := n) (by omega)).1
  have hkn := eAt_mem (H := swE H i n) (i := n) (by omega)
  obtain ⟨W2, p2, m2, t2⟩ := PMap.drop (m1.map.drew) (eAt (swE H i n) n).k (m1.fits _ hkn).1 0
  have p2' : ∀ ty, Sem.run Try.prog (Builtin.delete_ #[113, 3] ty #[.map (some b), .int .i64 (eAt (swE H i n) n).k]) w1.drew = .ok (.tuple #[]) W2 := fun ty => p2
  rw [m1.pos.all n (by omega), Option.isSome_some, if_pos rfl, hl1, Nat.add_sub_cancel] at m2
  have t2' : Turn (fun k => k = b) w1 W2 := ((Turn.refl _ w1).drew).trans t2 (fun k hk => .inl hk)
  have hcb := m1.cb
  have f2 := t2'.cell d2 hcb
  have f3 := (m1.typ.kept t2' hcb).free 2
  obtain ⟨m3, t3⟩ := m1.pop hl1 m2 t2'
  obtain ⟨W3, hW3⟩ : ∃ W3, W2.setCell ⟨c, 2, none⟩ (.slice (some ⟨g, o, none⟩) n cap) = W3 := ⟨_, rfl⟩
  rw [hW3] at m3 t3
  have M3 := Lib.hid (And.intro m3 (t1.trans t3 (fun k hk => .inl hk)))
  have hcap : n ≤ cap := by omega
  have hcap2 : cap ≤ 9223372036854775807 := by unfold maxLen at hcm; omega
  generalize (eAt (swE H i n) n).k = kk at *
  generalize updI P1 kk none = P2 at *
  have hf : ∀ k, k < n → k ≠ i → fH ((swE H i n).take n) k = fH H k := fun k h1 h2 => by
    unfold fH
    rw [eAt_take h1, swE_at H HH.out.2.2 (by have := HH.out.2.1; omega), if_neg (by omega), if_neg h2]
  have HF := Lib.hid hf
  have hl3 : ((swE H i n).take n).length = n := by rw [List.length_take]; omega
  have HL := Lib.hid hl3
  have hfree : W2.frozen? ⟨c, 2, none⟩ = false := f3
  clear hkn p2 m2 t2 t2' hcb m1 t1 m3 t3 hl1 hf hl3 hnc hcm f3
  go_region
  by_cases hlt : i < n
  · have CT := Lib.hid (settle_any M3.out.1 i (by rw [HL.out]; exact hlt) (by
      rw [HL.out]
      refine anyInv_pop (f := fH H) ?_ hlt HF.out
      rw [← HH.out.2.1]
      exact HH.out.1))
    go_wp2_with (first
      | (go_at_call 58; (with_reducible refine CT.out.mono ?_); rintro e w4 ⟨rfl, m4, t4⟩))
    go_end0
    obtain ⟨H4, P4, hp, hm, hh⟩ := m4
    exact ⟨rfl, ⟨_, H4, P4, hp.trans (perm_pop HH.out.2.1 HH.out.2.2), hm, hh, fun k => by simp [Blk, Value.ownBlock]⟩, M3.out.2.trans t4 (fun k hk => .inl hk)⟩
  · go_wp2
    go_end0
    refine ⟨rfl, ⟨_, _, _, perm_pop HH.out.2.1 HH.out.2.2, M3.out.1, ?_, fun k => by simp [Blk, Value.ownBlock]⟩, M3.out.2⟩
    rw [HL.out]
    intro k h0 hk
    rw [HF.out k hk (by omega), HF.out _ (by omega) (by omega)]
    exact HH.out.1 k h0 (by have := HH.out.2.1; omega)
end Go.Proofs.Ytcbphfpfdfgehaa
