/-
  What drop makes of an end: the first bytes, or the first piece, are gone. No conditions but that they are there.
-/
import Derived.Test.YtocaebcbmfejbaaKSmall
namespace Go.Proofs.Ytocaebcbmfejbaa
open Go.ChangeShapes Go.WideShapes Go.ChangeAt Go.RowKit

theorem elem_bytes : Try.prog.underlying 35 = some (.slice (Try.prog.elem 35)) := by kernel_rfl
theorem elem_ints : Try.prog.underlying 36 = some (.slice (Try.prog.elem 36)) := by kernel_rfl
theorem size_bytes : ∀ w, (Go.sizeOf (Try.prog.elem 35)).run Try.prog w = .ok 1 w := fun w => by kernel_rfl
theorem size_ints : ∀ w, (Go.sizeOf (Try.prog.elem 36)).run Try.prog w = .ok 1 w := fun w => by kernel_rfl
theorem wrow_drop {w : World} {e size g o n c : Nat} {xs : List Value} (h : WRow w e size (.slice (some ⟨g, o, none⟩) n c) n xs) {l : Nat} (hl : l ≤ n) {D : Option Addr} (hD1 : l < c → D = some ⟨g, o + l * size, none⟩) (hD2 : c = l → D = some ⟨g, o, none⟩) :
    WRow w e size (.slice D (n - l) (c - l)) (n - l) (xs.drop (l * size)) ∧ ∀ k, Blk (.slice D (n - l) (c - l)) k → k = g := by
  rcases h.form with ⟨h1, -⟩ | ⟨g', o', c', he, h1, h2, h3, h4, h5⟩
  · simp at h1
  · simp only [Value.slice.injEq, Option.some.injEq, Addr.mk.injEq, and_true, true_and] at he
    obtain ⟨⟨rfl, rfl⟩, rfl⟩ := he
    have hlen : (xs.drop (l * size)).length = (n - l) * size := by rw [List.length_drop, h.len, Nat.sub_mul]
    have hls : l * size ≤ n * size := Nat.mul_le_mul_right _ hl
    by_cases hc : c = l
    · have hn : n - l = 0 := by omega
      rw [hD2 hc]
      refine ⟨⟨hlen, .inr ⟨g, o, c - l, rfl, by omega, by omega, h3, fun j hj => ?_, fun j hj => ?_⟩⟩, fun k hk => by simp [Blk, Value.ownBlock] at hk; exact hk.symm⟩
      · rw [hn] at hj; simp at hj
      · rw [show c - l = 0 by omega] at hj; simp at hj
    · rw [hD1 (by omega)]
      have e1 : (n - l) * size + l * size = n * size := by rw [← Nat.add_mul]; congr 1; omega
      have e2 : (c - l) * size + l * size = c * size := by rw [← Nat.add_mul]; congr 1; omega
      refine ⟨⟨hlen, .inr ⟨g, o + l * size, c - l, rfl, by omega, by omega, h3, fun j hj => ?_, fun j hj => ?_⟩⟩, fun k hk => by simp [Blk, Value.ownBlock] at hk; exact hk.symm⟩
      · rw [Nat.add_assoc, h4 _ (by omega), List.getElem?_drop]
      · rw [Nat.add_assoc]; exact h5 _ (by omega)
theorem byts_shape {w : World} {v : Value} {b : List UInt8} (h : Byts v b w) (h0 : 0 < b.length) : ∃ g o ca, v = .slice (some ⟨g, o, none⟩) b.length ca ∧ b.length ≤ ca := by
  obtain ⟨g, o, ca, hv, h1, -⟩ := WRow.shape h h0
  exact ⟨g, o, ca, hv, h1⟩
theorem byts_drop {w : World} {g o ca : Nat} {b : List UInt8} (h : Byts (.slice (some ⟨g, o, none⟩) b.length ca) b w) (hc : b.length ≤ ca) {x : Nat} (hx : x ≤ b.length) : ∃ D, (∀ w, Sem.run Try.prog (Instr.slice 35 (.slice (some ⟨g, o, none⟩) b.length ca) (some (.int .i64 (x : Int))) none none) w = .ok (.slice D (b.length - x) (ca - x)) w) ∧
    Byts (.slice D (b.length - x) (ca - x)) (b.drop x) w ∧ ∀ k, Blk (.slice D (b.length - x) (ca - x)) k → k = g := by
  obtain ⟨D, hs, hD1, hD2⟩ := sl_lo 35 1 elem_bytes size_bytes g o b.length ca x hx hc
  obtain ⟨h1, h2⟩ := wrow_drop h hx hD1 hD2
  refine ⟨D, hs, ?_, h2⟩
  unfold Byts
  rw [List.length_drop]
  rw [Nat.mul_one] at h1
  rw [show bcells (b.drop x) = (bcells b).drop x by simp [bcells, List.map_drop]]
  exact h1
section
variable {w : World} {c o : Nat} {s : En} {v : EV}
set_option maxRecDepth 20000 in
set_option maxHeartbeats 1000000 in
theorem kdrop_p (h : EAt w c o s v) {x : Nat} {rest : List Nat} (hp : s.p = x :: rest) (hx : x ≤ s.b.length) (hx1 : 1 ≤ x) (hz : s.b.length = x → rest = []) (hn : s.b.length ≤ 2000000) (hn2 : s.p.length ≤ 2000000) (n : Int) :
    Calls Try.prog 78 #[.pointer (some ⟨c, o, none⟩), .int .i64 n] w fun e w' => (∃ u, e = .returned u) ∧ ∃ v', EStep w w' c o v { s with b := s.b.drop x, p := rest } v' := by
  obtain ⟨g, i, ca, hv, hca⟩ := byts_shape h.rowB (by omega)
  have hB := h.rowB
  rw [hv] at hB
  obtain ⟨D, hs, hD, hDk⟩ := byts_drop hB hca hx
  have hr := h.rowP
  rw [hp] at hr
  obtain ⟨g2, i2, c2, hv2, hnc, hcm, hty, hc, hso⟩ := WRow.shape hr (by rw [pints_len]; simp)
  have d0 : w.cell? ⟨g2, i2, none⟩ = some (.int .i64 (x : Int)) := hc 0 (by rw [pints_len]; simp)
  have hl : (pints (x :: rest)).length = rest.length + 1 := by rw [pints_len]; rfl
  rw [hl] at hnc hv2
  obtain ⟨E, hs2, hE1, hE2⟩ := sl_lo 36 1 elem_ints size_ints g2 i2 (rest.length + 1) c2 1 (by omega) hnc
  have hr2 := hr
  unfold Nums at hr2
  rw [hl, hv2] at hr2
  obtain ⟨hE, hEk⟩ := wrow_drop hr2 (show 1 ≤ rest.length + 1 by omega) hE1 hE2
  rw [show rest.length + 1 - 1 = rest.length by omega] at hE hEk hs2
  have hE' : Nums (.slice E rest.length (c2 - 1)) (pints rest) w := by
    unfold Nums
    rw [pints_len]
    exact hE
  have c3 := h.c3
  have c4 := h.c4
  rw [hv] at c3
  rw [hv2] at c4
  have f3 := h.f (o + 3)
  have f4 := h.f (o + 4)
  have hl2 : s.p.length = rest.length + 1 := by rw [hp]; rfl
  rw [hl2] at hn2
  have st1 := h.putP (p := rest) (Turn.refl _ _) hE' (fun k hk => .inl (by rw [hEk k hk, hv2]; simp [Blk, Value.ownBlock]))
  have bt : Byts (.slice D (s.b.length - x) (ca - x)) (s.b.drop x) (w.setCell ⟨c, o + 4, none⟩ (.slice E rest.length (c2 - 1))) := WRow.setC hD h.typ (by decide)
  have st2 := st1.trans (st1.at'.putB (b := s.b.drop x) (Turn.refl _ _) bt (fun k hk => .inl (by rw [hDk k hk]; show Blk v.b g; rw [hv]; simp [Blk, Value.ownBlock])))
  have hs3 : ∀ w, Sem.run Try.prog (Instr.slice 36 (.slice (some ⟨g2, i2, none⟩) (rest.length + 1) c2) (some (.int .i64 1)) none none) w = .ok (.slice E rest.length (c2 - 1)) w := hs2
  have hcg : c ≠ g2 := fun e => by have := h.np; rw [hv2] at this; exact this (by rw [e]; simp [Blk, Value.ownBlock])
  by_cases hxe : s.b.length = x
  · obtain rfl := hz hxe
    have st3 := st2.trans (st2.at'.putB (b := []) (Turn.refl _ _) (byts_nil _) (fun k hk => (blk_nil k hk).elim))
    have st4 := Lib.hid (st3.trans (st3.at'.putP (p := []) (Turn.refl _ _) (nums_nil _) (fun k hk => (blk_nil k hk).elim)))
    have HD := Lib.hid (show s.b.drop x = [] from List.drop_of_length_le (by omega))
    have hg := Lib.hid hcg
    clear h hB hD hDk hr hr2 hE hEk hE' hv hv2 hnc hcm hty hc hso hl hs2 hE1 hE2 st1 st2 st3 bt hz hcg hl2
    rw [hxe, Nat.sub_self] at hs
    rw [hxe] at hca c3 hx hn
    rw [hxe, Nat.sub_self] at st4
    simp only [List.length_nil, Nat.zero_add] at hs3 st4 hn2 c4
    have hxi : (x : Int) ≤ 2000000 := by omega
    go_enter Try.func78, Try.ntmps78
    go_wp2
    go_end0
    rw [HD.out]
    exact ⟨⟨_, rfl⟩, _, st4.out⟩
  · have hbl : ¬ (((s.b.length - x : Nat)) : Int) = 0 := by omega

    have hg := Lib.hid hcg
    have st4 := Lib.hid st2
    have hxi : (x : Int) ≤ 2000000 := by omega
    have hsi : (s.b.length : Int) ≤ 2000000 := by omega
    have hxs : (x : Int) ≤ (s.b.length : Int) := by omega
    clear h hB hD hDk hr hr2 hE hEk hE' hv hv2 hnc hcm hty hc hso hl hs2 hE1 hE2 st1 st2 bt hz hcg hl2 hxe hp
    generalize rest.length = l at *
    have hl1 : (0 : Int) < ((l + 1 : Nat) : Int) := by omega
    generalize s.b.length - x = m at *
    generalize s.b.length = nb at *
    clear hx hn hca hn2 hx1
    go_enter Try.func78, Try.ntmps78
    go_wp2
    go_end0
    exact ⟨⟨_, rfl⟩, _, st4.out⟩
set_option maxRecDepth 20000 in
set_option maxHeartbeats 1000000 in
theorem kdrop_b (h : EAt w c o s v) (hp : s.p = []) {x : Nat} (hx : x ≤ s.b.length) (h0 : 0 < s.b.length) (hn : s.b.length ≤ 2000000) :
    Calls Try.prog 78 #[.pointer (some ⟨c, o, none⟩), .int .i64 (x : Int)] w fun e w' => (∃ u, e = .returned u) ∧ ∃ v', EStep w w' c o v { s with b := s.b.drop x } v' := by
  obtain ⟨g, i, ca, hv, hca⟩ := byts_shape h.rowB (by omega)
  have hB := h.rowB
  rw [hv] at hB
  obtain ⟨D, hs, hD, hDk⟩ := byts_drop hB hca hx
  obtain ⟨q, qc, hq⟩ := h.rowP.sl
  have c3 := h.c3
  have c4 := h.c4
  rw [hv] at c3
  rw [hq, hp] at c4
  have f3 := h.f (o + 3)
  have f4 := h.f (o + 4)
  simp only [pints, List.map_nil, List.length_nil] at c4
  have st2 := h.putB (b := s.b.drop x) (Turn.refl _ _) hD (fun k hk => .inl (by rw [hDk k hk, hv]; simp [Blk, Value.ownBlock]))
  have HP := Lib.hid hp
  by_cases hxe : s.b.length = x
  · have st3 := st2.trans (st2.at'.putB (b := []) (Turn.refl _ _) (byts_nil _) (fun k hk => (blk_nil k hk).elim))
    have st4 := Lib.hid (st3.trans (st3.at'.putP (p := []) (Turn.refl _ _) (nums_nil _) (fun k hk => (blk_nil k hk).elim)))
    have HD := Lib.hid (show s.b.drop x = [] from List.drop_of_length_le (by omega))
    clear h hB hD hDk hv hq st2 st3 hp h0
    rw [hxe, Nat.sub_self] at hs
    rw [hxe] at hca c3 hx hn
    rw [hxe, Nat.sub_self] at st4
    have hxi : (x : Int) ≤ 2000000 := by omega
    clear hx hn
    go_enter Try.func78, Try.ntmps78
    go_wp2
    go_end0
    rw [HD.out]
    have st5 := st4.out
    rw [← HP.out] at st5
    exact ⟨⟨_, rfl⟩, _, st5⟩
  · have hbl : ¬ (((s.b.length - x : Nat)) : Int) = 0 := by omega
    have st4 := Lib.hid st2
    have hxi : (x : Int) ≤ 2000000 := by omega
    have hsi : (s.b.length : Int) ≤ 2000000 := by omega
    have hxs : (x : Int) ≤ (s.b.length : Int) := by omega
    clear h hB hD hDk hv hq st2 hp h0 hxe
    generalize s.b.length - x = m at *
    generalize s.b.length = nb at *
    clear hx hn hca
    go_enter Try.func78, Try.ntmps78
    go_wp2
    go_end0
    exact ⟨⟨_, rfl⟩, _, st4.out⟩
end
end Go.Proofs.Ytocaebcbmfejbaa
