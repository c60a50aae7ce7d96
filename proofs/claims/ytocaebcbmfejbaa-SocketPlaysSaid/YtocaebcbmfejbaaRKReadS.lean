/-
  What the reference's Read of a stream answers, and what it makes of its socket. No conditions but that the reference's socket is one that calls can make.
-/
import Derived.Test.YtocaebcbmfejbaaRKRead
namespace Go.Proofs.Ytocaebcbmfejbaa
open Go.ChangeShapes Go.WideShapes Go.ChangeAt Go.RowKit

section
variable {w : World} {x room : Nat} {dg : Bool} {C M D : Nat → Bool} {U : Nat → Value} {Q : Nat → Pcs}
set_option maxRecDepth 20000 in
set_option maxHeartbeats 2000000 in
theorem rread_s0 (h : RAt w x false room C M D U Q) (hc : C 0 = false) (n : Nat) (hn : n ≤ maxLen) (pk : Bool) (hpos : 0 < (Q 0).length) (hone : ∀ q ∈ Q 0, q.2.length = 1) (hql : (Q 0).length ≤ 2000000) (m : Nat) (hm : m = min n (Q 0).length) :
    Calls Try.prog 29 #[.pointer (some ⟨x, 0, none⟩), .int .i64 0, .int .i64 (n : Int), .bool pk] w fun y w' => ∃ v, y = .returned (.tuple #[v, .int .i64 0]) ∧ Byts v (pb ((Q 0).take m)) w' ∧ RMadeQ w w' x false room C M D U Q (fun _ => False) (if pk then Q else updN Q 0 ((Q 0).drop m)) := by
  obtain ⟨i5, hi5, hz5, hs5, hb5⟩ := info_parts infoB
  have CK := Lib.hid (show Calls Try.prog 75 #[.pointer (some ⟨x, 0, none⟩), .int .i64 0] w fun y w' => y = .returned (.int .i64 0) ∧ w = w' from rcheck0 h false hc)
  obtain ⟨g, o, ca, hv, hca⟩ := pcs_shape (h.row 0 (by omega)) hpos
  have hr := h.row 0 (by omega)
  have hcell := hr
  rw [hv] at hcell
  have c0 : w.cell? ⟨x, 0, none⟩ = some (U 0) := h.cw 0 (by omega)
  rw [hv] at c0
  have c8 := h.c8
  have hnn : ¬ (n : Int) < 0 := by omega
  have hl0 : ((((Q 0).length : Nat) : Int) == 0) = false := by rw [beq_eq_false_iff_ne]; omega
  have hl1 : (((Q 0).length : Nat) : Int) ≤ 2000000 := by omega
  have hl2 : (0 : Int) < (((Q 0).length : Nat) : Int) := by omega
  unfold maxLen at hn
  have hni : (n : Int) ≤ 9223372036854775807 := by omega
  have hmi : (m : Int) ≤ 2000000 := by omega
  obtain ⟨E, hE, hE1, hE2⟩ := sl_lo 57 1 elem_bytess size_bytess g o (Q 0).length ca m (by omega) hca
  have hsl := hE
  have HE := Lib.hid (And.intro hE1 hE2)
  have HM := Lib.hid (And.intro h (And.intro hv (And.intro hpos (And.intro hcell (And.intro hm hone)))))
  have f0 := h.f 0
  have lx := h.typ.lt
  have CC := Lib.hid (And.intro c0 c8)
  have TYX := Lib.hid (fun W (t : Turn NoBlock w W) => h.typ.kept t (fun h => h))
  have hmle : m ≤ (Q 0).length := by omega
  obtain ⟨ln, hln⟩ : ∃ ln, (Q 0).length = ln := ⟨_, rfl⟩
  rw [hln] at hsl hl0 hl1 hl2 CC hmle
  have HLN := Lib.hid hln
  have HMLE := Lib.hid hmle
  clear h hc hr hcell hv hql hm hE hE1 hE2 hln hpos hca c0 c8 hn hone hmle
  obtain ⟨c0, c8⟩ := CC.out
  go_enter Try.func29, Try.ntmps29
  go_wp2_with (go_at_call 75; (with_reducible refine CK.out.mono ?_); rintro y w' ⟨rfl, rfl⟩)
  go_loopg [11, 13] m (fun g' s11 s13 wr => ∃ (j : Nat) (p11 : Option Addr) (c11 : Nat), j ≤ m ∧ g' = m - j ∧ s11 = .slice p11 j c11 ∧ s13 = .int .i64 j ∧ Hid (Out w wr (.slice p11 j c11) (pb ((Q 0).take j)) ∧ (pb ((Q 0).take j)).length = j))
  case atStart => exact ⟨0, none, 0, by omega, by omega, rfl, rfl, Lib.hid ⟨⟨byts_nil _, Turn.refl _ _, fun k hk => (blk_nil k hk).elim⟩, rfl⟩⟩
  case round =>
    obtain ⟨j, p11, c11, hj, hg, rfl, rfl, HS⟩ := hrel
    obtain ⟨c0, c8⟩ := CC.out
    have c0 := HS.out.1.turn.cell c0 (fun h => h)
    by_cases hlt : j < m
    · have hjb : j < ln := by have := HM.out.2.2.2.2.1; have := HLN.out; omega
      have hjn : j < n := by have := HM.out.2.2.2.2.1; omega
      have hji : (j : Int) < (ln : Int) := by omega
      have hjni : (j : Int) < (n : Int) := by omega
      obtain ⟨q, hq⟩ : ∃ q, (Q 0)[j]? = some q := ⟨_, List.getElem?_eq_getElem (by rw [HLN.out]; exact hjb)⟩
      have hqm := List.mem_of_getElem? hq
      have hq1 := HM.out.2.2.2.2.2 q hqm
      have hqb := HM.out.1.rd 0 (by omega) q hqm
      have d0 := pcs_cell HM.out.2.2.2.1 hq
      obtain ⟨g2, o2, cc2, he2, -⟩ := byts_shape hqb (by omega)
      rw [he2] at d0 hqb
      rw [hq1] at d0
      have d0 := HS.out.1.turn.cell d0 (fun h => h)
      obtain ⟨z, hz⟩ : ∃ z, q.2[0]? = some z := ⟨_, List.getElem?_eq_getElem (by omega)⟩
      have z0 := HS.out.1.turn.cell (byts_cell hqb hz) (fun h => h)
      rw [Nat.add_zero] at z0
      have hq2 : q.2 = [z] := by
        match hh : q.2, hq1, hz with
        | [y], _, h => simp at h; rw [h]
      have ROW := Lib.hid (show WRow wr 5 1 (.slice p11 j c11) j (bcells (pb ((Q 0).take j))) by have := HS.out.1.row; unfold Byts at this; rw [HS.out.2] at this; exact this)
      have LB := Lib.hid (show j + 1 ≤ maxLen ∧ (j + 1) * 1 ≤ 140737488355328 by unfold maxLen; omega)
      have HZ := Lib.hid (show pb ((Q 0).take (j + 1)) = pb ((Q 0).take j) ++ [z] by
        rw [List.take_add_one, hq]
        unfold pb
        rw [List.map_append, List.flatten_append]
        simp [hq2])
      clear he2 hz hjb hjn hq hqm hq1 hqb hq2
      go_wp2_with (at_builtin; refine wpList_append_w rfl (.tmp 117) (.tmp 129) 35 35 rfl (WRow.past ROW.out ((Turn.refl NoBlock _).alloc _)) i5 _ 1 bytesT hi5 hz5 hs5 hb5 rfl rfl rfl (Rd.src (rd_new _ 5 1 #[.int .u8 (z.toNat : Int)] rfl) 35 5 bytesT (fun u hu => by simp at hu; subst hu; rfl)) LB.out.1 LB.out.2 ?_; intro v8 W8 r8 t8 k8; obtain ⟨p8, c8', rfl⟩ := r8.sl; have R8 := Lib.hid (And.intro r8 (And.intro t8 k8)); clear r8 t8 k8)
      go_roundg (m - (j + 1))
      case measure => omega
      case rel =>
        refine ⟨j + 1, p8, c8', by omega, by omega, rfl, by go_num, Lib.hid ?_⟩
        rw [HZ.out]
        exact ⟨Out.more (w := wr) HS.out.1 ((Turn.refl NoBlock _).alloc _) (by rw [HS.out.2]; exact R8.out.1) R8.out.2.1 R8.out.2.2, by rw [List.length_append, HS.out.2]; rfl⟩
    · obtain rfl : j = m := by omega
      have two : (ln : Int) = (j : Int) ∨ ((j : Int) < (ln : Int) ∧ (n : Int) = (j : Int)) := by have := HM.out.2.2.2.2.1; have := HLN.out; omega
      have fin : ∀ W, Turn NoBlock wr W → RMadeQ w (W.setCell ⟨x, 0, none⟩ (.slice E (ln - j) (ca - j))) x false room C M D U Q (fun _ => False) (updN Q 0 ((Q 0).drop j)) := fun W t => by
        have := HM.out.1.dropQ (e := 0) (m := j) (by omega) (TT HS.out.1.turn t) HM.out.2.1 (by rw [HLN.out]; exact HMLE.out) HE.out.1 HE.out.2
        rw [HLN.out] at this
        exact this
      have FIN := Lib.hid fin
      have hnx : ∀ k, Blk (.slice p11 j c11) k → ¬ k = x := fun k hk e => by have := HS.out.1.mine k hk; have := HM.out.1.typ.lt; omega
      have HNX := Lib.hid hnx
      have fx := (TYX.out _ HS.out.1.turn).free 0
      have lx2 := (TYX.out _ HS.out.1.turn).lt
      have hjl : (j : Int) ≤ (ln : Int) := by have := HMLE.out; omega
      clear fin hnx
      rcases two with h5e | ⟨h5, h6e⟩
      · have h7 : ¬ (j : Int) < (ln : Int) := by omega
        cases pk
        · clear h5e
          go_wp2
          go_region
          go_wp2
          go_ret2
          exact ⟨_, rfl, (HS.out.1.row.past (Turn.refl NoBlock wr).drew).kept ((Turn.refl (fun k => k = x) _).setCell (p := ⟨x, 0, none⟩) (.inl rfl) _) HNX.out, FIN.out _ (Turn.refl NoBlock wr).drew⟩
        · clear h5e
          go_wp2
          go_ret2
          exact ⟨_, rfl, HS.out.1.row, RMadeQ.refl2 HM.out.1 HS.out.1.turn⟩
      · have h7 : ¬ (j : Int) < (n : Int) := by omega
        cases pk
        · clear h6e
          go_wp2
          go_region
          go_wp2
          go_ret2
          exact ⟨_, rfl, (HS.out.1.row.past (Turn.refl NoBlock wr).drew).kept ((Turn.refl (fun k => k = x) _).setCell (p := ⟨x, 0, none⟩) (.inl rfl) _) HNX.out, FIN.out _ (Turn.refl NoBlock wr).drew⟩
        · clear h6e
          go_wp2
          go_ret2
          exact ⟨_, rfl, HS.out.1.row, RMadeQ.refl2 HM.out.1 HS.out.1.turn⟩
set_option maxRecDepth 20000 in
set_option maxHeartbeats 2000000 in
theorem rread_s1 (h : RAt w x false room C M D U Q) (hc : C 1 = false) (n : Nat) (hn : n ≤ maxLen) (pk : Bool) (hpos : 0 < (Q 1).length) (hone : ∀ q ∈ Q 1, q.2.length = 1) (hql : (Q 1).length ≤ 2000000) (m : Nat) (hm : m = min n (Q 1).length) :
    Calls Try.prog 29 #[.pointer (some ⟨x, 0, none⟩), .int .i64 1, .int .i64 (n : Int), .bool pk] w fun y w' => ∃ v, y = .returned (.tuple #[v, .int .i64 0]) ∧ Byts v (pb ((Q 1).take m)) w' ∧ RMadeQ w w' x false room C M D U Q (fun _ => False) (if pk then Q else updN Q 1 ((Q 1).drop m)) := by
  obtain ⟨i5, hi5, hz5, hs5, hb5⟩ := info_parts infoB
  have CK := Lib.hid (show Calls Try.prog 75 #[.pointer (some ⟨x, 0, none⟩), .int .i64 1] w fun y w' => y = .returned (.int .i64 0) ∧ w = w' from rcheck1 h false hc)
  obtain ⟨g, o, ca, hv, hca⟩ := pcs_shape (h.row 1 (by omega)) hpos
  have hr := h.row 1 (by omega)
  have hcell := hr
  rw [hv] at hcell
  have c0 : w.cell? ⟨x, 1, none⟩ = some (U 1) := h.cw 1 (by omega)
  rw [hv] at c0
  have c8 := h.c8
  have hnn : ¬ (n : Int) < 0 := by omega
  have hl0 : ((((Q 1).length : Nat) : Int) == 0) = false := by rw [beq_eq_false_iff_ne]; omega
  have hl1 : (((Q 1).length : Nat) : Int) ≤ 2000000 := by omega
  have hl2 : (0 : Int) < (((Q 1).length : Nat) : Int) := by omega
  unfold maxLen at hn
  have hni : (n : Int) ≤ 9223372036854775807 := by omega
  have hmi : (m : Int) ≤ 2000000 := by omega
  obtain ⟨E, hE, hE1, hE2⟩ := sl_lo 57 1 elem_bytess size_bytess g o (Q 1).length ca m (by omega) hca
  have hsl := hE
  have HE := Lib.hid (And.intro hE1 hE2)
  have HM := Lib.hid (And.intro h (And.intro hv (And.intro hpos (And.intro hcell (And.intro hm hone)))))
  have f0 := h.f 1
  have lx := h.typ.lt
  have CC := Lib.hid (And.intro c0 c8)
  have TYX := Lib.hid (fun W (t : Turn NoBlock w W) => h.typ.kept t (fun h => h))
  have hmle : m ≤ (Q 1).length := by omega
  obtain ⟨ln, hln⟩ : ∃ ln, (Q 1).length = ln := ⟨_, rfl⟩
  rw [hln] at hsl hl0 hl1 hl2 CC hmle
  have HLN := Lib.hid hln
  have HMLE := Lib.hid hmle
  clear h hc hr hcell hv hql hm hE hE1 hE2 hln hpos hca c0 c8 hn hone hmle
  obtain ⟨c0, c8⟩ := CC.out
  go_enter Try.func29, Try.ntmps29
  go_wp2_with (go_at_call 75; (with_reducible refine CK.out.mono ?_); rintro y w' ⟨rfl, rfl⟩)
  go_loopg [11, 13] m (fun g' s11 s13 wr => ∃ (j : Nat) (p11 : Option Addr) (c11 : Nat), j ≤ m ∧ g' = m - j ∧ s11 = .slice p11 j c11 ∧ s13 = .int .i64 j ∧ Hid (Out w wr (.slice p11 j c11) (pb ((Q 1).take j)) ∧ (pb ((Q 1).take j)).length = j))
  case atStart => exact ⟨0, none, 0, by omega, by omega, rfl, rfl, Lib.hid ⟨⟨byts_nil _, Turn.refl _ _, fun k hk => (blk_nil k hk).elim⟩, rfl⟩⟩
  case round =>
    obtain ⟨j, p11, c11, hj, hg, rfl, rfl, HS⟩ := hrel
    obtain ⟨c0, c8⟩ := CC.out
    have c0 := HS.out.1.turn.cell c0 (fun h => h)
    by_cases hlt : j < m
    · have hjb : j < ln := by have := HM.out.2.2.2.2.1; have := HLN.out; omega
      have hjn : j < n := by have := HM.out.2.2.2.2.1; omega
      have hji : (j : Int) < (ln : Int) := by omega
      have hjni : (j : Int) < (n : Int) := by omega
      obtain ⟨q, hq⟩ : ∃ q, (Q 1)[j]? = some q := ⟨_, List.getElem?_eq_getElem (by rw [HLN.out]; exact hjb)⟩
      have hqm := List.mem_of_getElem? hq
      have hq1 := HM.out.2.2.2.2.2 q hqm
      have hqb := HM.out.1.rd 1 (by omega) q hqm
      have d0 := pcs_cell HM.out.2.2.2.1 hq
      obtain ⟨g2, o2, cc2, he2, -⟩ := byts_shape hqb (by omega)
      rw [he2] at d0 hqb
      rw [hq1] at d0
      have d0 := HS.out.1.turn.cell d0 (fun h => h)
      obtain ⟨z, hz⟩ : ∃ z, q.2[0]? = some z := ⟨_, List.getElem?_eq_getElem (by omega)⟩
      have z0 := HS.out.1.turn.cell (byts_cell hqb hz) (fun h => h)
      rw [Nat.add_zero] at z0
      have hq2 : q.2 = [z] := by
        match hh : q.2, hq1, hz with
        | [y], _, h => simp at h; rw [h]
      have ROW := Lib.hid (show WRow wr 5 1 (.slice p11 j c11) j (bcells (pb ((Q 1).take j))) by have := HS.out.1.row; unfold Byts at this; rw [HS.out.2] at this; exact this)
      have LB := Lib.hid (show j + 1 ≤ maxLen ∧ (j + 1) * 1 ≤ 140737488355328 by unfold maxLen; omega)
      have HZ := Lib.hid (show pb ((Q 1).take (j + 1)) = pb ((Q 1).take j) ++ [z] by
        rw [List.take_add_one, hq]
        unfold pb
        rw [List.map_append, List.flatten_append]
        simp [hq2])
      clear he2 hz hjb hjn hq hqm hq1 hqb hq2
      go_wp2_with (at_builtin; refine wpList_append_w rfl (.tmp 117) (.tmp 129) 35 35 rfl (WRow.past ROW.out ((Turn.refl NoBlock _).alloc _)) i5 _ 1 bytesT hi5 hz5 hs5 hb5 rfl rfl rfl (Rd.src (rd_new _ 5 1 #[.int .u8 (z.toNat : Int)] rfl) 35 5 bytesT (fun u hu => by simp at hu; subst hu; rfl)) LB.out.1 LB.out.2 ?_; intro v8 W8 r8 t8 k8; obtain ⟨p8, c8', rfl⟩ := r8.sl; have R8 := Lib.hid (And.intro r8 (And.intro t8 k8)); clear r8 t8 k8)
      go_roundg (m - (j + 1))
      case measure => omega
      case rel =>
        refine ⟨j + 1, p8, c8', by omega, by omega, rfl, by go_num, Lib.hid ?_⟩
        rw [HZ.out]
        exact ⟨Out.more (w := wr) HS.out.1 ((Turn.refl NoBlock _).alloc _) (by rw [HS.out.2]; exact R8.out.1) R8.out.2.1 R8.out.2.2, by rw [List.length_append, HS.out.2]; rfl⟩
    · obtain rfl : j = m := by omega
      have two : (ln : Int) = (j : Int) ∨ ((j : Int) < (ln : Int) ∧ (n : Int) = (j : Int)) := by have := HM.out.2.2.2.2.1; have := HLN.out; omega
      have fin : ∀ W, Turn NoBlock wr W → RMadeQ w (W.setCell ⟨x, 1, none⟩ (.slice E (ln - j) (ca - j))) x false room C M D U Q (fun _ => False) (updN Q 1 ((Q 1).drop j)) := fun W t => by
        have := HM.out.1.dropQ (e := 1) (m := j) (by omega) (TT HS.out.1.turn t) HM.out.2.1 (by rw [HLN.out]; exact HMLE.out) HE.out.1 HE.out.2
        rw [HLN.out] at this
        exact this
      have FIN := Lib.hid fin
      have hnx : ∀ k, Blk (.slice p11 j c11) k → ¬ k = x := fun k hk e => by have := HS.out.1.mine k hk; have := HM.out.1.typ.lt; omega
      have HNX := Lib.hid hnx
      have fx := (TYX.out _ HS.out.1.turn).free 1
      have lx2 := (TYX.out _ HS.out.1.turn).lt
      have hjl : (j : Int) ≤ (ln : Int) := by have := HMLE.out; omega
      clear fin hnx
      rcases two with h5e | ⟨h5, h6e⟩
      · have h7 : ¬ (j : Int) < (ln : Int) := by omega
        cases pk
        · clear h5e
          go_wp2
          go_region
          go_wp2
          go_ret2
          exact ⟨_, rfl, (HS.out.1.row.past (Turn.refl NoBlock wr).drew).kept ((Turn.refl (fun k => k = x) _).setCell (p := ⟨x, 1, none⟩) (.inl rfl) _) HNX.out, FIN.out _ (Turn.refl NoBlock wr).drew⟩
        · clear h5e
          go_wp2
          go_ret2
          exact ⟨_, rfl, HS.out.1.row, RMadeQ.refl2 HM.out.1 HS.out.1.turn⟩
      · have h7 : ¬ (j : Int) < (n : Int) := by omega
        cases pk
        · clear h6e
          go_wp2
          go_region
          go_wp2
          go_ret2
          exact ⟨_, rfl, (HS.out.1.row.past (Turn.refl NoBlock wr).drew).kept ((Turn.refl (fun k => k = x) _).setCell (p := ⟨x, 1, none⟩) (.inl rfl) _) HNX.out, FIN.out _ (Turn.refl NoBlock wr).drew⟩
        · clear h6e
          go_wp2
          go_ret2
          exact ⟨_, rfl, HS.out.1.row, RMadeQ.refl2 HM.out.1 HS.out.1.turn⟩
end
end Go.Proofs.Ytocaebcbmfejbaa
