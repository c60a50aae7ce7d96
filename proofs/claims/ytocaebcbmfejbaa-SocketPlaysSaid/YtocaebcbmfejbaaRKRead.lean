/-
  What the reference's Read answers, and what it makes of its socket. No conditions but that the reference's socket is one that calls can make.
-/
import Derived.Test.YtocaebcbmfejbaaRKPut
import Derived.OwnWalk
namespace Go.Proofs.Ytocaebcbmfejbaa
open Go.ChangeShapes Go.WideShapes Go.ChangeAt Go.RowKit

theorem rread_bad (x : Nat) (e n : Int) (pk : Bool) (w : World) (h0 : e ≠ 0) (h1 : e ≠ 1) :
    Calls Try.prog 29 #[.pointer (some ⟨x, 0, none⟩), .int .i64 e, .int .i64 n, .bool pk] w fun y w' => y = .returned (.tuple #[.slice none 0 0, .int .i64 (-10)]) ∧ w = w' := by
  have CK := Lib.hid (rcheck_bad x e w h0 h1)
  clear h0 h1
  go_enter Try.func29, Try.ntmps29
  go_wp2_with (go_at_call 75; (with_reducible refine CK.out.mono ?_); rintro y w' ⟨rfl, rfl⟩)
  go_ret2
  exact ⟨rfl, rfl⟩
theorem RMadeQ.refl2 {w W : World} {x room : Nat} {dg : Bool} {C M D : Nat → Bool} {U : Nat → Value} {Q : Nat → Pcs} {Y : Nat → Prop} (h : RAt w x dg room C M D U Q) (t : Turn NoBlock w W) : RMadeQ w W x dg room C M D U Q Y Q := ⟨U, h.past t, TU t, fun _ hk => .inl hk⟩
/-- A row's tail. -/
theorem RAt.dropQ {w w1 : World} {x room e : Nat} {dg : Bool} {C M D : Nat → Bool} {U : Nat → Value} {Q : Nat → Pcs} (h : RAt w x dg room C M D U Q) (he : e < 2) (t : Turn NoBlock w w1) {g o c m : Nat} (hu : U e = .slice (some ⟨g, o, none⟩) (Q e).length c) (hm : m ≤ (Q e).length) {E : Option Addr} (hE1 : m < c → E = some ⟨g, o + m * 1, none⟩) (hE2 : c = m → E = some ⟨g, o, none⟩) : RMadeQ w (w1.setCell ⟨x, e, none⟩ (.slice E ((Q e).length - m) (c - m))) x dg room C M D U Q (fun _ => False) (updN Q e ((Q e).drop m)) := by
  have hr := (h.row e he).past t
  rw [hu] at hr
  obtain ⟨hr2, hk⟩ := wrow_drop hr hm hE1 hE2
  have hs := h.setQ (l := (Q e).drop m) he t (by rw [List.length_drop, show pv ((Q e).drop m) = (pv (Q e)).drop (m * 1) by simp [pv, List.map_drop]]; exact hr2) (fun q hq => (h.rd e he q (List.mem_of_mem_drop hq)).past t)
  refine ⟨_, hs, (TU (F := fun k => k = x) t).setCell (p := ⟨x, e, none⟩) (.inl rfl) _, fun k hk2 => ?_⟩
  rcases hk2 with h1 | ⟨i, hi, h1⟩ | ⟨i, hi, q, hq, h1⟩
  · exact .inl (.inl h1)
  · by_cases hie : i = e
    · subst hie
      rw [updN_same] at h1
      exact .inl (.inr (.inl ⟨i, hi, by rw [hu, hk k h1]; simp [Blk, Value.ownBlock]⟩))
    · rw [updN_other _ _ hie] at h1
      exact .inl (.inr (.inl ⟨i, hi, h1⟩))
  · by_cases hie : i = e
    · subst hie
      rw [updN_same] at hq
      exact .inl (.inr (.inr ⟨i, hi, q, List.mem_of_mem_drop hq, h1⟩))
    · rw [updN_other _ _ hie] at hq
      exact .inl (.inr (.inr ⟨i, hi, q, hq, h1⟩))
theorem byts_cell {w : World} {g o c : Nat} {b : List UInt8} (h : Byts (.slice (some ⟨g, o, none⟩) b.length c) b w) {j : Nat} {z : UInt8} (hz : b[j]? = some z) : w.cell? ⟨g, o + j, none⟩ = some (.int .u8 (z.toNat : Int)) := by
  have hj := (List.getElem?_eq_some_iff.1 hz).1
  obtain ⟨g', o', c', he, -, -, -, hc, -⟩ := WRow.shape h (by omega)
  simp only [Value.slice.injEq, Option.some.injEq, Addr.mk.injEq, and_true, true_and] at he
  obtain ⟨⟨rfl, rfl⟩, rfl⟩ := he
  rw [hc j (by omega)]
  unfold bcells
  rw [List.getElem?_map, hz]
  rfl
/-- The bytes that are told, one by one: in memory of the call's own. -/
structure Out (w0 w : World) (v : Value) (bs : List UInt8) : Prop where
  row : Byts v bs w
  turn : Turn NoBlock w0 w
  mine : ∀ k, Blk v k → w0.heap.size ≤ k
theorem Out.more {w0 w X W : World} {v v' : Value} {bs : List UInt8} {z : UInt8} (h : Out w0 w v bs) (t : Turn NoBlock w X) (hr : WRow W 5 1 v' (bs.length + 1) (bcells bs ++ [.int .u8 (z.toNat : Int)])) (t8 : Turn (Blk v) X W) (k8 : ∀ k, Blk v' k → Blk v k ∨ (k = X.heap.size ∧ k < W.heap.size)) : Out w0 W v' (bs ++ [z]) := by
  obtain ⟨h1, h2⟩ := arm_more (TT h.turn t) h.mine t8 k8
  refine ⟨?_, h1, h2⟩
  unfold Byts
  rw [List.length_append, show bcells (bs ++ [z]) = bcells bs ++ [.int .u8 (z.toNat : Int)] by simp [bcells]]
  exact hr
section
variable {w : World} {x room : Nat} {dg : Bool} {C M D : Nat → Bool} {U : Nat → Value} {Q : Nat → Pcs}
theorem rread_closed0 (h : RAt w x dg room C M D U Q) (hc : C 0 = true) (n : Int) (pk : Bool) :
    Calls Try.prog 29 #[.pointer (some ⟨x, 0, none⟩), .int .i64 0, .int .i64 n, .bool pk] w fun y w' => y = .returned (.tuple #[.slice none 0 0, .int .i64 (-24)]) ∧ w = w' := by
  have CK := Lib.hid (show Calls Try.prog 75 #[.pointer (some ⟨x, 0, none⟩), .int .i64 0] w fun y w' => y = .returned (.int .i64 (-24)) ∧ w = w' from rcheck0 h true hc)
  clear h hc
  go_enter Try.func29, Try.ntmps29
  go_wp2_with (go_at_call 75; (with_reducible refine CK.out.mono ?_); rintro y w' ⟨rfl, rfl⟩)
  go_ret2
  exact ⟨rfl, rfl⟩
theorem rread_neg0 (h : RAt w x dg room C M D U Q) (hc : C 0 = false) (n : Int) (hn : n < 0) (pk : Bool) :
    Calls Try.prog 29 #[.pointer (some ⟨x, 0, none⟩), .int .i64 0, .int .i64 n, .bool pk] w fun y w' => y = .returned (.tuple #[.slice none 0 0, .int .i64 (-10)]) ∧ w = w' := by
  have CK := Lib.hid (show Calls Try.prog 75 #[.pointer (some ⟨x, 0, none⟩), .int .i64 0] w fun y w' => y = .returned (.int .i64 0) ∧ w = w' from rcheck0 h false hc)
  clear h hc
  go_enter Try.func29, Try.ntmps29
  go_wp2_with (go_at_call 75; (with_reducible refine CK.out.mono ?_); rintro y w' ⟨rfl, rfl⟩)
  go_ret2
  exact ⟨rfl, rfl⟩
theorem rread_none0 (h : RAt w x dg room C M D U Q) (hc : C 0 = false) (n : Int) (hn : 0 ≤ n) (pk : Bool) (hq : Q 0 = []) (s : Int) (hs : (C 1 = true ∧ s = -24) ∨ (C 1 = false ∧ D 0 = true ∧ s = -20) ∨ (C 1 = false ∧ D 0 = false ∧ M 1 = true ∧ s = -20) ∨ (C 1 = false ∧ D 0 = false ∧ M 1 = false ∧ s = -22)) :
    Calls Try.prog 29 #[.pointer (some ⟨x, 0, none⟩), .int .i64 0, .int .i64 n, .bool pk] w fun y w' => y = .returned (.tuple #[.slice none 0 0, .int .i64 s]) ∧ w = w' := by
  have CK := Lib.hid (show Calls Try.prog 75 #[.pointer (some ⟨x, 0, none⟩), .int .i64 0] w fun y w' => y = .returned (.int .i64 0) ∧ w = w' from rcheck0 h false hc)
  have c0 : w.cell? ⟨x, 0, none⟩ = some (U 0) := h.cw 0 (by omega)
  obtain ⟨p, pc, hv⟩ := (h.row 0 (by omega)).sl
  rw [hv, hq] at c0
  simp only [List.length_nil] at c0
  have c1 : w.cell? ⟨x, 2 + 1, none⟩ = some (.bool (C 1)) := h.cc 1 (by omega)
  have c2 : w.cell? ⟨x, 4 + 1, none⟩ = some (.bool (M 1)) := h.cm 1 (by omega)
  have c3 : w.cell? ⟨x, 6 + 0, none⟩ = some (.bool (D 0)) := h.cd 0 (by omega)
  simp only [Nat.reduceAdd] at c1 c2 c3
  have hn' : ¬ n < 0 := by omega
  generalize C 1 = a at *
  generalize M 1 = b at *
  generalize D 0 = d at *
  clear h hc hv hq hn
  rcases hs with ⟨rfl, rfl⟩ | ⟨rfl, rfl, rfl⟩ | ⟨rfl, rfl, rfl, rfl⟩ | ⟨rfl, rfl, rfl, rfl⟩
  all_goals
    go_enter Try.func29, Try.ntmps29
    go_wp2_with (go_at_call 75; (with_reducible refine CK.out.mono ?_); rintro y w' ⟨rfl, rfl⟩)
    go_ret2
    exact ⟨rfl, rfl⟩
set_option maxRecDepth 20000 in
set_option maxHeartbeats 2000000 in
theorem rread_d0 (h : RAt w x true room C M D U Q) (hc : C 0 = false) (n : Nat) (hn : n ≤ maxLen) (pk : Bool) (q : Value × List UInt8) (r : Pcs) (hq : Q 0 = q :: r) (hql : (Q 0).length ≤ 2000000) (hbl : q.2.length ≤ 2000000) (m : Nat) (hm : m = min n q.2.length) :
    Calls Try.prog 29 #[.pointer (some ⟨x, 0, none⟩), .int .i64 0, .int .i64 (n : Int), .bool pk] w fun y w' => ∃ v, y = .returned (.tuple #[v, .int .i64 0]) ∧ Byts v (q.2.take m) w' ∧ RMadeQ w w' x true room C M D U Q (fun _ => False) (if pk then Q else updN Q 0 r) := by
  obtain ⟨i5, hi5, hz5, hs5, hb5⟩ := info_parts infoB
  have CK := Lib.hid (show Calls Try.prog 75 #[.pointer (some ⟨x, 0, none⟩), .int .i64 0] w fun y w' => y = .returned (.int .i64 0) ∧ w = w' from rcheck0 h false hc)
  have hpos : 0 < (Q 0).length := by rw [hq]; simp
  obtain ⟨g, o, ca, hv, hca⟩ := pcs_shape (h.row 0 (by omega)) hpos
  have hr := h.row 0 (by omega)
  have hcell := hr
  rw [hv] at hcell
  have d0 := pcs_cell hcell (j := 0) (q := q) (by rw [hq]; rfl)
  rw [Nat.add_zero] at d0
  have hqb := h.rd 0 (by omega) q (by rw [hq]; simp)
  obtain ⟨p2, c2, hv2⟩ := WRow.sl hqb
  rw [hv2] at d0 hqb
  have c0 : w.cell? ⟨x, 0, none⟩ = some (U 0) := h.cw 0 (by omega)
  rw [hv] at c0
  have c8 := h.c8
  have hnn : ¬ (n : Int) < 0 := by omega
  have hl0 : ((((Q 0).length : Nat) : Int) == 0) = false := by rw [beq_eq_false_iff_ne]; omega
  have hl1 : (((Q 0).length : Nat) : Int) ≤ 2000000 := by omega
  have hl2 : (0 : Int) < (((Q 0).length : Nat) : Int) := by omega
  have hbi : ((q.2.length : Nat) : Int) ≤ 2000000 := by omega
  unfold maxLen at hn
  have hni : (n : Int) ≤ 9223372036854775807 := by omega
  have hmi : (m : Int) ≤ 2000000 := by omega
  obtain ⟨E, hE, hE1, hE2⟩ := sl_lo 57 1 elem_bytess size_bytess g o (Q 0).length ca 1 (by omega) hca
  have hsl : ∀ w, Sem.run Try.prog (Instr.slice 57 (.slice (some ⟨g, o, none⟩) (Q 0).length ca) (some (.int .i64 1)) none none) w = .ok (.slice E ((Q 0).length - 1) (ca - 1)) w := hE
  have HE := Lib.hid (And.intro hE1 hE2)
  have HM := Lib.hid (And.intro h (And.intro hv (And.intro hpos (And.intro hqb (And.intro hm hq)))))
  have f0 := h.f 0
  have lx := h.typ.lt
  have CC := Lib.hid (And.intro c0 (And.intro c8 d0))
  have TYX := Lib.hid (fun W (t : Turn NoBlock w W) => h.typ.kept t (fun h => h))
  have HQL := Lib.hid (show updN Q 0 ((Q 0).drop 1) = updN Q 0 r by rw [hq]; rfl)
  generalize hln : (Q 0).length = ln at *
  have HLN := Lib.hid hln
  clear h hc hr hcell hv hqb hv2 hq hql hbl hm hE hE1 hE2 hln hpos hca c0 c8 d0 hn
  obtain ⟨c0, c8, d0⟩ := CC.out
  go_enter Try.func29, Try.ntmps29
  go_wp2_with (go_at_call 75; (with_reducible refine CK.out.mono ?_); rintro y w' ⟨rfl, rfl⟩)
  go_loopg [11, 12] m (fun g' s11 s12 wr => ∃ (j : Nat) (p11 : Option Addr) (c11 : Nat), j ≤ m ∧ g' = m - j ∧ s11 = .slice p11 j c11 ∧ s12 = .int .i64 j ∧ Hid (Out w wr (.slice p11 j c11) (q.2.take j)))
  case atStart => exact ⟨0, none, 0, by omega, by omega, rfl, rfl, Lib.hid ⟨byts_nil _, Turn.refl _ _, fun k hk => (blk_nil k hk).elim⟩⟩
  case round =>
    obtain ⟨j, p11, c11, hj, hg, rfl, rfl, HS⟩ := hrel
    obtain ⟨c0, c8, d0⟩ := CC.out
    have c0 := HS.out.turn.cell c0 (fun h => h)
    have d0 := HS.out.turn.cell d0 (fun h => h)
    by_cases hlt : j < m
    · have hjb : j < q.2.length := by have := HM.out.2.2.2.2.1; omega
      have hjn : j < n := by have := HM.out.2.2.2.2.1; omega
      have hji : (j : Int) < ((q.2.length : Nat) : Int) := by omega
      have hjni : (j : Int) < (n : Int) := by omega
      obtain ⟨z, hz⟩ : ∃ z, q.2[j]? = some z := ⟨_, List.getElem?_eq_getElem hjb⟩
      have hsh := byts_shape HM.out.2.2.2.1 (by omega)
      obtain ⟨g2, o2, cc2, he2, -⟩ := hsh
      obtain rfl : p2 = some ⟨g2, o2, none⟩ := by simp only [Value.slice.injEq] at he2; exact he2.1
      have z0 := HS.out.turn.cell (byts_cell HM.out.2.2.2.1 hz) (fun h => h)
      have hlt2 : (q.2.take j).length = j := by rw [List.length_take]; omega
      have ROW := Lib.hid (show WRow wr 5 1 (.slice p11 j c11) j (bcells (q.2.take j)) by have := HS.out.row; unfold Byts at this; rw [hlt2] at this; exact this)
      have LB := Lib.hid (show j + 1 ≤ maxLen ∧ (j + 1) * 1 ≤ 140737488355328 by unfold maxLen; omega)
      have HZ := Lib.hid (And.intro hlt2 (show q.2.take (j + 1) = q.2.take j ++ [z] by rw [List.take_add_one, hz]; rfl))
      clear he2 hz hjb hjn hlt2
      go_wp2_with (at_builtin; refine wpList_append_w rfl (.tmp 74) (.tmp 86) 35 35 rfl (WRow.past ROW.out ((Turn.refl NoBlock _).alloc _)) i5 _ 1 bytesT hi5 hz5 hs5 hb5 rfl rfl rfl (Rd.src (rd_new _ 5 1 #[.int .u8 (z.toNat : Int)] rfl) 35 5 bytesT (fun u hu => by simp at hu; subst hu; rfl)) LB.out.1 LB.out.2 ?_; intro v8 W8 r8 t8 k8; obtain ⟨p8, c8', rfl⟩ := r8.sl; have R8 := Lib.hid (And.intro r8 (And.intro t8 k8)); clear r8 t8 k8)
      go_roundg (m - (j + 1))
      case measure => omega
      case rel =>
        refine ⟨j + 1, p8, c8', by omega, by omega, rfl, by go_num, Lib.hid ?_⟩
        rw [HZ.out.2]
        exact Out.more (w := wr) HS.out ((Turn.refl NoBlock _).alloc _) (by rw [HZ.out.1]; exact R8.out.1) R8.out.2.1 R8.out.2.2
    · obtain rfl : j = m := by omega
      have two : ((q.2.length : Nat) : Int) = (j : Int) ∨ ((j : Int) < ((q.2.length : Nat) : Int) ∧ (n : Int) = (j : Int)) := by have := HM.out.2.2.2.2.1; omega
      have fin : ∀ W, Turn NoBlock wr W → Byts (.slice p11 j c11) (q.2.take j) W ∧ RMadeQ w (W.setCell ⟨x, 0, none⟩ (.slice E (ln - 1) (ca - 1))) x true room C M D U Q (fun _ => False) (updN Q 0 r) := fun W t => by
        refine ⟨HS.out.row.past t, ?_⟩
        have := HM.out.1.dropQ (e := 0) (m := 1) (by omega) (TT HS.out.turn t) (by rw [HLN.out]; exact HM.out.2.1) (by rw [HLN.out]; exact HM.out.2.2.1) HE.out.1 HE.out.2
        rw [HLN.out, HQL.out] at this
        exact this
      have FIN := Lib.hid fin
      have hnx : ∀ k, Blk (.slice p11 j c11) k → ¬ k = x := fun k hk e => by have := HS.out.mine k hk; have := HM.out.1.typ.lt; omega
      have HNX := Lib.hid hnx
      have fx := (TYX.out _ HS.out.turn).free 0
      have lx2 := (TYX.out _ HS.out.turn).lt
      clear fin hnx
      cases pk
      all_goals
        rcases two with h5e | ⟨h5, h6e⟩
        all_goals
          first
            | (have h7 : ¬ (j : Int) < ((q.2.length : Nat) : Int) := by omega)
            | (have h7 : ¬ (j : Int) < (n : Int) := by omega)
          first | clear h5e | clear h6e
          go_wp2
          try (go_region; go_wp2)
          go_ret2
          first
            | exact ⟨_, rfl, HS.out.row, RMadeQ.refl2 HM.out.1 HS.out.turn⟩
            | exact ⟨_, rfl, (FIN.out _ (Turn.refl NoBlock wr).drew).1.kept ((Turn.refl (fun k => k = x) _).setCell (p := ⟨x, 0, none⟩) (.inl rfl) _) HNX.out, (FIN.out _ (Turn.refl NoBlock wr).drew).2⟩
theorem rread_closed1 (h : RAt w x dg room C M D U Q) (hc : C 1 = true) (n : Int) (pk : Bool) :
    Calls Try.prog 29 #[.pointer (some ⟨x, 0, none⟩), .int .i64 1, .int .i64 n, .bool pk] w fun y w' => y = .returned (.tuple #[.slice none 0 0, .int .i64 (-24)]) ∧ w = w' := by
  have CK := Lib.hid (show Calls Try.prog 75 #[.pointer (some ⟨x, 0, none⟩), .int .i64 1] w fun y w' => y = .returned (.int .i64 (-24)) ∧ w = w' from rcheck1 h true hc)
  clear h hc
  go_enter Try.func29, Try.ntmps29
  go_wp2_with (go_at_call 75; (with_reducible refine CK.out.mono ?_); rintro y w' ⟨rfl, rfl⟩)
  go_ret2
  exact ⟨rfl, rfl⟩
theorem rread_neg1 (h : RAt w x dg room C M D U Q) (hc : C 1 = false) (n : Int) (hn : n < 0) (pk : Bool) :
    Calls Try.prog 29 #[.pointer (some ⟨x, 0, none⟩), .int .i64 1, .int .i64 n, .bool pk] w fun y w' => y = .returned (.tuple #[.slice none 0 0, .int .i64 (-10)]) ∧ w = w' := by
  have CK := Lib.hid (show Calls Try.prog 75 #[.pointer (some ⟨x, 0, none⟩), .int .i64 1] w fun y w' => y = .returned (.int .i64 0) ∧ w = w' from rcheck1 h false hc)
  clear h hc
  go_enter Try.func29, Try.ntmps29
  go_wp2_with (go_at_call 75; (with_reducible refine CK.out.mono ?_); rintro y w' ⟨rfl, rfl⟩)
  go_ret2
  exact ⟨rfl, rfl⟩
theorem rread_none1 (h : RAt w x dg room C M D U Q) (hc : C 1 = false) (n : Int) (hn : 0 ≤ n) (pk : Bool) (hq : Q 1 = []) (s : Int) (hs : (C 0 = true ∧ s = -24) ∨ (C 0 = false ∧ D 1 = true ∧ s = -20) ∨ (C 0 = false ∧ D 1 = false ∧ M 0 = true ∧ s = -20) ∨ (C 0 = false ∧ D 1 = false ∧ M 0 = false ∧ s = -22)) :
    Calls Try.prog 29 #[.pointer (some ⟨x, 0, none⟩), .int .i64 1, .int .i64 n, .bool pk] w fun y w' => y = .returned (.tuple #[.slice none 0 0, .int .i64 s]) ∧ w = w' := by
  have CK := Lib.hid (show Calls Try.prog 75 #[.pointer (some ⟨x, 0, none⟩), .int .i64 1] w fun y w' => y = .returned (.int .i64 0) ∧ w = w' from rcheck1 h false hc)
  have c0 : w.cell? ⟨x, 1, none⟩ = some (U 1) := h.cw 1 (by omega)
  obtain ⟨p, pc, hv⟩ := (h.row 1 (by omega)).sl
  rw [hv, hq] at c0
  simp only [List.length_nil] at c0
  have c1 : w.cell? ⟨x, 2 + 0, none⟩ = some (.bool (C 0)) := h.cc 0 (by omega)
  have c2 : w.cell? ⟨x, 4 + 0, none⟩ = some (.bool (M 0)) := h.cm 0 (by omega)
  have c3 : w.cell? ⟨x, 6 + 1, none⟩ = some (.bool (D 1)) := h.cd 1 (by omega)
  simp only [Nat.reduceAdd] at c1 c2 c3
  have hn' : ¬ n < 0 := by omega
  generalize C 0 = a at *
  generalize M 0 = b at *
  generalize D 1 = d at *
  clear h hc hv hq hn
  rcases hs with ⟨rfl, rfl⟩ | ⟨rfl, rfl, rfl⟩ | ⟨rfl, rfl, rfl, rfl⟩ | ⟨rfl, rfl, rfl, rfl⟩
  all_goals
    go_enter Try.func29, Try.ntmps29
    go_wp2_with (go_at_call 75; (with_reducible refine CK.out.mono ?_); rintro y w' ⟨rfl, rfl⟩)
    go_ret2
    exact ⟨rfl, rfl⟩
set_option maxRecDepth 20000 in
set_option maxHeartbeats 2000000 in
theorem rread_d1 (h : RAt w x true room C M D U Q) (hc : C 1 = false) (n : Nat) (hn : n ≤ maxLen) (pk : Bool) (q : Value × List UInt8) (r : Pcs) (hq : Q 1 = q :: r) (hql : (Q 1).length ≤ 2000000) (hbl : q.2.length ≤ 2000000) (m : Nat) (hm : m = min n q.2.length) :
    Calls Try.prog 29 #[.pointer (some ⟨x, 0, none⟩), .int .i64 1, .int .i64 (n : Int), .bool pk] w fun y w' => ∃ v, y = .returned (.tuple #[v, .int .i64 0]) ∧ Byts v (q.2.take m) w' ∧ RMadeQ w w' x true room C M D U Q (fun _ => False) (if pk then Q else updN Q 1 r) := by
  obtain ⟨i5, hi5, hz5, hs5, hb5⟩ := info_parts infoB
  have CK := Lib.hid (show Calls Try.prog 75 #[.pointer (some ⟨x, 0, none⟩), .int .i64 1] w fun y w' => y = .returned (.int .i64 0) ∧ w = w' from rcheck1 h false hc)
  have hpos : 0 < (Q 1).length := by rw [hq]; simp
  obtain ⟨g, o, ca, hv, hca⟩ := pcs_shape (h.row 1 (by omega)) hpos
  have hr := h.row 1 (by omega)
  have hcell := hr
  rw [hv] at hcell
  have d0 := pcs_cell hcell (j := 0) (q := q) (by rw [hq]; rfl)
  rw [Nat.add_zero] at d0
  have hqb := h.rd 1 (by omega) q (by rw [hq]; simp)
  obtain ⟨p2, c2, hv2⟩ := WRow.sl hqb
  rw [hv2] at d0 hqb
  have c0 : w.cell? ⟨x, 1, none⟩ = some (U 1) := h.cw 1 (by omega)
  rw [hv] at c0
  have c8 := h.c8
  have hnn : ¬ (n : Int) < 0 := by omega
  have hl0 : ((((Q 1).length : Nat) : Int) == 0) = false := by rw [beq_eq_false_iff_ne]; omega
  have hl1 : (((Q 1).length : Nat) : Int) ≤ 2000000 := by omega
  have hl2 : (0 : Int) < (((Q 1).length : Nat) : Int) := by omega
  have hbi : ((q.2.length : Nat) : Int) ≤ 2000000 := by omega
  unfold maxLen at hn
  have hni : (n : Int) ≤ 9223372036854775807 := by omega
  have hmi : (m : Int) ≤ 2000000 := by omega
  obtain ⟨E, hE, hE1, hE2⟩ := sl_lo 57 1 elem_bytess size_bytess g o (Q 1).length ca 1 (by omega) hca
  have hsl : ∀ w, Sem.run Try.prog (Instr.slice 57 (.slice (some ⟨g, o, none⟩) (Q 1).length ca) (some (.int .i64 1)) none none) w = .ok (.slice E ((Q 1).length - 1) (ca - 1)) w := hE
  have HE := Lib.hid (And.intro hE1 hE2)
  have HM := Lib.hid (And.intro h (And.intro hv (And.intro hpos (And.intro hqb (And.intro hm hq)))))
  have f0 := h.f 1
  have lx := h.typ.lt
  have CC := Lib.hid (And.intro c0 (And.intro c8 d0))
  have TYX := Lib.hid (fun W (t : Turn NoBlock w W) => h.typ.kept t (fun h => h))
  have HQL := Lib.hid (show updN Q 1 ((Q 1).drop 1) = updN Q 1 r by rw [hq]; rfl)
  generalize hln : (Q 1).length = ln at *
  have HLN := Lib.hid hln
  clear h hc hr hcell hv hqb hv2 hq hql hbl hm hE hE1 hE2 hln hpos hca c0 c8 d0 hn
  obtain ⟨c0, c8, d0⟩ := CC.out
  go_enter Try.func29, Try.ntmps29
  go_wp2_with (go_at_call 75; (with_reducible refine CK.out.mono ?_); rintro y w' ⟨rfl, rfl⟩)
  go_loopg [11, 12] m (fun g' s11 s12 wr => ∃ (j : Nat) (p11 : Option Addr) (c11 : Nat), j ≤ m ∧ g' = m - j ∧ s11 = .slice p11 j c11 ∧ s12 = .int .i64 j ∧ Hid (Out w wr (.slice p11 j c11) (q.2.take j)))
  case atStart => exact ⟨0, none, 0, by omega, by omega, rfl, rfl, Lib.hid ⟨byts_nil _, Turn.refl _ _, fun k hk => (blk_nil k hk).elim⟩⟩
  case round =>
    obtain ⟨j, p11, c11, hj, hg, rfl, rfl, HS⟩ := hrel
    obtain ⟨c0, c8, d0⟩ := CC.out
    have c0 := HS.out.turn.cell c0 (fun h => h)
    have d0 := HS.out.turn.cell d0 (fun h => h)
    by_cases hlt : j < m
    · have hjb : j < q.2.length := by have := HM.out.2.2.2.2.1; omega
      have hjn : j < n := by have := HM.out.2.2.2.2.1; omega
      have hji : (j : Int) < ((q.2.length : Nat) : Int) := by omega
      have hjni : (j : Int) < (n : Int) := by omega
      obtain ⟨z, hz⟩ : ∃ z, q.2[j]? = some z := ⟨_, List.getElem?_eq_getElem hjb⟩
      have hsh := byts_shape HM.out.2.2.2.1 (by omega)
      obtain ⟨g2, o2, cc2, he2, -⟩ := hsh
      obtain rfl : p2 = some ⟨g2, o2, none⟩ := by simp only [Value.slice.injEq] at he2; exact he2.1
      have z0 := HS.out.turn.cell (byts_cell HM.out.2.2.2.1 hz) (fun h => h)
      have hlt2 : (q.2.take j).length = j := by rw [List.length_take]; omega
      have ROW := Lib.hid (show WRow wr 5 1 (.slice p11 j c11) j (bcells (q.2.take j)) by have := HS.out.row; unfold Byts at this; rw [hlt2] at this; exact this)
      have LB := Lib.hid (show j + 1 ≤ maxLen ∧ (j + 1) * 1 ≤ 140737488355328 by unfold maxLen; omega)
      have HZ := Lib.hid (And.intro hlt2 (show q.2.take (j + 1) = q.2.take j ++ [z] by rw [List.take_add_one, hz]; rfl))
      clear he2 hz hjb hjn hlt2
      go_wp2_with (at_builtin; refine wpList_append_w rfl (.tmp 74) (.tmp 86) 35 35 rfl (WRow.past ROW.out ((Turn.refl NoBlock _).alloc _)) i5 _ 1 bytesT hi5 hz5 hs5 hb5 rfl rfl rfl (Rd.src (rd_new _ 5 1 #[.int .u8 (z.toNat : Int)] rfl) 35 5 bytesT (fun u hu => by simp at hu; subst hu; rfl)) LB.out.1 LB.out.2 ?_; intro v8 W8 r8 t8 k8; obtain ⟨p8, c8', rfl⟩ := r8.sl; have R8 := Lib.hid (And.intro r8 (And.intro t8 k8)); clear r8 t8 k8)
      go_roundg (m - (j + 1))
      case measure => omega
      case rel =>
        refine ⟨j + 1, p8, c8', by omega, by omega, rfl, by go_num, Lib.hid ?_⟩
        rw [HZ.out.2]
        exact Out.more (w := wr) HS.out ((Turn.refl NoBlock _).alloc _) (by rw [HZ.out.1]; exact R8.out.1) R8.out.2.1 R8.out.2.2
    · obtain rfl : j = m := by omega
      have two : ((q.2.length : Nat) : Int) = (j : Int) ∨ ((j : Int) < ((q.2.length : Nat) : Int) ∧ (n : Int) = (j : Int)) := by have := HM.out.2.2.2.2.1; omega
      have fin : ∀ W, Turn NoBlock wr W → Byts (.slice p11 j c11) (q.2.take j) W ∧ RMadeQ w (W.setCell ⟨x, 1, none⟩ (.slice E (ln - 1) (ca - 1))) x true room C M D U Q (fun _ => False) (updN Q 1 r) := fun W t => by
        refine ⟨HS.out.row.past t, ?_⟩
        have := HM.out.1.dropQ (e := 1) (m := 1) (by omega) (TT HS.out.turn t) (by rw [HLN.out]; exact HM.out.2.1) (by rw [HLN.out]; exact HM.out.2.2.1) HE.out.1 HE.out.2
        rw [HLN.out, HQL.out] at this
        exact this
      have FIN := Lib.hid fin
      have hnx : ∀ k, Blk (.slice p11 j c11) k → ¬ k = x := fun k hk e => by have := HS.out.mine k hk; have := HM.out.1.typ.lt; omega
      have HNX := Lib.hid hnx
      have fx := (TYX.out _ HS.out.turn).free 1
      have lx2 := (TYX.out _ HS.out.turn).lt
      clear fin hnx
      cases pk
      all_goals
        rcases two with h5e | ⟨h5, h6e⟩
        all_goals
          first
            | (have h7 : ¬ (j : Int) < ((q.2.length : Nat) : Int) := by omega)
            | (have h7 : ¬ (j : Int) < (n : Int) := by omega)
          first | clear h5e | clear h6e
          go_wp2
          try (go_region; go_wp2)
          go_ret2
          first
            | exact ⟨_, rfl, HS.out.row, RMadeQ.refl2 HM.out.1 HS.out.turn⟩
            | exact ⟨_, rfl, (FIN.out _ (Turn.refl NoBlock wr).drew).1.kept ((Turn.refl (fun k => k = x) _).setCell (p := ⟨x, 1, none⟩) (.inl rfl) _) HNX.out, (FIN.out _ (Turn.refl NoBlock wr).drew).2⟩
end
end Go.Proofs.Ytocaebcbmfejbaa
