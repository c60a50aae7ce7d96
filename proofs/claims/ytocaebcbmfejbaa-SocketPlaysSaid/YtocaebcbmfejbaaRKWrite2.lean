/-
  What the reference's Write makes of its socket where bytes come. No conditions but that the reference's socket is one that calls can make, and that the bytes can be read.
-/
import Derived.Test.YtocaebcbmfejbaaRKWrite
namespace Go.Proofs.Ytocaebcbmfejbaa
open Go.ChangeShapes Go.WideShapes Go.ChangeAt Go.RowKit

theorem RMadeQ.trans {w w1 w2 : World} {x room : Nat} {dg : Bool} {C M D : Nat → Bool} {U U1 : Nat → Value} {Q Q1 Q2 : Nat → Pcs} {Y Y1 : Nat → Prop} (t : Turn (fun k => k = x) w w1) (hf : ∀ k, RF x U1 Q1 k → RF x U Q k ∨ Y k ∨ (w.heap.size ≤ k ∧ k < w1.heap.size)) (h : RMadeQ w1 w2 x dg room C M D U1 Q1 Y1 Q2) (hY : ∀ k, Y1 k → Y k) : RMadeQ w w2 x dg room C M D U Q Y Q2 := by
  obtain ⟨U', h1, h2, h3⟩ := h
  refine ⟨U', h1, t.trans h2 (fun k hk => .inl hk), fun k hk => ?_⟩
  have hs1 := t.size
  have hs2 := h2.size
  rcases h3 k hk with h | h | h
  · rcases hf k h with h | h | h
    · exact .inl h
    · exact .inr (.inl h)
    · exact .inr (.inr ⟨h.1, by omega⟩)
  · exact .inr (.inl (hY k h))
  · exact .inr (.inr ⟨by omega, h.2⟩)
/-- One byte each, of a slice of bytes. -/
def pcs1 (g o ca : Nat) (b : List UInt8) (j : Nat) : Pcs := (List.range j).map (fun i => (Value.slice (some ⟨g, o + i, none⟩) 1 (ca - i), [b.getD i 0]))
theorem pcs1_succ (g o ca : Nat) (b : List UInt8) (j : Nat) : pcs1 g o ca b (j + 1) = pcs1 g o ca b j ++ [(Value.slice (some ⟨g, o + j, none⟩) 1 (ca - j), [b.getD j 0])] := by
  unfold pcs1
  rw [List.range_succ, List.map_append]
  rfl
theorem pcs1_len (g o ca : Nat) (b : List UInt8) (j : Nat) : (pcs1 g o ca b j).length = j := by simp [pcs1]
theorem byts_one {w : World} {g o ca : Nat} {b : List UInt8} (h : Byts (.slice (some ⟨g, o, none⟩) b.length ca) b w) {j : Nat} (hj : j < b.length) : b.length ≤ ca ∧ Byts (.slice (some ⟨g, o + j, none⟩) 1 (ca - j)) [b.getD j 0] w := by
  obtain ⟨g', o', c', he, h1, h2, h3, h4, h5⟩ := WRow.shape h (by omega)
  simp only [Value.slice.injEq, Option.some.injEq, Addr.mk.injEq, and_true, true_and] at he
  obtain ⟨⟨rfl, rfl⟩, rfl⟩ := he
  refine ⟨h1, rfl, .inr ⟨g, o + j, ca - j, rfl, (show 1 ≤ ca - j by omega), by omega, h3, fun i hi => ?_, fun i hi => ?_⟩⟩
  · have hi0 : i = 0 := by simp at hi; omega
    subst hi0
    rw [Nat.add_zero, h4 j (by omega)]
    unfold bcells
    rw [List.getElem?_map, List.getElem?_eq_getElem hj]
    simp [List.getD, List.getElem?_eq_getElem hj]
  · rw [Nat.add_assoc]
    exact h5 _ (by omega)
section
variable {w : World} {x room : Nat} {dg : Bool} {C M D : Nat → Bool} {U : Nat → Value} {Q : Nat → Pcs}
set_option maxRecDepth 20000 in
set_option maxHeartbeats 1000000 in
theorem rwrite_d0 (h : RAt w x true room C M D U Q) (hr : room ≤ 1048576) (hc : C 0 = false) (hp : C 1 = false) (hm : M 0 = false) (hd : D 1 = false) (hl : (pb (Q 1)).length ≤ room) (hql : (Q 1).length ≤ 2000000) (vb : Value) (b : List UInt8) (hb : Byts vb b w) (h0 : 0 < b.length) (hn : b.length ≤ room - (pb (Q 1)).length) :
    Calls Try.prog 26 #[.pointer (some ⟨x, 0, none⟩), .int .i64 0, vb] w fun y w' => y = .returned (.tuple #[.int .i64 (b.length : Nat), .int .i64 0]) ∧ RMadeQ w w' x true room C M D U Q (Blk vb) (updN Q 1 (Q 1 ++ [(vb, b)])) := by
  have CK := Lib.hid (show Calls Try.prog 75 #[.pointer (some ⟨x, 0, none⟩), .int .i64 0] w fun y w' => y = .returned (.int .i64 0) ∧ w = w' from rcheck0 h false hc)
  have CL := Lib.hid (fun W (t : Turn NoBlock w W) => rlen1 (h.past t) (by omega) hql)
  have CP := Lib.hid (fun W (t : Turn NoBlock w W) => rput1 (h.past t) hql vb b (hb.past t))
  have c1 : w.cell? ⟨x, 2 + 1, none⟩ = some (.bool (C 1)) := h.cc 1 (by omega)
  have c2 : w.cell? ⟨x, 4 + 0, none⟩ = some (.bool (M 0)) := h.cm 0 (by omega)
  have c3 : w.cell? ⟨x, 6 + 1, none⟩ = some (.bool (D 1)) := h.cd 1 (by omega)
  have c8 := h.c8
  have c9 := h.c9
  have cl := h.typ.lt
  rw [hp] at c1
  rw [hm] at c2
  rw [hd] at c3
  simp only [Nat.reduceAdd] at c1 c2 c3
  obtain ⟨p, ca, rfl⟩ := WRow.sl hb
  obtain ⟨fr, hfr⟩ : ∃ fr, room - (pb (Q 1)).length = fr := ⟨_, rfl⟩
  have hw : IntKind.i64.wrap ((room : Int) - ((pb (Q 1)).length : Nat)) = (fr : Int) := by
    rw [show (room : Int) - ((pb (Q 1)).length : Nat) = (fr : Int) by omega]
    exact wrap_nat fr (by omega)
  have h1 : ¬ ((b.length : Nat) : Int) = 0 := by omega
  have h2 : ¬ (room : Int) < ((b.length : Nat) : Int) := by omega
  have h3 : ¬ (fr : Int) < ((b.length : Nat) : Int) := by omega
  have hni : ((b.length : Nat) : Int) ≤ 1048576 := by omega
  generalize (pb (Q 1)).length = ll at *
  clear h hc hp hm hd hl hql hn hfr hr hb h0
  go_enter Try.func26, Try.ntmps26
  go_wp2_with (go_at_call 75; (with_reducible refine CK.out.mono ?_); rintro y w' ⟨rfl, rfl⟩)
  go_region_held3 (fun w' => w'.cell? ⟨x, 9, none⟩ = some (.int .i64 (room : Int))) (first | exact c9) (first | (go_at_call 33; (with_reducible refine (CL.out _ (by first | exact Turn.refl _ _ | exact (Turn.refl _ _).drew)).mono ?_); rintro y w2 ⟨rfl, rfl⟩))
  go_wp2_with (go_at_call 76; (with_reducible refine (CP.out _ ((Turn.refl _ _).drew)).mono ?_); rintro y w3 ⟨⟨u3, rfl⟩, k3⟩; have K3 := Lib.hid k3; clear k3)
  go_ret2
  exact ⟨rfl, K3.out.past ((Turn.refl _ _).drew)⟩
set_option maxRecDepth 20000 in
set_option maxHeartbeats 2000000 in
theorem rwrite_s0 (h : RAt w x false room C M D U Q) (hr : room ≤ 1048576) (hc : C 0 = false) (hp : C 1 = false) (hm : M 0 = false) (hd : D 1 = false) (hl : (pb (Q 1)).length ≤ room) (hql : (Q 1).length ≤ 1048576) (g o ca : Nat) (b : List UInt8) (hb : Byts (.slice (some ⟨g, o, none⟩) b.length ca) b w) (h0 : 0 < b.length) (hbl : b.length ≤ 100000) (h1 : 0 < room - (pb (Q 1)).length) (m : Nat) (hmm : m = min b.length (room - (pb (Q 1)).length)) :
    Calls Try.prog 26 #[.pointer (some ⟨x, 0, none⟩), .int .i64 0, .slice (some ⟨g, o, none⟩) b.length ca] w fun y w' => y = .returned (.tuple #[.int .i64 (m : Nat), .int .i64 0]) ∧ RMadeQ w w' x false room C M D U Q (Blk (.slice (some ⟨g, o, none⟩) b.length ca)) (updN Q 1 (Q 1 ++ pcs1 g o ca b m)) := by
  have CK := Lib.hid (show Calls Try.prog 75 #[.pointer (some ⟨x, 0, none⟩), .int .i64 0] w fun y w' => y = .returned (.int .i64 0) ∧ w = w' from rcheck0 h false hc)
  have CL := Lib.hid (fun W (t : Turn NoBlock w W) => rlen1 (h.past t) (by omega) (by omega))
  have c1 : w.cell? ⟨x, 2 + 1, none⟩ = some (.bool (C 1)) := h.cc 1 (by omega)
  have c2 : w.cell? ⟨x, 4 + 0, none⟩ = some (.bool (M 0)) := h.cm 0 (by omega)
  have c3 : w.cell? ⟨x, 6 + 1, none⟩ = some (.bool (D 1)) := h.cd 1 (by omega)
  have c8 := h.c8
  have c9 := h.c9
  have cl := h.typ.lt
  rw [hp] at c1
  rw [hm] at c2
  rw [hd] at c3
  simp only [Nat.reduceAdd] at c1 c2 c3
  obtain ⟨fr, hfr⟩ : ∃ fr, room - (pb (Q 1)).length = fr := ⟨_, rfl⟩
  have hw : IntKind.i64.wrap ((room : Int) - ((pb (Q 1)).length : Nat)) = (fr : Int) := by
    rw [show (room : Int) - ((pb (Q 1)).length : Nat) = (fr : Int) by omega]
    exact wrap_nat fr (by omega)
  rw [hfr] at hmm h1
  have i1 : (((b.length : Nat) : Int) == 0) = false := by rw [beq_eq_false_iff_ne]; omega
  have i2 : ((fr : Int) == 0) = false := by rw [beq_eq_false_iff_ne]; omega
  have hni : ((b.length : Nat) : Int) ≤ 100000 := by omega
  have hfi : (fr : Int) ≤ 1048576 := by omega
  have hca := (byts_one hb h0).1
  have START := Lib.hid (And.intro (RMadeQ.refl (Blk (.slice (some ⟨g, o, none⟩) b.length ca)) (h.past (Turn.refl NoBlock w).drew)) (hb.past (Turn.refl NoBlock w).drew))
  have HQ := Lib.hid (And.intro hql (And.intro hmm hca))
  generalize (pb (Q 1)).length = ll at *
  clear h hc hp hm hd hl hql hfr hr hb h0 h1 hmm hca
  go_enter Try.func26, Try.ntmps26
  go_wp2_with (go_at_call 75; (with_reducible refine CK.out.mono ?_); rintro y w' ⟨rfl, rfl⟩)
  go_region_held3 (fun w' => w'.cell? ⟨x, 9, none⟩ = some (.int .i64 (room : Int))) (first | exact c9) (first | (go_at_call 33; (with_reducible refine (CL.out _ (by first | exact Turn.refl _ _ | exact (Turn.refl _ _).drew)).mono ?_); rintro y w2 ⟨rfl, rfl⟩))
  go_wp2
  go_loopg [11] m (fun g' s11 wr => ∃ (j : Nat), j ≤ m ∧ g' = m - j ∧ s11 = .int .i64 j ∧ Hid (RMadeQ w.drew wr x false room C M D U Q (Blk (.slice (some ⟨g, o, none⟩) b.length ca)) (updN Q 1 (Q 1 ++ pcs1 g o ca b j)) ∧ Byts (.slice (some ⟨g, o, none⟩) b.length ca) b wr))
  case atStart => exact ⟨0, by omega, by omega, rfl, Lib.hid ⟨by
    have := START.out.1
    have e1 : updN Q 1 (Q 1 ++ pcs1 g o ca b 0) = Q := by
      funext i
      unfold updN pcs1
      split
      · rename_i hi; rw [hi]; simp
      · rfl
    rw [e1]
    exact this, START.out.2⟩⟩
  case round =>
    obtain ⟨j, hj, hg, rfl, HS⟩ := hrel
    by_cases hlt : j < m
    · have hjb : j < b.length := by have := HQ.out.2.1; omega
      have hjf : j < fr := by have := HQ.out.2.1; omega
      have hji : (j : Int) < ((b.length : Nat) : Int) := by omega
      have hjfi : (j : Int) < (fr : Int) := by omega
      obtain ⟨E, hE, hE1⟩ := sl_lh 35 1 elem_bytes size_bytes g o b.length ca j (j + 1) (by omega) (by have := HQ.out.2.2; omega)
      rw [hE1 (by have := HQ.out.2.2; omega), Nat.mul_one, show j + 1 - j = 1 by omega] at hE
      have hsl : ∀ w, Sem.run Try.prog (Instr.slice 35 (.slice (some ⟨g, o, none⟩) b.length ca) (some (.int .i64 (j : Int))) (some (.int .i64 ((j : Int) + 1))) none) w = .ok (.slice (some ⟨g, o + j, none⟩) 1 (ca - j)) w := hE
      have CP := Lib.hid (show Calls Try.prog 76 #[.pointer (some ⟨x, 0, none⟩), .int .i64 1, .slice (some ⟨g, o + j, none⟩) 1 (ca - j)] wr (fun y w' => (∃ u, y = .returned u) ∧ RMadeQ w.drew w' x false room C M D U Q (Blk (.slice (some ⟨g, o, none⟩) b.length ca)) (updN Q 1 (Q 1 ++ pcs1 g o ca b (j + 1))) ∧ Byts (.slice (some ⟨g, o, none⟩) b.length ca) b w') by
        obtain ⟨U1, hR, tR, fR⟩ := HS.out.1
        have hq1 : (updN Q 1 (Q 1 ++ pcs1 g o ca b j) 1).length ≤ 2000000 := by
          rw [updN_same, List.length_append, pcs1_len]
          have := HQ.out.1
          omega
        refine (rput1 hR hq1 _ _ (byts_one HS.out.2 hjb).2).mono (fun y w' hh => ⟨hh.1, ?_, ?_⟩)
        · have h2 := RMadeQ.trans (Y := Blk (.slice (some ⟨g, o, none⟩) b.length ca)) tR fR hh.2 (fun k hk => by simpa [Blk, Value.ownBlock] using hk)
          have e1 : updN (updN Q 1 (Q 1 ++ pcs1 g o ca b j)) 1 (updN Q 1 (Q 1 ++ pcs1 g o ca b j) 1 ++ [(Value.slice (some ⟨g, o + j, none⟩) 1 (ca - j), [b.getD j 0])]) = updN Q 1 (Q 1 ++ pcs1 g o ca b (j + 1)) := by
            rw [updN_same, pcs1_succ, List.append_assoc]
            funext i
            unfold updN
            split <;> rfl
          rw [e1] at h2
          exact h2
        · obtain ⟨U2, -, t2, -⟩ := hh.2
          exact HS.out.2.kept t2 (fun k hk e => blk_typed HS.out.2 hR.typ (by decide) (e ▸ hk)))
      clear hE hE1 hjb hjf
      go_wp2_with (go_at_call 76; (with_reducible refine CP.out.mono ?_); rintro y w3 ⟨⟨u3, rfl⟩, k3⟩; have K3 := Lib.hid k3; clear k3)
      go_roundg (m - (j + 1))
      case measure => omega
      case rel => exact ⟨j + 1, by omega, by omega, by go_num, K3⟩
    · obtain rfl : j = m := by omega
      have two : ((b.length : Nat) : Int) = (j : Int) ∨ ((j : Int) < ((b.length : Nat) : Int) ∧ (fr : Int) = (j : Int)) := by have := HQ.out.2.1; omega
      rcases two with h5 | ⟨h5, h6⟩
      · have h7 : ¬ (j : Int) < ((b.length : Nat) : Int) := by omega
        clear h5
        go_wp2
        go_ret2
        exact ⟨rfl, HS.out.1.past (Turn.refl NoBlock w).drew⟩
      · have h7 : ¬ (j : Int) < (fr : Int) := by omega
        clear h6
        go_wp2
        go_ret2
        exact ⟨rfl, HS.out.1.past (Turn.refl NoBlock w).drew⟩
set_option maxRecDepth 20000 in
set_option maxHeartbeats 1000000 in
theorem rwrite_d1 (h : RAt w x true room C M D U Q) (hr : room ≤ 1048576) (hc : C 1 = false) (hp : C 0 = false) (hm : M 1 = false) (hd : D 0 = false) (hl : (pb (Q 0)).length ≤ room) (hql : (Q 0).length ≤ 2000000) (vb : Value) (b : List UInt8) (hb : Byts vb b w) (h0 : 0 < b.length) (hn : b.length ≤ room - (pb (Q 0)).length) :
    Calls Try.prog 26 #[.pointer (some ⟨x, 0, none⟩), .int .i64 1, vb] w fun y w' => y = .returned (.tuple #[.int .i64 (b.length : Nat), .int .i64 0]) ∧ RMadeQ w w' x true room C M D U Q (Blk vb) (updN Q 0 (Q 0 ++ [(vb, b)])) := by
  have CK := Lib.hid (show Calls Try.prog 75 #[.pointer (some ⟨x, 0, none⟩), .int .i64 1] w fun y w' => y = .returned (.int .i64 0) ∧ w = w' from rcheck1 h false hc)
  have CL := Lib.hid (fun W (t : Turn NoBlock w W) => rlen0 (h.past t) (by omega) hql)
  have CP := Lib.hid (fun W (t : Turn NoBlock w W) => rput0 (h.past t) hql vb b (hb.past t))
  have c1 : w.cell? ⟨x, 2 + 0, none⟩ = some (.bool (C 0)) := h.cc 0 (by omega)
  have c2 : w.cell? ⟨x, 4 + 1, none⟩ = some (.bool (M 1)) := h.cm 1 (by omega)
  have c3 : w.cell? ⟨x, 6 + 0, none⟩ = some (.bool (D 0)) := h.cd 0 (by omega)
  have c8 := h.c8
  have c9 := h.c9
  have cl := h.typ.lt
  rw [hp] at c1
  rw [hm] at c2
  rw [hd] at c3
  simp only [Nat.reduceAdd] at c1 c2 c3
  obtain ⟨p, ca, rfl⟩ := WRow.sl hb
  obtain ⟨fr, hfr⟩ : ∃ fr, room - (pb (Q 0)).length = fr := ⟨_, rfl⟩
  have hw : IntKind.i64.wrap ((room : Int) - ((pb (Q 0)).length : Nat)) = (fr : Int) := by
    rw [show (room : Int) - ((pb (Q 0)).length : Nat) = (fr : Int) by omega]
    exact wrap_nat fr (by omega)
  have h1 : ¬ ((b.length : Nat) : Int) = 0 := by omega
  have h2 : ¬ (room : Int) < ((b.length : Nat) : Int) := by omega
  have h3 : ¬ (fr : Int) < ((b.length : Nat) : Int) := by omega
  have hni : ((b.length : Nat) : Int) ≤ 1048576 := by omega
  generalize (pb (Q 0)).length = ll at *
  clear h hc hp hm hd hl hql hn hfr hr hb h0
  go_enter Try.func26, Try.ntmps26
  go_wp2_with (go_at_call 75; (with_reducible refine CK.out.mono ?_); rintro y w' ⟨rfl, rfl⟩)
  go_region_held3 (fun w' => w'.cell? ⟨x, 9, none⟩ = some (.int .i64 (room : Int))) (first | exact c9) (first | (go_at_call 33; (with_reducible refine (CL.out _ (by first | exact Turn.refl _ _ | exact (Turn.refl _ _).drew)).mono ?_); rintro y w2 ⟨rfl, rfl⟩))
  go_wp2_with (go_at_call 76; (with_reducible refine (CP.out _ ((Turn.refl _ _).drew)).mono ?_); rintro y w3 ⟨⟨u3, rfl⟩, k3⟩; have K3 := Lib.hid k3; clear k3)
  go_ret2
  exact ⟨rfl, K3.out.past ((Turn.refl _ _).drew)⟩
set_option maxRecDepth 20000 in
set_option maxHeartbeats 2000000 in
theorem rwrite_s1 (h : RAt w x false room C M D U Q) (hr : room ≤ 1048576) (hc : C 1 = false) (hp : C 0 = false) (hm : M 1 = false) (hd : D 0 = false) (hl : (pb (Q 0)).length ≤ room) (hql : (Q 0).length ≤ 1048576) (g o ca : Nat) (b : List UInt8) (hb : Byts (.slice (some ⟨g, o, none⟩) b.length ca) b w) (h0 : 0 < b.length) (hbl : b.length ≤ 100000) (h1 : 0 < room - (pb (Q 0)).length) (m : Nat) (hmm : m = min b.length (room - (pb (Q 0)).length)) :
    Calls Try.prog 26 #[.pointer (some ⟨x, 0, none⟩), .int .i64 1, .slice (some ⟨g, o, none⟩) b.length ca] w fun y w' => y = .returned (.tuple #[.int .i64 (m : Nat), .int .i64 0]) ∧ RMadeQ w w' x false room C M D U Q (Blk (.slice (some ⟨g, o, none⟩) b.length ca)) (updN Q 0 (Q 0 ++ pcs1 g o ca b m)) := by
  have CK := Lib.hid (show Calls Try.prog 75 #[.pointer (some ⟨x, 0, none⟩), .int .i64 1] w fun y w' => y = .returned (.int .i64 0) ∧ w = w' from rcheck1 h false hc)
  have CL := Lib.hid (fun W (t : Turn NoBlock w W) => rlen0 (h.past t) (by omega) (by omega))
  have c1 : w.cell? ⟨x, 2 + 0, none⟩ = some (.bool (C 0)) := h.cc 0 (by omega)
  have c2 : w.cell? ⟨x, 4 + 1, none⟩ = some (.bool (M 1)) := h.cm 1 (by omega)
  have c3 : w.cell? ⟨x, 6 + 0, none⟩ = some (.bool (D 0)) := h.cd 0 (by omega)
  have c8 := h.c8
  have c9 := h.c9
  have cl := h.typ.lt
  rw [hp] at c1
  rw [hm] at c2
  rw [hd] at c3
  simp only [Nat.reduceAdd] at c1 c2 c3
  obtain ⟨fr, hfr⟩ : ∃ fr, room - (pb (Q 0)).length = fr := ⟨_, rfl⟩
  have hw : IntKind.i64.wrap ((room : Int) - ((pb (Q 0)).length : Nat)) = (fr : Int) := by
    rw [show (room : Int) - ((pb (Q 0)).length : Nat) = (fr : Int) by omega]
    exact wrap_nat fr (by omega)
  rw [hfr] at hmm h1
  have i1 : (((b.length : Nat) : Int) == 0) = false := by rw [beq_eq_false_iff_ne]; omega
  have i2 : ((fr : Int) == 0) = false := by rw [beq_eq_false_iff_ne]; omega
  have hni : ((b.length : Nat) : Int) ≤ 100000 := by omega
  have hfi : (fr : Int) ≤ 1048576 := by omega
  have hca := (byts_one hb h0).1
  have START := Lib.hid (And.intro (RMadeQ.refl (Blk (.slice (some ⟨g, o, none⟩) b.length ca)) (h.past (Turn.refl NoBlock w).drew)) (hb.past (Turn.refl NoBlock w).drew))
  have HQ := Lib.hid (And.intro hql (And.intro hmm hca))
  generalize (pb (Q 0)).length = ll at *
  clear h hc hp hm hd hl hql hfr hr hb h0 h1 hmm hca
  go_enter Try.func26, Try.ntmps26
  go_wp2_with (go_at_call 75; (with_reducible refine CK.out.mono ?_); rintro y w' ⟨rfl, rfl⟩)
  go_region_held3 (fun w' => w'.cell? ⟨x, 9, none⟩ = some (.int .i64 (room : Int))) (first | exact c9) (first | (go_at_call 33; (with_reducible refine (CL.out _ (by first | exact Turn.refl _ _ | exact (Turn.refl _ _).drew)).mono ?_); rintro y w2 ⟨rfl, rfl⟩))
  go_wp2
  go_loopg [11] m (fun g' s11 wr => ∃ (j : Nat), j ≤ m ∧ g' = m - j ∧ s11 = .int .i64 j ∧ Hid (RMadeQ w.drew wr x false room C M D U Q (Blk (.slice (some ⟨g, o, none⟩) b.length ca)) (updN Q 0 (Q 0 ++ pcs1 g o ca b j)) ∧ Byts (.slice (some ⟨g, o, none⟩) b.length ca) b wr))
  case atStart => exact ⟨0, by omega, by omega, rfl, Lib.hid ⟨by
    have := START.out.1
    have e1 : updN Q 0 (Q 0 ++ pcs1 g o ca b 0) = Q := by
      funext i
      unfold updN pcs1
      split
      · rename_i hi; rw [hi]; simp
      · rfl
    rw [e1]
    exact this, START.out.2⟩⟩
  case round =>
    obtain ⟨j, hj, hg, rfl, HS⟩ := hrel
    by_cases hlt : j < m
    · have hjb : j < b.length := by have := HQ.out.2.1; omega
      have hjf : j < fr := by have := HQ.out.2.1; omega
      have hji : (j : Int) < ((b.length : Nat) : Int) := by omega
      have hjfi : (j : Int) < (fr : Int) := by omega
      obtain ⟨E, hE, hE1⟩ := sl_lh 35 1 elem_bytes size_bytes g o b.length ca j (j + 1) (by omega) (by have := HQ.out.2.2; omega)
      rw [hE1 (by have := HQ.out.2.2; omega), Nat.mul_one, show j + 1 - j = 1 by omega] at hE
      have hsl : ∀ w, Sem.run Try.prog (Instr.slice 35 (.slice (some ⟨g, o, none⟩) b.length ca) (some (.int .i64 (j : Int))) (some (.int .i64 ((j : Int) + 1))) none) w = .ok (.slice (some ⟨g, o + j, none⟩) 1 (ca - j)) w := hE
      have CP := Lib.hid (show Calls Try.prog 76 #[.pointer (some ⟨x, 0, none⟩), .int .i64 0, .slice (some ⟨g, o + j, none⟩) 1 (ca - j)] wr (fun y w' => (∃ u, y = .returned u) ∧ RMadeQ w.drew w' x false room C M D U Q (Blk (.slice (some ⟨g, o, none⟩) b.length ca)) (updN Q 0 (Q 0 ++ pcs1 g o ca b (j + 1))) ∧ Byts (.slice (some ⟨g, o, none⟩) b.length ca) b w') by
        obtain ⟨U1, hR, tR, fR⟩ := HS.out.1
        have hq1 : (updN Q 0 (Q 0 ++ pcs1 g o ca b j) 0).length ≤ 2000000 := by
          rw [updN_same, List.length_append, pcs1_len]
          have := HQ.out.1
          omega
        refine (rput0 hR hq1 _ _ (byts_one HS.out.2 hjb).2).mono (fun y w' hh => ⟨hh.1, ?_, ?_⟩)
        · have h2 := RMadeQ.trans (Y := Blk (.slice (some ⟨g, o, none⟩) b.length ca)) tR fR hh.2 (fun k hk => by simpa [Blk, Value.ownBlock] using hk)
          have e1 : updN (updN Q 0 (Q 0 ++ pcs1 g o ca b j)) 0 (updN Q 0 (Q 0 ++ pcs1 g o ca b j) 0 ++ [(Value.slice (some ⟨g, o + j, none⟩) 1 (ca - j), [b.getD j 0])]) = updN Q 0 (Q 0 ++ pcs1 g o ca b (j + 1)) := by
            rw [updN_same, pcs1_succ, List.append_assoc]
            funext i
            unfold updN
            split <;> rfl
          rw [e1] at h2
          exact h2
        · obtain ⟨U2, -, t2, -⟩ := hh.2
          exact HS.out.2.kept t2 (fun k hk e => blk_typed HS.out.2 hR.typ (by decide) (e ▸ hk)))
      clear hE hE1 hjb hjf
      go_wp2_with (go_at_call 76; (with_reducible refine CP.out.mono ?_); rintro y w3 ⟨⟨u3, rfl⟩, k3⟩; have K3 := Lib.hid k3; clear k3)
      go_roundg (m - (j + 1))
      case measure => omega
      case rel => exact ⟨j + 1, by omega, by omega, by go_num, K3⟩
    · obtain rfl : j = m := by omega
      have two : ((b.length : Nat) : Int) = (j : Int) ∨ ((j : Int) < ((b.length : Nat) : Int) ∧ (fr : Int) = (j : Int)) := by have := HQ.out.2.1; omega
      rcases two with h5 | ⟨h5, h6⟩
      · have h7 : ¬ (j : Int) < ((b.length : Nat) : Int) := by omega
        clear h5
        go_wp2
        go_ret2
        exact ⟨rfl, HS.out.1.past (Turn.refl NoBlock w).drew⟩
      · have h7 : ¬ (j : Int) < (fr : Int) := by omega
        clear h6
        go_wp2
        go_ret2
        exact ⟨rfl, HS.out.1.past (Turn.refl NoBlock w).drew⟩
end
end Go.Proofs.Ytocaebcbmfejbaa
