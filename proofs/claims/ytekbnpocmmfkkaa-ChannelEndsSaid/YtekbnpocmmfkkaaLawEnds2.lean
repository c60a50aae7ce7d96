/-
  ChannelEnds' walk: the loops.
-/
import Derived.Test.YtekbnpocmmfkkaaLawEnds
namespace Go.Proofs.Ytekbnpocmmfkkaa
open Go.ChangeShapes Go.WideShapes Go.ChangeAt Go.RowKit

set_option maxRecDepth 20000 in
theorem ends_past (p : Option Addr) (len cap : Nat) (x : Int) (w : World) (h : 40 < len ∨ (x ≠ 0 ∧ x ≠ 1)) : Calls Try.prog 7 #[.slice p len cap, .int .i64 x] w fun e w' => e = .returned (.bool true) ∧ Turn NoBlock w w' := by
  have c1 : Calls Try.prog 8 #[.int .i64 100] w fun x w' => x = .returned (.pointer (some ⟨w.heap.size, 0, none⟩)) ∧ CSt w w' w.heap.size 100 0 (fun _ => ⟨true, [], []⟩) NoBlock := cst_new 100 w (by omega) (by omega)
  have cA := Lib.hid awake11
  have h3 : 40 < len ∨ (len ≤ 40 ∧ x ≠ 0 ∧ x ≠ 1) := by omega
  rcases h3 with h3 | ⟨h3, h4, h5⟩
  · clear h
    go_enter Try.func7, Try.ntmps7
    go_wp2_with (first
      | (go_at_call 8; (with_reducible refine c1.mono ?_); rintro e w1 ⟨rfl, k1⟩; have K1 := Lib.hid k1; clear k1)
      | (go_at_call 9; (with_reducible refine (cA.out _).mono ?_); rintro e w2 ⟨rfl, t2⟩))
    go_ret
    exact ⟨rfl, TT K1.out.turn t2⟩
  · have b0 : (x != 0) = true := bne_iff_ne.2 h4
    have b1 : (x != 1) = true := bne_iff_ne.2 h5
    clear h h4 h5
    go_enter Try.func7, Try.ntmps7
    go_wp2_with (first
      | (go_at_call 8; (with_reducible refine c1.mono ?_); rintro e w1 ⟨rfl, k1⟩; have K1 := Lib.hid k1; clear k1)
      | (go_at_call 9; (with_reducible refine (cA.out _).mono ?_); rintro e w2 ⟨rfl, t2⟩))
    go_ret
    exact ⟨rfl, TT K1.out.turn t2⟩
set_option maxRecDepth 20000 in
set_option maxHeartbeats 4000000 in
theorem ends_walk0 (p : Option Addr) (len cap : Nat) (ms : List QM) (w : World) (h : len ≤ 40) (hm : MsgsAt w p len ms) : Calls Try.prog 7 #[.slice p len cap, .int .i64 0] w fun e w' => e = .returned (.bool true) ∧ Turn NoBlock w w' := by
  have c1 : Calls Try.prog 8 #[.int .i64 100] w fun x w' => x = .returned (.pointer (some ⟨w.heap.size, 0, none⟩)) ∧ CSt w w' w.heap.size 100 0 (fun _ => ⟨true, [], []⟩) NoBlock := cst_new 100 w (by omega) (by omega)
  have cA := Lib.hid awake11
  obtain ⟨c, hc⟩ : ∃ c, w.heap.size = c := ⟨_, rfl⟩
  rw [hc] at c1
  have HM := Lib.hid hm
  have hl0 : (len : Int) ≤ 40 := by omega
  clear hc hm
  go_enter Try.func7, Try.ntmps7
  go_wp2_with (go_at_call 8; (with_reducible refine c1.mono ?_); rintro e w1 ⟨rfl, k1⟩; rw [ke_new 0] at k1; have K1 := Lib.hid k1; clear k1)
  go_loopg [44] len (fun g s44 wr => ∃ (i : Nat), i ≤ len ∧ g = len - i ∧ s44 = .int .i64 i ∧ Hid (EW w wr c 0 ms i))
  case atStart => exact ⟨0, by omega, by omega, rfl, Lib.hid ⟨⟨0, by omega, K1.out⟩, fun j q hj => by omega⟩⟩
  case round =>
    obtain ⟨i, hi, hg, rfl, HT⟩ := hrel
    by_cases hlt : i < len
    · obtain ⟨g0, o0, rfl, hcell⟩ := HM.out.2 (by omega)
      obtain ⟨q, hq⟩ : ∃ q, ms[i]? = some q := ⟨_, List.getElem?_eq_getElem (by rw [HM.out.1]; exact hlt)⟩
      obtain ⟨hcs, hqr⟩ := hcell i q hq
      have HQ := Lib.hid hq
      have d0 : wr.cell? ⟨g0, o0 + i * 3, none⟩ = some (.int .i64 q.m.tx) := HT.out.turn.cell (hcs 0 (by omega)) (fun h => h)
      have d1 : wr.cell? ⟨g0, o0 + i * 3 + 1, none⟩ = some q.vd := HT.out.turn.cell (hcs 1 (by omega)) (fun h => h)
      have d2 : wr.cell? ⟨g0, o0 + i * 3 + 2, none⟩ = some q.vh := HT.out.turn.cell (hcs 2 (by omega)) (fun h => h)
      obtain ⟨⟨tx, d, hh⟩, vd, vh⟩ := q
      obtain ⟨pd, cd, hvd⟩ := hqr.1.sl
      obtain ⟨ph, ch, hvh⟩ := hqr.2.sl
      dsimp only at hvd hvh d0 d1 d2
      subst hvd hvh
      have HQR := Lib.hid hqr
      clear hcell hcs hq hqr
      by_cases h1 : (300 : Int) < d.length
      · go_wp2_with (go_at_call 9; (with_reducible refine (cA.out _).mono ?_); rintro e w3 ⟨rfl, t3⟩)
        go_ret
        exact ⟨rfl, TT (HT.out.turn.alloc _) t3⟩
      · by_cases h2 : (64 : Int) < hh.length
        · go_wp2_with (go_at_call 9; (with_reducible refine (cA.out _).mono ?_); rintro e w3 ⟨rfl, t3⟩)
          go_ret
          exact ⟨rfl, TT (HT.out.turn.alloc _) t3⟩
        · have HF := Lib.hid (show Fit3 ⟨⟨tx, d, hh⟩, .slice pd d.length cd, .slice ph hh.length ch⟩ from ⟨by show d.length ≤ 300; omega, by show hh.length ≤ 64; omega⟩)
          have HFB := Lib.hid (show d.length ≤ 1000000000 ∧ hh.length ≤ 1000000000 from ⟨by omega, by omega⟩)
          have cM := Lib.hid (fun W (t : Turn NoBlock w W) => message_any W tx d hh _ _ (HQR.out.1.past t) (HQR.out.2.past t) HFB.out)
          have cP := Lib.hid (fun W (t : Turn NoBlock wr W) a b (ha : Byts a d W) (hb : Nums b hh W) => show Calls Try.prog 21 #[.pointer (some ⟨c, 0, none⟩), .int .i64 0, .agg #[.int .i64 tx, a, b]] W _ from ends_put0 HT.out t (by omega) HQ.out HF.out a b ha hb)
          go_wp2_with (first
            | (go_at_call 20; (with_reducible refine (cM.out _ (HT.out.turn.alloc _)).mono ?_); rintro e w2 ⟨a, b, rfl, ha, hb, hf, t2⟩; obtain ⟨pa, ca, rfl⟩ := ha.sl; obtain ⟨pb, cb, rfl⟩ := hb.sl; have K3 := Lib.hid (And.intro ha (And.intro hb (TT ((Turn.refl NoBlock wr).alloc _) t2))); clear ha hb hf t2)
            | (go_at_call 21; (with_reducible refine (cP.out _ K3.out.2.2 _ _ K3.out.1 K3.out.2.1).mono ?_); rintro e w3 ⟨rfl, k4⟩; have K4 := Lib.hid k4; clear k4))
          go_roundg (len - (i + 1))
          case measure => omega
          case rel => exact ⟨i + 1, by omega, by omega, by go_num, K4⟩
    · obtain rfl : i = len := by omega
      have hcl := ends_close0 (by have := HT.out; rw [← HM.out.1] at this; exact this) (by rw [HM.out.1]; exact h)
      have HL := Lib.hid HM.out.1
      clear hlt hg hi
      have cL := Lib.hid (fun W (t : ER w W c 0 ms 0) => show Calls Try.prog 13 #[.pointer (some ⟨c, 0, none⟩), .int .i64 1] W (fun e w' => e = .returned (.int .i64 (i : Nat)) ∧ Turn NoBlock W w') by have := ends_len0 t; rw [HM.out.1] at this; exact this)
      go_wp2_with (first
        | (go_at_call 13; (with_reducible refine (cL.out _ (K2.out.past T3.out)).mono ?_); rintro e w4 ⟨rfl, t4⟩; have T4 := Lib.hid (TT T3.out t4); clear t4)
        | (go_at_call 15; (with_reducible refine (ends_shows0 K2.out).mono ?_); rintro e w3 ⟨rfl, t3⟩; have T3 := Lib.hid t3; clear t3)
        | (go_at_call 21; (with_reducible refine (ends_peer0 (K2.out.past T4.out)).mono ?_); rintro e w5 ⟨rfl, t5⟩; have T5 := Lib.hid (TT T4.out t5); clear t5)
        | (go_at_call 21; (with_reducible refine (ends_shut0 (K2.out.past T5.out)).mono ?_); rintro e w6 ⟨rfl, t6⟩; have T6 := Lib.hid (TT T5.out t6); clear t6)
        | (go_at_call 24; (with_reducible refine hcl.mono ?_); rintro e w2 ⟨q1, e1, q2, e2, rfl, k2⟩; have K2 := Lib.hid k2; clear k2))
      go_loopg [122] i (fun g s122 wr => ∃ (k : Nat), k ≤ i ∧ g = i - k ∧ s122 = .int .i64 k ∧ Hid (ER w wr c 0 ms k))
      case atStart => exact ⟨0, by omega, by omega, rfl, Lib.hid (K2.out.past T6.out)⟩
      case round =>
        obtain ⟨k, hk, hg, rfl, HT2⟩ := hrel
        by_cases hlt : k < i
        · obtain ⟨g0, o0, rfl, hcell⟩ := HM.out.2 (by omega)
          obtain ⟨q, hq⟩ : ∃ q, ms[k]? = some q := ⟨_, List.getElem?_eq_getElem (by rw [HL.out]; exact hlt)⟩
          obtain ⟨hcs, hqr⟩ := hcell k q hq
          have hfq := HT2.out.fit q (List.mem_of_getElem? hq)
          have d0 := HT2.out.turn.cell (show w.cell? ⟨g0, o0 + k * 3, none⟩ = some (.int .i64 q.m.tx) from hcs 0 (by omega)) (fun h => h)
          have d1 := HT2.out.turn.cell (show w.cell? ⟨g0, o0 + k * 3 + 1, none⟩ = some q.vd from hcs 1 (by omega)) (fun h => h)
          have d2 := HT2.out.turn.cell (show w.cell? ⟨g0, o0 + k * 3 + 2, none⟩ = some q.vh from hcs 2 (by omega)) (fun h => h)
          obtain ⟨⟨tx, d, hh⟩, vd, vh⟩ := q
          obtain ⟨pd, cd, hvd⟩ := hqr.1.sl
          obtain ⟨ph, ch, hvh⟩ := hqr.2.sl
          dsimp only at hvd hvh d0 d1 d2
          subst hvd hvh
          have HR := Lib.hid (And.intro (show RzB w (.slice pd d.length cd) d from hqr.1) (show RzI w (.slice ph hh.length ch) hh from hqr.2))
          have HNN := Lib.hid (show hh.length ≤ 1000000000 from by have := hfq.2; dsimp only at this; omega)
          have cR := Lib.hid (show Calls Try.prog 22 #[.pointer (some ⟨c, 0, none⟩), .int .i64 1, .int .i64 300, .int .i64 64] (wr.alloc (.cells #[.int .i64 tx, .slice pd d.length cd, .slice ph hh.length ch] 38)) (fun e w' => ∃ pa ca pb cb, e = .returned (.tuple #[.agg #[.int .i64 tx, .slice pa d.length ca, .slice pb hh.length cb], .int .i64 0]) ∧ ER w w' c 0 ms (k + 1) ∧ w'.heap[wr.heap.size]? = some (.cells #[.int .i64 tx, .slice pd d.length cd, .slice ph hh.length ch] 38 (0, 0)) ∧ Byts (.slice pa d.length ca) d w' ∧ Nums (.slice pb hh.length cb) hh w') from ends_take0 HT2.out hq _ _)
          clear hcell hcs hq hqr hfq
          go_wp2_with (first
            | (go_at_call 22; (with_reducible refine cR.out.mono ?_); rintro e w3 ⟨pa, ca, pb, cb, rfl, k3, b3, ha, hb⟩; have l3 := lt_of_block b3; obtain ⟨x0, x1, x2⟩ := box3 b3; have K3 := Lib.hid (And.intro k3 (And.intro ha hb)); clear k3 b3 ha hb)
            | (go_at_call 17; (with_reducible refine (same_eq _ tx d hh _ _ _ _ HNN.out (K3.out.2.1.rd.past ((Turn.refl NoBlock _).alloc _)) (K3.out.2.2.rd.past ((Turn.refl NoBlock _).alloc _)) (HR.out.1.past (K3.out.1.turn.alloc _)) (HR.out.2.past (K3.out.1.turn.alloc _))).mono ?_); rintro e w4 ⟨rfl, t4⟩; have T4 := Lib.hid t4; clear t4))
          go_roundg (i - (k + 1))
          case measure => omega
          case rel => exact ⟨k + 1, by omega, by omega, by go_num, Lib.hid (K3.out.1.past (TT ((Turn.refl NoBlock w3).alloc _) T4.out))⟩
        · obtain rfl : k = i := by omega
          have HE := Lib.hid (show ER w wr c 0 ms ms.length from by rw [HL.out]; exact HT2.out)
          go_wp2_with (first
            | (go_at_call 22; (with_reducible refine (ends_none0 HE.out).mono ?_); rintro e w7 ⟨rfl, t7⟩; have T7 := Lib.hid t7; clear t7)
            | (go_at_call 15; (with_reducible refine (ends_peers0 (HE.out.past (T7.out.alloc _))).mono ?_); rintro e w8 ⟨rfl, t8⟩; have T8 := Lib.hid (TT (T7.out.alloc _) t8); clear t8)
            | (go_at_call 9; (with_reducible refine (cA.out _).mono ?_); rintro e w9 ⟨rfl, t9⟩))
          go_ret
          exact ⟨rfl, TT (TT HE.out.turn T8.out) t9⟩
set_option maxRecDepth 20000 in
set_option maxHeartbeats 4000000 in
theorem ends_walk1 (p : Option Addr) (len cap : Nat) (ms : List QM) (w : World) (h : len ≤ 40) (hm : MsgsAt w p len ms) : Calls Try.prog 7 #[.slice p len cap, .int .i64 1] w fun e w' => e = .returned (.bool true) ∧ Turn NoBlock w w' := by
  have c1 : Calls Try.prog 8 #[.int .i64 100] w fun x w' => x = .returned (.pointer (some ⟨w.heap.size, 0, none⟩)) ∧ CSt w w' w.heap.size 100 0 (fun _ => ⟨true, [], []⟩) NoBlock := cst_new 100 w (by omega) (by omega)
  have cA := Lib.hid awake11
  obtain ⟨c, hc⟩ : ∃ c, w.heap.size = c := ⟨_, rfl⟩
  rw [hc] at c1
  have HM := Lib.hid hm
  have hl0 : (len : Int) ≤ 40 := by omega
  clear hc hm
  go_enter Try.func7, Try.ntmps7
  go_wp2_with (go_at_call 8; (with_reducible refine c1.mono ?_); rintro e w1 ⟨rfl, k1⟩; rw [ke_new 1] at k1; have K1 := Lib.hid k1; clear k1)
  go_loopg [44] len (fun g s44 wr => ∃ (i : Nat), i ≤ len ∧ g = len - i ∧ s44 = .int .i64 i ∧ Hid (EW w wr c 1 ms i))
  case atStart => exact ⟨0, by omega, by omega, rfl, Lib.hid ⟨⟨0, by omega, K1.out⟩, fun j q hj => by omega⟩⟩
  case round =>
    obtain ⟨i, hi, hg, rfl, HT⟩ := hrel
    by_cases hlt : i < len
    · obtain ⟨g0, o0, rfl, hcell⟩ := HM.out.2 (by omega)
      obtain ⟨q, hq⟩ : ∃ q, ms[i]? = some q := ⟨_, List.getElem?_eq_getElem (by rw [HM.out.1]; exact hlt)⟩
      obtain ⟨hcs, hqr⟩ := hcell i q hq
      have HQ := Lib.hid hq
      have d0 : wr.cell? ⟨g0, o0 + i * 3, none⟩ = some (.int .i64 q.m.tx) := HT.out.turn.cell (hcs 0 (by omega)) (fun h => h)
      have d1 : wr.cell? ⟨g0, o0 + i * 3 + 1, none⟩ = some q.vd := HT.out.turn.cell (hcs 1 (by omega)) (fun h => h)
      have d2 : wr.cell? ⟨g0, o0 + i * 3 + 2, none⟩ = some q.vh := HT.out.turn.cell (hcs 2 (by omega)) (fun h => h)
      obtain ⟨⟨tx, d, hh⟩, vd, vh⟩ := q
      obtain ⟨pd, cd, hvd⟩ := hqr.1.sl
      obtain ⟨ph, ch, hvh⟩ := hqr.2.sl
      dsimp only at hvd hvh d0 d1 d2
      subst hvd hvh
      have HQR := Lib.hid hqr
      clear hcell hcs hq hqr
      by_cases h1 : (300 : Int) < d.length
      · go_wp2_with (go_at_call 9; (with_reducible refine (cA.out _).mono ?_); rintro e w3 ⟨rfl, t3⟩)
        go_ret
        exact ⟨rfl, TT (HT.out.turn.alloc _) t3⟩
      · by_cases h2 : (64 : Int) < hh.length
        · go_wp2_with (go_at_call 9; (with_reducible refine (cA.out _).mono ?_); rintro e w3 ⟨rfl, t3⟩)
          go_ret
          exact ⟨rfl, TT (HT.out.turn.alloc _) t3⟩
        · have HF := Lib.hid (show Fit3 ⟨⟨tx, d, hh⟩, .slice pd d.length cd, .slice ph hh.length ch⟩ from ⟨by show d.length ≤ 300; omega, by show hh.length ≤ 64; omega⟩)
          have HFB := Lib.hid (show d.length ≤ 1000000000 ∧ hh.length ≤ 1000000000 from ⟨by omega, by omega⟩)
          have cM := Lib.hid (fun W (t : Turn NoBlock w W) => message_any W tx d hh _ _ (HQR.out.1.past t) (HQR.out.2.past t) HFB.out)
          have cP := Lib.hid (fun W (t : Turn NoBlock wr W) a b (ha : Byts a d W) (hb : Nums b hh W) => show Calls Try.prog 21 #[.pointer (some ⟨c, 0, none⟩), .int .i64 1, .agg #[.int .i64 tx, a, b]] W _ from ends_put1 HT.out t (by omega) HQ.out HF.out a b ha hb)
          go_wp2_with (first
            | (go_at_call 20; (with_reducible refine (cM.out _ (HT.out.turn.alloc _)).mono ?_); rintro e w2 ⟨a, b, rfl, ha, hb, hf, t2⟩; obtain ⟨pa, ca, rfl⟩ := ha.sl; obtain ⟨pb, cb, rfl⟩ := hb.sl; have K3 := Lib.hid (And.intro ha (And.intro hb (TT ((Turn.refl NoBlock wr).alloc _) t2))); clear ha hb hf t2)
            | (go_at_call 21; (with_reducible refine (cP.out _ K3.out.2.2 _ _ K3.out.1 K3.out.2.1).mono ?_); rintro e w3 ⟨rfl, k4⟩; have K4 := Lib.hid k4; clear k4))
          go_roundg (len - (i + 1))
          case measure => omega
          case rel => exact ⟨i + 1, by omega, by omega, by go_num, K4⟩
    · obtain rfl : i = len := by omega
      have hcl := ends_close1 (by have := HT.out; rw [← HM.out.1] at this; exact this) (by rw [HM.out.1]; exact h)
      have HL := Lib.hid HM.out.1
      clear hlt hg hi
      have cL := Lib.hid (fun W (t : ER w W c 1 ms 0) => show Calls Try.prog 13 #[.pointer (some ⟨c, 0, none⟩), .int .i64 0] W (fun e w' => e = .returned (.int .i64 (i : Nat)) ∧ Turn NoBlock W w') by have := ends_len1 t; rw [HM.out.1] at this; exact this)
      go_wp2_with (first
        | (go_at_call 13; (with_reducible refine (cL.out _ (K2.out.past T3.out)).mono ?_); rintro e w4 ⟨rfl, t4⟩; have T4 := Lib.hid (TT T3.out t4); clear t4)
        | (go_at_call 15; (with_reducible refine (ends_shows1 K2.out).mono ?_); rintro e w3 ⟨rfl, t3⟩; have T3 := Lib.hid t3; clear t3)
        | (go_at_call 21; (with_reducible refine (ends_peer1 (K2.out.past T4.out)).mono ?_); rintro e w5 ⟨rfl, t5⟩; have T5 := Lib.hid (TT T4.out t5); clear t5)
        | (go_at_call 21; (with_reducible refine (ends_shut1 (K2.out.past T5.out)).mono ?_); rintro e w6 ⟨rfl, t6⟩; have T6 := Lib.hid (TT T5.out t6); clear t6)
        | (go_at_call 24; (with_reducible refine hcl.mono ?_); rintro e w2 ⟨q1, e1, q2, e2, rfl, k2⟩; have K2 := Lib.hid k2; clear k2))
      go_loopg [122] i (fun g s122 wr => ∃ (k : Nat), k ≤ i ∧ g = i - k ∧ s122 = .int .i64 k ∧ Hid (ER w wr c 1 ms k))
      case atStart => exact ⟨0, by omega, by omega, rfl, Lib.hid (K2.out.past T6.out)⟩
      case round =>
        obtain ⟨k, hk, hg, rfl, HT2⟩ := hrel
        by_cases hlt : k < i
        · obtain ⟨g0, o0, rfl, hcell⟩ := HM.out.2 (by omega)
          obtain ⟨q, hq⟩ : ∃ q, ms[k]? = some q := ⟨_, List.getElem?_eq_getElem (by rw [HL.out]; exact hlt)⟩
          obtain ⟨hcs, hqr⟩ := hcell k q hq
          have hfq := HT2.out.fit q (List.mem_of_getElem? hq)
          have d0 := HT2.out.turn.cell (show w.cell? ⟨g0, o0 + k * 3, none⟩ = some (.int .i64 q.m.tx) from hcs 0 (by omega)) (fun h => h)
          have d1 := HT2.out.turn.cell (show w.cell? ⟨g0, o0 + k * 3 + 1, none⟩ = some q.vd from hcs 1 (by omega)) (fun h => h)
          have d2 := HT2.out.turn.cell (show w.cell? ⟨g0, o0 + k * 3 + 2, none⟩ = some q.vh from hcs 2 (by omega)) (fun h => h)
          obtain ⟨⟨tx, d, hh⟩, vd, vh⟩ := q
          obtain ⟨pd, cd, hvd⟩ := hqr.1.sl
          obtain ⟨ph, ch, hvh⟩ := hqr.2.sl
          dsimp only at hvd hvh d0 d1 d2
          subst hvd hvh
          have HR := Lib.hid (And.intro (show RzB w (.slice pd d.length cd) d from hqr.1) (show RzI w (.slice ph hh.length ch) hh from hqr.2))
          have HNN := Lib.hid (show hh.length ≤ 1000000000 from by have := hfq.2; dsimp only at this; omega)
          have cR := Lib.hid (show Calls Try.prog 22 #[.pointer (some ⟨c, 0, none⟩), .int .i64 0, .int .i64 300, .int .i64 64] (wr.alloc (.cells #[.int .i64 tx, .slice pd d.length cd, .slice ph hh.length ch] 38)) (fun e w' => ∃ pa ca pb cb, e = .returned (.tuple #[.agg #[.int .i64 tx, .slice pa d.length ca, .slice pb hh.length cb], .int .i64 0]) ∧ ER w w' c 1 ms (k + 1) ∧ w'.heap[wr.heap.size]? = some (.cells #[.int .i64 tx, .slice pd d.length cd, .slice ph hh.length ch] 38 (0, 0)) ∧ Byts (.slice pa d.length ca) d w' ∧ Nums (.slice pb hh.length cb) hh w') from ends_take1 HT2.out hq _ _)
          clear hcell hcs hq hqr hfq
          go_wp2_with (first
            | (go_at_call 22; (with_reducible refine cR.out.mono ?_); rintro e w3 ⟨pa, ca, pb, cb, rfl, k3, b3, ha, hb⟩; have l3 := lt_of_block b3; obtain ⟨x0, x1, x2⟩ := box3 b3; have K3 := Lib.hid (And.intro k3 (And.intro ha hb)); clear k3 b3 ha hb)
            | (go_at_call 17; (with_reducible refine (same_eq _ tx d hh _ _ _ _ HNN.out (K3.out.2.1.rd.past ((Turn.refl NoBlock _).alloc _)) (K3.out.2.2.rd.past ((Turn.refl NoBlock _).alloc _)) (HR.out.1.past (K3.out.1.turn.alloc _)) (HR.out.2.past (K3.out.1.turn.alloc _))).mono ?_); rintro e w4 ⟨rfl, t4⟩; have T4 := Lib.hid t4; clear t4))
          go_roundg (i - (k + 1))
          case measure => omega
          case rel => exact ⟨k + 1, by omega, by omega, by go_num, Lib.hid (K3.out.1.past (TT ((Turn.refl NoBlock w3).alloc _) T4.out))⟩
        · obtain rfl : k = i := by omega
          have HE := Lib.hid (show ER w wr c 1 ms ms.length from by rw [HL.out]; exact HT2.out)
          go_wp2_with (first
            | (go_at_call 22; (with_reducible refine (ends_none1 HE.out).mono ?_); rintro e w7 ⟨rfl, t7⟩; have T7 := Lib.hid t7; clear t7)
            | (go_at_call 15; (with_reducible refine (ends_peers1 (HE.out.past (T7.out.alloc _))).mono ?_); rintro e w8 ⟨rfl, t8⟩; have T8 := Lib.hid (TT (T7.out.alloc _) t8); clear t8)
            | (go_at_call 9; (with_reducible refine (cA.out _).mono ?_); rintro e w9 ⟨rfl, t9⟩))
          go_ret
          exact ⟨rfl, TT (TT HE.out.turn T8.out) t9⟩
end Go.Proofs.Ytekbnpocmmfkkaa
