/-
  FifoOwn's walk. No conditions but that the bytes can be read.
-/
import Derived.Test.YtocaebcbmfejbaaFElem
import Derived.Test.YtocaebcbmfejbaaFView
import Derived.Deep.LoopGhost
namespace Go.Proofs.Ytocaebcbmfejbaa
open Go.ChangeShapes Go.WideShapes Go.ChangeAt Go.RowKit

section
variable {w0 w : World} {c size : Nat} {G : Nat → Nat} {X : Nat → Prop} {b : List UInt8}
theorem ow_write {i : Nat} {v : Value} (h : FSt w0 w c 4 size (eK ⟨true, []⟩ (seg (fun _ => b) 0 i) 0) G X) (h1 : 1 ≤ size) (h2 : size ≤ 64) (hbl : b.length = size) (hi : i < 4) (hb : Byts v b w) (hv : ∀ j, Blk v j → X j) :
    Calls Try.prog 41 #[.pointer (some ⟨c, 0, none⟩), .int .i64 0, v] w fun x w' => x = .returned (.tuple #[.int .i64 1, .int .i64 0]) ∧ FSt w0 w' c 4 size (eK ⟨true, []⟩ (seg (fun _ => b) 0 (i + 1)) 0) G X ∧ Kp X w w' := by
  have d1 : (eK ⟨true, []⟩ (seg (fun _ => b) 0 i) 0 1).d = seg (fun _ => b) 0 i := rfl
  obtain ⟨r1, r2, r3⟩ := wr_room (count := 4) (s := eK ⟨true, []⟩ (seg (fun _ => b) 0 i) 0 0) (t := eK ⟨true, []⟩ (seg (fun _ => b) 0 i) 0 1) (b := b) (m := i) (k := 1) h1 rfl rfl (by rw [d1]; exact seg_len (fun _ => hbl) 0 i) (by rw [hbl, Nat.one_mul]) (by omega) hi
  rw [Nat.min_eq_left (show 1 ≤ 4 - i by omega)] at r2 r3
  refine (h.write0 hb.rk (by omega) (fun k hk => .inr (hv k hk))).mono ?_
  rintro x w' ⟨rfl, hs, hk⟩
  rw [r1, r2]
  refine ⟨rfl, ?_, hk⟩
  unfold wrK at hs
  rw [show wrE 4 size (eK ⟨true, []⟩ (seg (fun _ => b) 0 i) 0 0) (eK ⟨true, []⟩ (seg (fun _ => b) 0 i) 0 (oth 0)) b = _ from r3] at hs
  unfold eK at hs ⊢
  rw [updN_twice] at hs
  rw [seg_snoc]
  have e5 : b.take (1 * size) = b := List.take_of_length_le (by omega)
  rw [e5] at hs
  exact hs
theorem ow_read {j m : Nat} (h : FSt w0 w c 4 size (eK ⟨true, []⟩ (seg (fun _ => b) j (m + 1)) 0) G X) (h1 : 1 ≤ size) (hbl : b.length = size) :
    Calls Try.prog 43 #[.pointer (some ⟨c, 0, none⟩), .int .i64 1, .int .i64 1] w fun x w' => ∃ g o cap, x = .returned (.tuple #[.slice (some ⟨g, o, none⟩) size cap, .int .i64 0]) ∧ Byts (.slice (some ⟨g, o, none⟩) size cap) b w' ∧ w.heap.size ≤ g ∧ FSt w0 w' c 4 size (eK ⟨true, []⟩ (seg (fun _ => b) (j + 1) m) 0) G (fun k => X k ∨ k = g) ∧ Kp X w w' := by
  have hlen := seg_len (fun _ => hbl : ∀ i : Nat, ((fun _ => b) i : List UInt8).length = size) j (m + 1)
  have hp : 0 < (m + 1) * size := Nat.mul_pos (by omega) h1
  have d1 : (eK ⟨true, []⟩ (seg (fun _ => b) j (m + 1)) 0 1).d = seg (fun _ => b) j (m + 1) := rfl
  obtain ⟨r1, r2, r3⟩ := rd_some (size := size) (s := eK ⟨true, []⟩ (seg (fun _ => b) j (m + 1)) 0 1) (t := eK ⟨true, []⟩ (seg (fun _ => b) j (m + 1)) 0 0) (n := 1) rfl (by omega) (by rw [d1, hlen]; exact hp)
  obtain ⟨s1, s2⟩ := seg_take (fun _ => hbl : ∀ i : Nat, ((fun _ => b) i : List UInt8).length = size) j (m + 1) 1 (by omega)
  rw [seg_one] at s1
  rw [Nat.add_sub_cancel] at s2
  rw [d1, show (1 : Int).toNat = 1 from rfl, s1] at r2
  rw [d1, show (1 : Int).toNat = 1 from rfl, s2] at r3
  refine (h.read1 1).mono ?_
  rintro x w' ⟨v, rfl, hv, hs, hk, hf⟩
  rw [r1]
  rw [r2] at hv
  have hv' := hv
  unfold Byts at hv
  rw [hbl] at hv
  obtain ⟨g, o, cap, rfl, -⟩ := WRow.shape hv (by omega)
  refine ⟨g, o, cap, rfl, hv', hf g rfl, ?_, hk⟩
  have hs2 := hs.fewer (Y := fun k => X k ∨ k = g) (fun k hk => hk.imp id (fun e => by subst e; rfl))
  unfold rdK at hs2
  rw [show rdE size (eK ⟨true, []⟩ (seg (fun _ => b) j (m + 1)) 0 1) (eK ⟨true, []⟩ (seg (fun _ => b) j (m + 1)) 0 (oth 1)) 1 = _ from r3] at hs2
  unfold eK at hs2 ⊢
  rw [show oth 0 = 1 from rfl] at hs2 ⊢
  rw [updN_twice] at hs2
  exact hs2
theorem ow_len {j : Nat} (h : FSt w0 w c 4 size (eK ⟨true, []⟩ (seg (fun _ => b) j 0) 0) G X) : Calls Try.prog 47 #[.pointer (some ⟨c, 0, none⟩), .int .i64 1] w fun x w' => x = .returned (.int .i64 0) ∧ w = w' := by
  have := h.len1
  rw [show ((eK ⟨true, []⟩ (seg (fun _ => b) j 0) 0 1).d.length / size : Nat) = 0 from Nat.zero_div _] at this
  exact this
end
theorem blk_at {g o n cap k : Nat} (h : Blk (.slice (some ⟨g, o, none⟩) n cap) k) : k = g := by simpa [Blk, Value.ownBlock, eq_comm] using h
theorem off_lt {g g2 o n cap k : Nat} (h1 : k = g2) (h2 : Blk (.slice (some ⟨g, o, none⟩) n cap) k) (hlt : g2 < g) : False := by
  have := blk_at h2
  omega
theorem row_cut {w : World} {g o n cap : Nat} {bs : List UInt8} (h : Byts (.slice (some ⟨g, o, none⟩) n cap) bs w) : WRow w 5 1 (.slice (some ⟨g, o, none⟩) 0 cap) 0 [] := by
  obtain ⟨g', o', cap', h1, h2, h3, h4, -, h6⟩ := h.form.resolve_left (fun h => by cases h.1)
  simp only [Value.slice.injEq, Option.some.injEq, Addr.mk.injEq, and_true] at h1
  obtain ⟨⟨rfl, rfl⟩, _, rfl⟩ := h1
  exact ⟨rfl, .inr ⟨g, o, cap, rfl, Nat.zero_le _, h3, h4, (fun j hj => by omega), h6⟩⟩
/-- One byte more by one. -/
theorem byts_inc {w : World} {g o n cap j : Nat} {bs : List UInt8} (h : Byts (.slice (some ⟨g, o, none⟩) n cap) bs w) (hj : j < bs.length) :
    ∃ y : Int, (∃ x : Int, w.cell? ⟨g, o + j, none⟩ = some (.int .u8 x) ∧ IntKind.u8.wrap (x + 1) = y) ∧ (0 ≤ y ∧ y < 256) ∧ ∃ bs' : List UInt8, bs'.length = bs.length ∧ Byts (.slice (some ⟨g, o, none⟩) n cap) bs' (w.setCell ⟨g, o + j, none⟩ (.int .u8 y)) ∧ Turn (fun k => k = g) w (w.setCell ⟨g, o + j, none⟩ (.int .u8 y)) := by
  obtain ⟨g', o', cap', h1, h2, h3, h4, h5, h6⟩ := h.form.resolve_left (fun h => by cases h.1)
  simp only [Value.slice.injEq, Option.some.injEq, Addr.mk.injEq, and_true] at h1
  obtain ⟨⟨rfl, rfl⟩, rfl, rfl⟩ := h1
  obtain ⟨y, hy⟩ : ∃ y : Nat, ((bs[j].toNat : Int) + 1) % 256 = (y : Int) := ⟨(((bs[j].toNat : Int) + 1) % 256).toNat, by omega⟩
  have hy2 : y < 256 := by omega
  refine ⟨(y : Int), ⟨(bs[j].toNat : Int), ?_, by rw [wrap_u8]; exact hy⟩, ⟨by omega, by omega⟩, bs.set j (UInt8.ofNat y), List.length_set, ?_, (Turn.refl (fun k => k = g) w).setCell (p := ⟨g, o + j, none⟩) (.inl rfl) _⟩
  · rw [h5 j (by omega)]
    unfold bcells
    rw [List.getElem?_map, List.getElem?_eq_getElem hj]
    rfl
  · unfold Byts
    rw [List.length_set]
    have hcell : ∀ i, (w.setCell ⟨g, o + j, none⟩ (.int .u8 (y : Int))).cell? ⟨g, o + i, none⟩ = if i = j then some (.int .u8 (y : Int)) else w.cell? ⟨g, o + i, none⟩ := by
      intro i
      by_cases hij : i = j
      · subst hij
        rw [if_pos rfl]
        exact World.cell?_setCell_same' _ _ _ (h6 i (by omega))
      · rw [if_neg hij, cell_set_other (by omega)]
    refine ⟨by rw [bcells_len, List.length_set, Nat.mul_one], .inr ⟨g, o, cap, rfl, h2, h3, h4.set _ _ _, fun i hi => ?_, fun i hi => ?_⟩⟩
    · rw [hcell]
      unfold bcells
      rw [List.getElem?_map, List.getElem?_set]
      by_cases hij : i = j
      · subst hij
        rw [if_pos rfl, if_pos rfl, if_pos hj]
        have : (UInt8.ofNat y).toNat = y := by rw [UInt8.toNat_ofNat']; omega
        rw [Option.map_some, this]
      · rw [if_neg hij, if_neg (fun e => hij e.symm), h5 i hi]
        unfold bcells
        rw [List.getElem?_map]
    · rw [hcell]
      by_cases hij : i = j
      · rw [if_pos hij]; rfl
      · rw [if_neg hij]; exact h6 i hi
set_option maxRecDepth 20000 in
set_option maxHeartbeats 2000000 in
theorem own_no (a : Int) (p : Option Addr) (len cap : Nat) (w : World) (h : a < 1 ∨ 64 < a) : Calls Try.prog 9 #[.int .i64 a, .slice p len cap] w fun x w' => x = .returned (.bool true) ∧ Turn NoBlock w w' := by
  have cA := Lib.hid awake13
  have cN := Lib.hid (fnew_no 4 a w (by unfold good; omega))
  rcases h with h | h
  all_goals
    go_enter Try.func9, Try.ntmps9
    go_wp2_with (first
      | (go_at_call 38; (with_reducible refine cN.out.mono ?_); rintro x w1 ⟨rfl, rfl⟩)
      | (go_at_call 40; (with_reducible refine (cA.out _).mono ?_); rintro x w3 ⟨rfl, t3⟩))
    go_ret
    exact ⟨rfl, t3⟩
theorem new4 (size : Nat) (w : World) (h1 : 1 ≤ size) (h2 : size ≤ 64) : Calls Try.prog 38 #[.int .i64 4, .int .i64 (size : Int)] w fun x w' => x = .returned (.pointer (some ⟨w.heap.size, 0, none⟩)) ∧ ∃ G, FSt w w' w.heap.size 4 size (fun _ => ⟨true, []⟩) G NoBlock := by
  have c1 := fnew_yes 4 size w (by unfold good; refine ⟨by omega, by omega, by omega, by omega, by decide, by omega⟩)
  rwa [show ((4 : Nat) : Int) = 4 from rfl] at c1
set_option maxRecDepth 20000 in
set_option maxHeartbeats 2000000 in
theorem own_len (size : Nat) (p : Option Addr) (len cap : Nat) (w : World) (h1 : 1 ≤ size) (h2 : size ≤ 64) (h : len ≠ size) : Calls Try.prog 9 #[.int .i64 (size : Int), .slice p len cap] w fun x w' => x = .returned (.bool true) ∧ Turn NoBlock w w' := by
  have cA := Lib.hid awake13
  have cN := Lib.hid (new4 size w h1 h2)
  have hne : ((len : Int) != (size : Int)) = true := by rw [bne_iff_ne]; omega
  go_enter Try.func9, Try.ntmps9
  go_wp2_with (first
    | (go_at_call 38; (with_reducible refine cN.out.mono ?_); rintro x w1 ⟨rfl, G, k1⟩; have K1 := Lib.hid k1.turn; clear k1)
    | (go_at_call 40; (with_reducible refine (cA.out _).mono ?_); rintro x w3 ⟨rfl, t3⟩))
  go_ret
  exact ⟨rfl, TT K1.out t3⟩
set_option maxRecDepth 20000 in
set_option maxHeartbeats 8000000 in
theorem own_walk (size : Nat) (p : Option Addr) (cap : Nat) (b : List UInt8) (w : World) (h1 : 1 ≤ size) (h2 : size ≤ 64) (hbl : b.length = size) (hr : Rk w (.slice p size cap) b) : Calls Try.prog 9 #[.int .i64 (size : Int), .slice p size cap] w fun x w' => x = .returned (.bool true) ∧ Turn NoBlock w w' := by
  have cA := Lib.hid awake13
  obtain ⟨i5, hi5, hz5, hs5, hb5⟩ := info_parts infoB
  have HI5 := Lib.hid (And.intro hi5 (And.intro hz5 (And.intro hs5 hb5)))
  obtain ⟨c, hc⟩ : ∃ c, w.heap.size = c := ⟨_, rfl⟩
  have c1 := new4 size w h1 h2
  rw [hc] at c1
  have cN := Lib.hid c1
  have HS := Lib.hid (And.intro h1 (And.intro h2 hbl))
  have HR := Lib.hid hr
  have hsz1 : (size : Int) ≤ 64 := by omega
  clear hc c1 h1 h2 hr hi5 hz5 hs5 hb5 hbl
  go_enter Try.func9, Try.ntmps9
  go_wp2_with (first
    | (go_at_call 38; (with_reducible refine cN.out.mono ?_); rintro x w1 ⟨rfl, G, k1⟩; have K1 := Lib.hid (show FSt w w1 c 4 size (eK ⟨true, []⟩ (seg (fun _ => b) 0 0) 0) G NoBlock from (by
        have e1 : eK ⟨true, []⟩ (seg (fun _ => b) 0 0) 0 = fun _ => ⟨true, []⟩ := by
          funext i
          unfold eK updN
          by_cases h1 : i = oth 0 <;> by_cases h2 : i = 0 <;> simp [h1, h2, seg_zero]
        rw [e1]; exact k1)); clear k1)
    | (go_at_call 24; (with_reducible refine (copy11 _ _ b (HR.out.rz.past K1.out.turn) (by have := HS.out; omega)).mono ?_); rintro x w2 ⟨v2, rfl, b2, n2, t2⟩; have K2 := Lib.hid (K1.out.lay t2 b2 n2); obtain ⟨g2, o2, c2, hv2, -⟩ := WRow.shape (show WRow w2 5 1 v2 b.length (bcells b) from b2) (by have := HS.out; omega); rw [HS.out.2.2] at hv2; subst hv2; have HB2 := Lib.hid (And.intro b2 (show c + 1 ≤ w1.heap.size ∧ w1.heap.size ≤ g2 from ⟨K1.out.mem.typ.lt, n2 g2 rfl⟩)); clear b2 n2))
  have K3 := Lib.hid (K2.out.fewer (Y := fun k => k = g2) (fun k hk => .inr (by subst hk; rfl)))
  have HX := Lib.hid (show ∀ k, Blk (.slice (some ⟨g2, o2, none⟩) size c2) k → k = g2 from fun k hk => by simpa [Blk, Value.ownBlock, eq_comm] using hk)
  clear K2
  go_loopg [37] 3 (fun z s37 wr => ∃ i : Nat, i ≤ 3 ∧ z = 3 - i ∧ s37 = .int .i64 (i : Int) ∧ Hid (FSt w wr c 4 size (eK ⟨true, []⟩ (seg (fun _ => b) 0 i) 0) G (fun k => k = g2)) ∧ Hid (Byts (.slice (some ⟨g2, o2, none⟩) size c2) b wr))
  case atStart => exact ⟨0, by omega, by omega, rfl, K3, Lib.hid HB2.out.1⟩
  case round =>
    obtain ⟨i, hi, hz, rfl, HF, HB⟩ := hrel
    by_cases hlt : i < 3
    · have hlt1 : (i : Int) < 3 := by omega
      have CW := Lib.hid (ow_write HF.out HS.out.1 HS.out.2.1 HS.out.2.2 (by omega) HB.out (fun k hk => HX.out k hk))
      go_wp2_with (go_at_call 41; (with_reducible refine CW.out.mono ?_); rintro x w3 ⟨rfl, k3, kp3⟩; have K4 := Lib.hid k3; have HB4 := Lib.hid (show Byts (.slice (some ⟨g2, o2, none⟩) size c2) b w3 from kp3.row HB.out (fun k hk => HX.out k hk)); clear k3 kp3)
      go_roundg (3 - (i + 1))
      case measure => omega
      case rel => exact ⟨i + 1, by omega, rfl, by go_num, K4, HB4⟩
    · have hi3 : i = 3 := by omega
      have hlt1 : ¬ (i : Int) < 3 := by omega
      rw [hi3] at HF
      clear hz hi hlt hi3
      go_wp2
      go_loopg [54] size (fun z s54 wr => ∃ (j : Nat) (d : List UInt8), j ≤ size ∧ z = size - j ∧ s54 = .int .i64 (j : Int) ∧ Hid (FSt w wr c 4 size (eK ⟨true, []⟩ (seg (fun _ => b) 0 3) 0) G (fun k => k = g2)) ∧ Hid (Byts (.slice (some ⟨g2, o2, none⟩) size c2) d wr ∧ d.length = size))
      case atStart => exact ⟨0, b, by omega, by omega, rfl, HF, Lib.hid ⟨HB.out, HS.out.2.2⟩⟩
      case round =>
        obtain ⟨j, d, hj, hz, rfl, HF2, HD⟩ := hrel
        by_cases hlt : j < size
        · have hlt2 : (j : Int) < size := by omega
          obtain ⟨y, hy1, hy2, hput⟩ := byts_inc HD.out.1 (by rw [HD.out.2]; exact hlt)
          obtain ⟨xv, hc0, hw0⟩ := hy1
          obtain ⟨d2, hd1, hd2, hd3⟩ := hput
          have f0 := (WRow.typed HD.out.1 (k := g2) rfl).free (o2 + j)
          have K5 := Lib.hid (HF2.out.more (Y := fun k => k = g2) hd3 (fun k hk => .inl hk) (fun k hk => by have := HB2.out.2; have := K1.out.turn.size; omega))
          have HD5 := Lib.hid (And.intro hd2 (hd1.trans HD.out.2))
          clear hd1 hd2 hd3
          go_wp2
          go_roundg (size - (j + 1))
          case measure => omega
          case rel => exact ⟨j + 1, d2, by omega, rfl, by go_num, K5, HD5⟩
        · have hlt2 : ¬ (j : Int) < size := by omega
          clear hz hlt
          go_wp2
          go_loopg [64] 3 (fun z s64 wr => ∃ i : Nat, i ≤ 3 ∧ z = 3 - i ∧ s64 = .int .i64 (i : Int) ∧ Hid (FSt w wr c 4 size (eK ⟨true, []⟩ (seg (fun _ => b) i (3 - i)) 0) G (fun k => k = g2)) ∧ Hid (Byts (.slice (some ⟨g2, o2, none⟩) size c2) d wr))
          case atStart => exact ⟨0, by omega, by omega, rfl, HF2, Lib.hid HD.out.1⟩
          case round =>
            obtain ⟨i3, hi, hz, rfl, HF3, HD3⟩ := hrel
            by_cases hlt : i3 < 3
            · have hlt3 : (i3 : Int) < 3 := by omega
              obtain ⟨m, hm⟩ : ∃ m, 3 - i3 = m + 1 := ⟨3 - i3 - 1, by omega⟩
              rw [hm] at HF3
              have HM := Lib.hid (show 3 - (i3 + 1) = m by omega)
              have CR := Lib.hid (ow_read HF3.out HS.out.1 HS.out.2.2)
              clear hm
              go_wp2_with (first
                | (go_at_call 43; (with_reducible refine CR.out.mono ?_); rintro x w6 ⟨g6, o6, c6, rfl, b6, n6, k6, kp6⟩; have B6 := Lib.hid b6; have K6 := Lib.hid k6; have HD6 := Lib.hid (show Byts (.slice (some ⟨g2, o2, none⟩) size c2) d w6 from kp6.row HD3.out (fun k hk => HX.out k hk)); have HN6 := Lib.hid (show g2 < g6 ∧ w.heap.size ≤ g6 from ⟨by have := (WRow.typed HD3.out (k := g2) rfl).lt; omega, by have := HF3.out.turn.size; omega⟩); have hs6 := sl_hi 35 1 elem_bytes size_bytes g6 o6 size c6 0 (Nat.zero_le _); rw [show ((0 : Nat) : Int) = 0 from rfl] at hs6; have RC6 := Lib.hid (row_cut b6); have SD6 := Lib.hid (Rd.src (Byts.rd HD6.out) 35 5 bytesT (bcells_one _)); have q1 : 0 + d.length ≤ maxLen := (by have := HD.out.2; have := HS.out; unfold maxLen; omega); have q2 : (0 + d.length) * 1 ≤ 140737488355328 := (by have := HD.out.2; have := HS.out; omega); have HQ := Lib.hid (And.intro q1 q2); clear b6 n6 k6 kp6 q1 q2)
                | (go_at_call 27; (with_reducible refine (same7 _ _ _ b B6.out.rd (HR.out.rz.past K6.out.turn)).mono ?_); rintro y w7 ⟨rfl, rfl⟩)
                | (go_at_call 27; (with_reducible refine (same7 _ _ _ d R8.out.rd HD8.out.rd.rz).mono ?_); rintro y w9 ⟨rfl, rfl⟩)
                | (at_builtin; refine wpList_append_w rfl (.tmp 80) (.tmp 81) 35 35 rfl RC6.out i5 _ 1 bytesT HI5.out.1 HI5.out.2.1 HI5.out.2.2.1 HI5.out.2.2.2 rfl rfl rfl SD6.out HQ.out.1 HQ.out.2 ?_; intro v8 W8 r8 t8 k8; obtain ⟨p8, c8, rfl⟩ := r8.sl; have R8 := Lib.hid (show Byts (.slice p8 d.length c8) d W8 from (by rw [Nat.zero_add, List.nil_append] at r8; exact r8)); have T8 := Lib.hid t8; have HD8 := Lib.hid (show Byts (.slice (some ⟨g2, o2, none⟩) size c2) d W8 from HD6.out.kept t8 (fun k hk hk' => off_lt (HX.out k hk) hk' HN6.out.1)); have K8 := Lib.hid (K6.out.more (Y := fun k => k = g2) (t8.mono (G := fun k => k = g2 ∨ k = g6) (fun k hk => .inl (.inr (blk_at hk)))) (fun k hk => .inl (.inl hk)) (fun k hk => hk.elim (fun e => (by have := HB2.out.2; have := K1.out.turn.size; omega)) (fun e => (by have := HN6.out.2; omega)))); clear r8 t8 k8))
              go_roundg (3 - (i3 + 1))
              case measure => omega
              case rel => exact ⟨i3 + 1, by omega, rfl, by go_num, by rw [HM.out]; exact K8, HD8⟩
            · have hlt3 : ¬ (i3 : Int) < 3 := by omega
              rw [show 3 - i3 = 0 by omega] at HF3
              go_wp2_with (first
                | (go_at_call 47; (with_reducible refine (ow_len HF3.out).mono ?_); rintro x w6 ⟨rfl, rfl⟩)
                | (go_at_call 40; (with_reducible refine (cA.out _).mono ?_); rintro x w9 ⟨rfl, t9⟩))
              go_ret
              exact ⟨rfl, TT HF3.out.turn t9⟩
end Go.Proofs.Ytocaebcbmfejbaa
