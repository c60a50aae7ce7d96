/-
  FifoEnds' walk. No conditions.
-/
import Derived.Test.YtocaebcbmfejbaaFSeg
import Derived.Deep.LoopGhost
namespace Go.Proofs.Ytocaebcbmfejbaa
open Go.ChangeShapes Go.WideShapes Go.ChangeAt Go.RowKit

def eEl (size i : Nat) : List UInt8 := UInt8.ofNat i :: List.replicate (size - 1) 0
theorem eEl_len {size : Nat} (h : 1 ≤ size) (i : Nat) : (eEl size i).length = size := by unfold eEl; simp; omega
/-- The element that is laid out for round i. -/
theorem eEl_row {w w2 : World} {g size i : Nat} (h1 : 1 ≤ size) (hi : i < 16) (hb : Byts (.slice (some ⟨g, 0, none⟩) size size) (List.replicate size 0) w2) (t : Turn NoBlock w w2) (hg : w.heap.size = g) :
    Byts (.slice (some ⟨g, 0, none⟩) size size) (eEl size i) (w2.setCell ⟨g, 0, none⟩ (.int .u8 (i : Int))) ∧ Turn NoBlock w (w2.setCell ⟨g, 0, none⟩ (.int .u8 (i : Int))) := by
  obtain ⟨e1, e2⟩ := byts_sets (a := 0) (e := [UInt8.ofNat i]) hb (by simp; omega)
  have e3 : overB (List.replicate size (0 : UInt8)) 0 [UInt8.ofNat i] = eEl size i := by
    unfold overB eEl
    simp
  have e4 : w2.setCells g 0 (bcells [UInt8.ofNat i]) = w2.setCell ⟨g, 0, none⟩ (.int .u8 (i : Int)) := by
    have : (UInt8.ofNat i).toNat = i := by rw [UInt8.toNat_ofNat']; omega
    show w2.setCell ⟨g, 0, none⟩ (.int .u8 ((UInt8.ofNat i).toNat : Int)) = _
    rw [this]
  rw [e3, e4] at e1
  rw [e4] at e2
  exact ⟨e1, t.trans e2 (fun k hk => .inr (by omega))⟩
theorem full_16 {size m : Nat} : (m * size) / size ≤ m := Nat.div_le_of_le_mul (by rw [Nat.mul_comm]; exact Nat.le_refl _)
section
variable {w0 w : World} {c size : Nat} {G : Nat → Nat}
theorem en_write0 {w2 : World} {g i : Nat} (h : FSt w0 w c 16 size (eK ⟨true, []⟩ (seg (eEl size) 0 i) 0) G NoBlock) (h1 : 1 ≤ size) (h2 : size ≤ 64) (hi : i < 16) (hg : w.heap.size = g) (hb : Byts (.slice (some ⟨g, 0, none⟩) size size) (List.replicate size 0) w2) (t : Turn NoBlock w w2) :
    Calls Try.prog 41 #[.pointer (some ⟨c, 0, none⟩), .int .i64 0, .slice (some ⟨g, 0, none⟩) size size] (w2.setCell ⟨g, 0, none⟩ (.int .u8 (i : Int))) fun x w' => x = .returned (.tuple #[.int .i64 1, .int .i64 0]) ∧ FSt w0 w' c 16 size (eK ⟨true, []⟩ (seg (eEl size) 0 (i + 1)) 0) G NoBlock := by
  obtain ⟨b1, t1⟩ := eEl_row h1 hi hb t hg
  have hl := h.lay t1 b1 (fun k hk => by have := blk_new hk; omega)
  obtain ⟨r1, r2, r3⟩ := wr_room (count := 16) (s := eK ⟨true, []⟩ (seg (eEl size) 0 i) 0 0) (t := eK ⟨true, []⟩ (seg (eEl size) 0 i) 0 1) (b := eEl size i) (m := i) (k := 1) h1 rfl rfl (seg_len (eEl_len h1) 0 i) (by rw [eEl_len h1, Nat.one_mul]) (by omega) hi
  rw [Nat.min_eq_left (show 1 ≤ 16 - i by omega)] at r2 r3
  refine (hl.write0 b1.rk (by rw [eEl_len h1]; omega) (fun k hk => .inr (.inr hk))).mono ?_
  rintro x w' ⟨rfl, hs, -⟩
  rw [r1, r2]
  refine ⟨rfl, ?_⟩
  have hs2 := hs.none
  unfold wrK at hs2
  rw [show wrE 16 size (eK ⟨true, []⟩ (seg (eEl size) 0 i) 0 0) (eK ⟨true, []⟩ (seg (eEl size) 0 i) 0 (oth 0)) (eEl size i) = _ from r3] at hs2
  unfold eK at hs2 ⊢
  rw [updN_twice] at hs2
  rw [seg_snoc, Nat.zero_add]
  have e5 : (eEl size i).take (1 * size) = eEl size i := List.take_of_length_le (by rw [eEl_len h1]; omega)
  rw [e5] at hs2
  exact hs2
theorem en_close0 {d : List UInt8} (h : FSt w0 w c 16 size (eK ⟨true, []⟩ d 0) G NoBlock) :
    Calls Try.prog 45 #[.pointer (some ⟨c, 0, none⟩), .int .i64 0] w fun x w' => x = .returned (.int .i64 0) ∧ FSt w0 w' c 16 size (eK Re.cl d 0) G NoBlock := by
  refine h.close0.mono ?_
  rintro x w' ⟨rfl, hs, -⟩
  refine ⟨rfl, ?_⟩
  have e1 : clK (eK ⟨true, []⟩ d 0) 0 = eK Re.cl d 0 := by
    unfold clK
    rw [if_pos (show (eK ⟨true, []⟩ d 0 0).op = true from rfl)]
    unfold eK
    rw [updN_comm _ _ _ (show oth 0 ≠ 0 by decide), updN_twice]
  rw [e1] at hs
  exact hs
theorem en_open0 {d : List UInt8} (h : FSt w0 w c 16 size (eK Re.cl d 0) G NoBlock) : Calls Try.prog 48 #[.pointer (some ⟨c, 0, none⟩), .int .i64 0] w fun x w' => x = .returned (.bool false) ∧ w = w' := h.open0
theorem en_len0 {d : List UInt8} (h : FSt w0 w c 16 size (eK Re.cl d 0) G NoBlock) : Calls Try.prog 47 #[.pointer (some ⟨c, 0, none⟩), .int .i64 0] w fun x w' => x = .returned (.int .i64 0) ∧ w = w' := by
  have := h.len0
  rw [show ((eK Re.cl d 0 0).d.length / size : Nat) = 0 from Nat.zero_div _] at this
  exact this
theorem en_read0 {j m : Nat} (h : FSt w0 w c 16 size (eK Re.cl (seg (eEl size) j (m + 1)) 0) G NoBlock) (h1 : 1 ≤ size) (hj : j < 16) :
    Calls Try.prog 43 #[.pointer (some ⟨c, 0, none⟩), .int .i64 1, .int .i64 1] w fun x w' => ∃ g o cap, x = .returned (.tuple #[.slice (some ⟨g, o, none⟩) size cap, .int .i64 0]) ∧ w'.cell? ⟨g, o, none⟩ = some (.int .u8 (j : Int)) ∧ FSt w0 w' c 16 size (eK Re.cl (seg (eEl size) (j + 1) m) 0) G NoBlock := by
  have hlen := seg_len (eEl_len h1) j (m + 1)
  have hp : 0 < (m + 1) * size := Nat.mul_pos (by omega) h1
  obtain ⟨r1, r2, r3⟩ := rd_some (size := size) (s := eK Re.cl (seg (eEl size) j (m + 1)) 0 1) (t := eK Re.cl (seg (eEl size) j (m + 1)) 0 0) (n := 1) rfl (by omega) (by show 0 < (seg (eEl size) j (m + 1)).length; omega)
  obtain ⟨s1, s2⟩ := seg_take (eEl_len h1) j (m + 1) 1 (by omega)
  rw [seg_one] at s1
  rw [Nat.add_sub_cancel] at s2
  rw [show (eK Re.cl (seg (eEl size) j (m + 1)) 0 1).d = seg (eEl size) j (m + 1) from rfl, show (1 : Int).toNat = 1 from rfl, s1] at r2
  rw [show (eK Re.cl (seg (eEl size) j (m + 1)) 0 1).d = seg (eEl size) j (m + 1) from rfl, show (1 : Int).toNat = 1 from rfl, s2] at r3
  refine (h.read1 1).mono ?_
  rintro x w' ⟨v, rfl, hv, hs, -, -⟩
  rw [r1]
  rw [r2] at hv
  have hv' := hv
  unfold Byts at hv
  rw [eEl_len h1] at hv
  obtain ⟨g, o, cap, rfl, -, -, -, hcell, -⟩ := WRow.shape hv (by omega)
  refine ⟨g, o, cap, rfl, ?_, ?_⟩
  · have := hcell 0 (by omega)
    rw [Nat.add_zero] at this
    rw [this]
    unfold eEl bcells
    rw [List.map_cons, List.getElem?_cons_zero]
    have e6 : (UInt8.ofNat j).toNat = j := by rw [UInt8.toNat_ofNat']; omega
    rw [e6]
  · have hs2 := hs.none
    unfold rdK at hs2
    rw [show rdE size (eK Re.cl (seg (eEl size) j (m + 1)) 0 1) (eK Re.cl (seg (eEl size) j (m + 1)) 0 (oth 1)) 1 = _ from r3] at hs2
    unfold eK at hs2 ⊢
    rw [show oth 0 = 1 from rfl] at hs2 ⊢
    rw [updN_twice] at hs2
    exact hs2
theorem en_none0 {j : Nat} (h : FSt w0 w c 16 size (eK Re.cl (seg (eEl size) j 0) 0) G NoBlock) :
    Calls Try.prog 43 #[.pointer (some ⟨c, 0, none⟩), .int .i64 1, .int .i64 1] w fun x w' => (∃ v, x = .returned (.tuple #[v, .int .i64 (-24)])) ∧ FSt w0 w' c 16 size (eK Re.cl (seg (eEl size) j 0) 0) G NoBlock := by
  refine (h.read1 1).mono ?_
  rintro x w' ⟨v, rfl, hv, hs, -, -⟩
  refine ⟨⟨v, rfl⟩, ?_⟩
  have hs2 := hs.none
  unfold rdK at hs2
  rw [show rdE size (eK Re.cl (seg (eEl size) j 0) 0 1) (eK Re.cl (seg (eEl size) j 0) 0 (oth 1)) 1 = eK Re.cl (seg (eEl size) j 0) 0 1 from rfl, updN_self] at hs2
  exact hs2
theorem en_shut0 {w2 : World} {g j : Nat} (h : FSt w0 w c 16 size (eK Re.cl (seg (eEl size) j 0) 0) G NoBlock) (h1 : 1 ≤ size) (h2 : size ≤ 64) (hg : w.heap.size = g) (hb : Byts (.slice (some ⟨g, 0, none⟩) size size) (List.replicate size 0) w2) (t : Turn NoBlock w w2) :
    Calls Try.prog 41 #[.pointer (some ⟨c, 0, none⟩), .int .i64 1, .slice (some ⟨g, 0, none⟩) size size] w2 fun x w' => x = .returned (.tuple #[.int .i64 0, .int .i64 (-24)]) ∧ FSt w0 w' c 16 size (eK Re.cl (seg (eEl size) j 0) 0) G NoBlock := by
  have hl := h.lay t hb (fun k hk => by have := blk_new hk; omega)
  have hs0 : wrS 16 size (eK Re.cl (seg (eEl size) j 0) 0 1) (eK Re.cl (seg (eEl size) j 0) 0 0) (List.replicate size 0) = -24 := by
    unfold wrS
    rw [if_neg (show ¬ (eK Re.cl (seg (eEl size) j 0) 0 1).op = false from fun h => by cases h), if_neg (by rw [List.length_replicate, Nat.mod_self]; omega), if_pos (show (eK Re.cl (seg (eEl size) j 0) 0 0).op = false from rfl)]
  refine (hl.write1 hb.rk (by rw [List.length_replicate]; omega) (fun k hk => .inr (.inr hk))).mono ?_
  rintro x w' ⟨rfl, hs, -⟩
  have hn0 : wrN 16 size (eK Re.cl (seg (eEl size) j 0) 0 1) (eK Re.cl (seg (eEl size) j 0) 0 0) (List.replicate size 0) = 0 := by unfold wrN; rw [if_neg (by rw [hs0]; decide)]
  rw [hs0, hn0]
  refine ⟨rfl, ?_⟩
  have hs2 := hs.none
  unfold wrK wrE at hs2
  rw [show oth 1 = 0 from rfl, if_neg (by rw [hs0]; decide), updN_self] at hs2
  exact hs2
theorem en_shows0 {j : Nat} (h : FSt w0 w c 16 size (eK Re.cl (seg (eEl size) j 0) 0) G NoBlock) : Calls Try.prog 49 #[.pointer (some ⟨c, 0, none⟩), .int .i64 1] w fun x w' => x = .returned (.int .i64 4) ∧ Turn NoBlock w w' := by
  have := h.shows1
  rw [show shF 16 size (eK Re.cl (seg (eEl size) j 0) 0 1) (eK Re.cl (seg (eEl size) j 0) 0 0) = 4 from rfl] at this
  exact this
set_option maxRecDepth 20000 in
set_option maxHeartbeats 4000000 in
theorem ends_walk0 (size n : Nat) (w : World) (h1 : 1 ≤ size) (h2 : size ≤ 64) (hn : n ≤ 16) : Calls Try.prog 8 #[.int .i64 (size : Int), .int .i64 (n : Int), .int .i64 0] w fun e w' => e = .returned (.bool true) ∧ Turn NoBlock w w' := by
  have cA := Lib.hid awake13
  obtain ⟨c, hc⟩ : ∃ c, w.heap.size = c := ⟨_, rfl⟩
  have c1 := fnew_yes 16 size w (by unfold good; refine ⟨by omega, by omega, by omega, by omega, by decide, by omega⟩)
  rw [hc, show ((16 : Nat) : Int) = 16 from rfl] at c1
  have cN := Lib.hid c1
  have MS := Lib.hid (fun W => make_any W size (by omega))
  have HS := Lib.hid (And.intro h1 h2)
  have hn1 : (n : Int) ≤ 16 := by omega
  have hn2 : ¬ (16 : Int) < n := by omega
  have hn0 : ¬ (n : Int) < 0 := by omega
  have hsz : (1 : Int) ≤ size := by omega
  clear hc c1 h1 h2
  go_enter Try.func8, Try.ntmps8
  go_wp2_with (first
    | (go_at_call 38; (with_reducible refine cN.out.mono ?_); rintro x w1 ⟨rfl, G, k1⟩; have K1 := Lib.hid (show FSt w w1 c 16 size (eK ⟨true, []⟩ (seg (eEl size) 0 0) 0) G NoBlock from (by
        have e1 : eK ⟨true, []⟩ (seg (eEl size) 0 0) 0 = fun _ => ⟨true, []⟩ := by
          funext i
          unfold eK updN
          by_cases h1 : i = oth 0 <;> by_cases h2 : i = 0 <;> simp [h1, h2, seg_zero]
        rw [e1]; exact k1)); clear k1))
  go_loopg [53] n (fun z s53 wr => ∃ i : Nat, i ≤ n ∧ z = n - i ∧ s53 = .int .i64 (i : Int) ∧ Hid (FSt w wr c 16 size (eK ⟨true, []⟩ (seg (eEl size) 0 i) 0) G NoBlock))
  case atStart => exact ⟨0, by omega, by omega, rfl, K1⟩
  case round =>
    obtain ⟨i, hi, hz, rfl, HI⟩ := hrel
    by_cases hlt : i < n
    · have hlt1 : (i : Int) < n := by omega
      obtain ⟨W2, hm, hb, ht⟩ := MS.out wr
      obtain ⟨g, hg⟩ : ∃ g, wr.heap.size = g := ⟨_, rfl⟩
      rw [hg] at hm hb
      have hwb : IntKind.u8.wrap (i : Int) = (i : Int) := by
        have e : IntKind.u8.wrap (i : Int) = (i : Int) % 256 := by simp [IntKind.wrap, IntKind.bits, IntKind.signed]
        rw [e]; omega
      have hgl : g < W2.heap.size := (hb.typed (k := g) rfl).lt
      have e0 : W2.cell? ⟨g, 0, none⟩ = some (.int .u8 0) := by
        obtain ⟨g', o, cap, h1, -, -, -, h5, -⟩ := hb.form.resolve_left (fun h => by cases h.1)
        simp only [Value.slice.injEq, Option.some.injEq, Addr.mk.injEq, and_true] at h1
        obtain ⟨⟨rfl, rfl⟩, _, _⟩ := h1
        have := h5 0 (by rw [List.length_replicate]; have := HS.out.1; omega)
        rw [this]
        unfold bcells
        rw [List.getElem?_map, List.getElem?_replicate, if_pos (by have := HS.out.1; omega)]
        rfl
      have e1 := (hb.typed (k := g) rfl).free 0
      have CW := Lib.hid (en_write0 HI.out HS.out.1 HS.out.2 (by omega) hg hb ht)
      have hs0 : 0 < size := HS.out.1
      clear hb ht hg
      go_wp2_with (first
        | (go_at_call 41; (with_reducible refine CW.out.mono ?_); rintro x w3 ⟨rfl, k3⟩; have K3 := Lib.hid k3; clear k3))
      go_roundg (n - (i + 1))
      case measure => omega
      case rel => exact ⟨i + 1, by omega, rfl, by go_num, K3⟩
    · obtain hin : i = n := by omega
      have hlt1 : ¬ (i : Int) < n := by omega
      rw [hin] at HI
      clear hz hi hlt
      go_wp2_with (first
        | (go_at_call 45; (with_reducible refine (en_close0 HI.out).mono ?_); rintro x w4 ⟨rfl, k4⟩; have K4 := Lib.hid k4; clear k4)
        | (go_at_call 48; (with_reducible refine (en_open0 K4.out).mono ?_); rintro x w5 ⟨rfl, rfl⟩)
        | (go_at_call 47; (with_reducible refine (en_len0 K4.out).mono ?_); rintro x w5 ⟨rfl, rfl⟩))
      go_loopg [92] n (fun z s92 wr => ∃ j : Nat, j ≤ n ∧ z = n - j ∧ s92 = .int .i64 (j : Int) ∧ Hid (FSt w wr c 16 size (eK Re.cl (seg (eEl size) j (n - j)) 0) G NoBlock))
      case atStart => exact ⟨0, by omega, by omega, rfl, K4⟩
      case round =>
        obtain ⟨j, hj, hz, rfl, HJ⟩ := hrel
        by_cases hlt : j < n
        · have hlt2 : (j : Int) < n := by omega
          obtain ⟨m, hm⟩ : ∃ m, n - j = m + 1 := ⟨n - j - 1, by omega⟩
          rw [hm] at HJ
          have HM := Lib.hid (show n - (j + 1) = m by omega)
          have hwb : IntKind.u8.wrap (j : Int) = (j : Int) := by
            have e : IntKind.u8.wrap (j : Int) = (j : Int) % 256 := by simp [IntKind.wrap, IntKind.bits, IntKind.signed]
            rw [e]; omega
          have CR := Lib.hid (en_read0 HJ.out HS.out.1 (by omega))
          have hs0 : 0 < size := HS.out.1
          clear hm
          go_wp2_with (first
            | (go_at_call 43; (with_reducible refine CR.out.mono ?_); rintro x w6 ⟨g, o, cap, rfl, e6, k6⟩; have K6 := Lib.hid k6; clear k6))
          go_roundg (n - (j + 1))
          case measure => omega
          case rel => exact ⟨j + 1, by omega, rfl, by go_num, Lib.hid (by rw [HM.out]; exact K6.out)⟩
        · have hlt2 : ¬ (j : Int) < n := by omega
          rw [show n - j = 0 by omega] at HJ
          clear hz hlt
          go_wp2_with (first
            | (go_at_call 43; (with_reducible refine (en_none0 HJ.out).mono ?_); rintro x w6 ⟨⟨v, rfl⟩, k6⟩; have K6 := Lib.hid k6; clear k6; obtain ⟨W7, hm7, hb7, ht7⟩ := MS.out w6; obtain ⟨g7, hg7⟩ : ∃ g7, w6.heap.size = g7 := ⟨_, rfl⟩; rw [hg7] at hm7 hb7; have M7 := Lib.hid (And.intro hg7 (And.intro hb7 ht7)); clear hb7 ht7 hg7)
            | (go_at_call 41; (with_reducible refine (en_shut0 K6.out HS.out.1 HS.out.2 M7.out.1 M7.out.2.1 M7.out.2.2).mono ?_); rintro x w8 ⟨rfl, k8⟩; have K8 := Lib.hid k8; clear k8)
            | (go_at_call 49; (with_reducible refine (en_shows0 K8.out).mono ?_); rintro x w9 ⟨rfl, t9⟩; have T9 := Lib.hid t9; clear t9)
            | (go_at_call 40; (with_reducible refine (cA.out _).mono ?_); rintro x wa ⟨rfl, ta⟩))
          go_ret
          exact ⟨rfl, TT (TT K8.out.turn T9.out) ta⟩
theorem en_write1 {w2 : World} {g i : Nat} (h : FSt w0 w c 16 size (eK ⟨true, []⟩ (seg (eEl size) 0 i) 1) G NoBlock) (h1 : 1 ≤ size) (h2 : size ≤ 64) (hi : i < 16) (hg : w.heap.size = g) (hb : Byts (.slice (some ⟨g, 0, none⟩) size size) (List.replicate size 0) w2) (t : Turn NoBlock w w2) :
    Calls Try.prog 41 #[.pointer (some ⟨c, 0, none⟩), .int .i64 1, .slice (some ⟨g, 0, none⟩) size size] (w2.setCell ⟨g, 0, none⟩ (.int .u8 (i : Int))) fun x w' => x = .returned (.tuple #[.int .i64 1, .int .i64 0]) ∧ FSt w0 w' c 16 size (eK ⟨true, []⟩ (seg (eEl size) 0 (i + 1)) 1) G NoBlock := by
  obtain ⟨b1, t1⟩ := eEl_row h1 hi hb t hg
  have hl := h.lay t1 b1 (fun k hk => by have := blk_new hk; omega)
  obtain ⟨r1, r2, r3⟩ := wr_room (count := 16) (s := eK ⟨true, []⟩ (seg (eEl size) 0 i) 1 1) (t := eK ⟨true, []⟩ (seg (eEl size) 0 i) 1 0) (b := eEl size i) (m := i) (k := 1) h1 rfl rfl (seg_len (eEl_len h1) 0 i) (by rw [eEl_len h1, Nat.one_mul]) (by omega) hi
  rw [Nat.min_eq_left (show 1 ≤ 16 - i by omega)] at r2 r3
  refine (hl.write1 b1.rk (by rw [eEl_len h1]; omega) (fun k hk => .inr (.inr hk))).mono ?_
  rintro x w' ⟨rfl, hs, -⟩
  rw [r1, r2]
  refine ⟨rfl, ?_⟩
  have hs2 := hs.none
  unfold wrK at hs2
  rw [show wrE 16 size (eK ⟨true, []⟩ (seg (eEl size) 0 i) 1 1) (eK ⟨true, []⟩ (seg (eEl size) 0 i) 1 (oth 1)) (eEl size i) = _ from r3] at hs2
  unfold eK at hs2 ⊢
  rw [updN_twice] at hs2
  rw [seg_snoc, Nat.zero_add]
  have e5 : (eEl size i).take (1 * size) = eEl size i := List.take_of_length_le (by rw [eEl_len h1]; omega)
  rw [e5] at hs2
  exact hs2
theorem en_close1 {d : List UInt8} (h : FSt w0 w c 16 size (eK ⟨true, []⟩ d 1) G NoBlock) :
    Calls Try.prog 45 #[.pointer (some ⟨c, 0, none⟩), .int .i64 1] w fun x w' => x = .returned (.int .i64 0) ∧ FSt w0 w' c 16 size (eK Re.cl d 1) G NoBlock := by
  refine h.close1.mono ?_
  rintro x w' ⟨rfl, hs, -⟩
  refine ⟨rfl, ?_⟩
  have e1 : clK (eK ⟨true, []⟩ d 1) 1 = eK Re.cl d 1 := by
    unfold clK
    rw [if_pos (show (eK ⟨true, []⟩ d 1 1).op = true from rfl)]
    unfold eK
    rw [updN_comm _ _ _ (show oth 1 ≠ 1 by decide), updN_twice]
  rw [e1] at hs
  exact hs
theorem en_open1 {d : List UInt8} (h : FSt w0 w c 16 size (eK Re.cl d 1) G NoBlock) : Calls Try.prog 48 #[.pointer (some ⟨c, 0, none⟩), .int .i64 1] w fun x w' => x = .returned (.bool false) ∧ w = w' := h.open1
theorem en_len1 {d : List UInt8} (h : FSt w0 w c 16 size (eK Re.cl d 1) G NoBlock) : Calls Try.prog 47 #[.pointer (some ⟨c, 0, none⟩), .int .i64 1] w fun x w' => x = .returned (.int .i64 0) ∧ w = w' := by
  have := h.len1
  rw [show ((eK Re.cl d 1 1).d.length / size : Nat) = 0 from Nat.zero_div _] at this
  exact this
theorem en_read1 {j m : Nat} (h : FSt w0 w c 16 size (eK Re.cl (seg (eEl size) j (m + 1)) 1) G NoBlock) (h1 : 1 ≤ size) (hj : j < 16) :
    Calls Try.prog 43 #[.pointer (some ⟨c, 0, none⟩), .int .i64 0, .int .i64 1] w fun x w' => ∃ g o cap, x = .returned (.tuple #[.slice (some ⟨g, o, none⟩) size cap, .int .i64 0]) ∧ w'.cell? ⟨g, o, none⟩ = some (.int .u8 (j : Int)) ∧ FSt w0 w' c 16 size (eK Re.cl (seg (eEl size) (j + 1) m) 1) G NoBlock := by
  have hlen := seg_len (eEl_len h1) j (m + 1)
  have hp : 0 < (m + 1) * size := Nat.mul_pos (by omega) h1
  obtain ⟨r1, r2, r3⟩ := rd_some (size := size) (s := eK Re.cl (seg (eEl size) j (m + 1)) 1 0) (t := eK Re.cl (seg (eEl size) j (m + 1)) 1 1) (n := 1) rfl (by omega) (by show 0 < (seg (eEl size) j (m + 1)).length; omega)
  obtain ⟨s1, s2⟩ := seg_take (eEl_len h1) j (m + 1) 1 (by omega)
  rw [seg_one] at s1
  rw [Nat.add_sub_cancel] at s2
  rw [show (eK Re.cl (seg (eEl size) j (m + 1)) 1 0).d = seg (eEl size) j (m + 1) from rfl, show (1 : Int).toNat = 1 from rfl, s1] at r2
  rw [show (eK Re.cl (seg (eEl size) j (m + 1)) 1 0).d = seg (eEl size) j (m + 1) from rfl, show (1 : Int).toNat = 1 from rfl, s2] at r3
  refine (h.read0 1).mono ?_
  rintro x w' ⟨v, rfl, hv, hs, -, -⟩
  rw [r1]
  rw [r2] at hv
  have hv' := hv
  unfold Byts at hv
  rw [eEl_len h1] at hv
  obtain ⟨g, o, cap, rfl, -, -, -, hcell, -⟩ := WRow.shape hv (by omega)
  refine ⟨g, o, cap, rfl, ?_, ?_⟩
  · have := hcell 0 (by omega)
    rw [Nat.add_zero] at this
    rw [this]
    unfold eEl bcells
    rw [List.map_cons, List.getElem?_cons_zero]
    have e6 : (UInt8.ofNat j).toNat = j := by rw [UInt8.toNat_ofNat']; omega
    rw [e6]
  · have hs2 := hs.none
    unfold rdK at hs2
    rw [show rdE size (eK Re.cl (seg (eEl size) j (m + 1)) 1 0) (eK Re.cl (seg (eEl size) j (m + 1)) 1 (oth 0)) 1 = _ from r3] at hs2
    unfold eK at hs2 ⊢
    rw [show oth 1 = 0 from rfl] at hs2 ⊢
    rw [updN_twice] at hs2
    exact hs2
theorem en_none1 {j : Nat} (h : FSt w0 w c 16 size (eK Re.cl (seg (eEl size) j 0) 1) G NoBlock) :
    Calls Try.prog 43 #[.pointer (some ⟨c, 0, none⟩), .int .i64 0, .int .i64 1] w fun x w' => (∃ v, x = .returned (.tuple #[v, .int .i64 (-24)])) ∧ FSt w0 w' c 16 size (eK Re.cl (seg (eEl size) j 0) 1) G NoBlock := by
  refine (h.read0 1).mono ?_
  rintro x w' ⟨v, rfl, hv, hs, -, -⟩
  refine ⟨⟨v, rfl⟩, ?_⟩
  have hs2 := hs.none
  unfold rdK at hs2
  rw [show rdE size (eK Re.cl (seg (eEl size) j 0) 1 0) (eK Re.cl (seg (eEl size) j 0) 1 (oth 0)) 1 = eK Re.cl (seg (eEl size) j 0) 1 0 from rfl, updN_self] at hs2
  exact hs2
theorem en_shut1 {w2 : World} {g j : Nat} (h : FSt w0 w c 16 size (eK Re.cl (seg (eEl size) j 0) 1) G NoBlock) (h1 : 1 ≤ size) (h2 : size ≤ 64) (hg : w.heap.size = g) (hb : Byts (.slice (some ⟨g, 0, none⟩) size size) (List.replicate size 0) w2) (t : Turn NoBlock w w2) :
    Calls Try.prog 41 #[.pointer (some ⟨c, 0, none⟩), .int .i64 0, .slice (some ⟨g, 0, none⟩) size size] w2 fun x w' => x = .returned (.tuple #[.int .i64 0, .int .i64 (-24)]) ∧ FSt w0 w' c 16 size (eK Re.cl (seg (eEl size) j 0) 1) G NoBlock := by
  have hl := h.lay t hb (fun k hk => by have := blk_new hk; omega)
  have hs0 : wrS 16 size (eK Re.cl (seg (eEl size) j 0) 1 0) (eK Re.cl (seg (eEl size) j 0) 1 1) (List.replicate size 0) = -24 := by
    unfold wrS
    rw [if_neg (show ¬ (eK Re.cl (seg (eEl size) j 0) 1 0).op = false from fun h => by cases h), if_neg (by rw [List.length_replicate, Nat.mod_self]; omega), if_pos (show (eK Re.cl (seg (eEl size) j 0) 1 1).op = false from rfl)]
  refine (hl.write0 hb.rk (by rw [List.length_replicate]; omega) (fun k hk => .inr (.inr hk))).mono ?_
  rintro x w' ⟨rfl, hs, -⟩
  have hn0 : wrN 16 size (eK Re.cl (seg (eEl size) j 0) 1 0) (eK Re.cl (seg (eEl size) j 0) 1 1) (List.replicate size 0) = 0 := by unfold wrN; rw [if_neg (by rw [hs0]; decide)]
  rw [hs0, hn0]
  refine ⟨rfl, ?_⟩
  have hs2 := hs.none
  unfold wrK wrE at hs2
  rw [show oth 0 = 1 from rfl, if_neg (by rw [hs0]; decide), updN_self] at hs2
  exact hs2
theorem en_shows1 {j : Nat} (h : FSt w0 w c 16 size (eK Re.cl (seg (eEl size) j 0) 1) G NoBlock) : Calls Try.prog 49 #[.pointer (some ⟨c, 0, none⟩), .int .i64 0] w fun x w' => x = .returned (.int .i64 4) ∧ Turn NoBlock w w' := by
  have := h.shows0
  rw [show shF 16 size (eK Re.cl (seg (eEl size) j 0) 1 0) (eK Re.cl (seg (eEl size) j 0) 1 1) = 4 from rfl] at this
  exact this
set_option maxRecDepth 20000 in
set_option maxHeartbeats 4000000 in
theorem ends_walk1 (size n : Nat) (w : World) (h1 : 1 ≤ size) (h2 : size ≤ 64) (hn : n ≤ 16) : Calls Try.prog 8 #[.int .i64 (size : Int), .int .i64 (n : Int), .int .i64 1] w fun e w' => e = .returned (.bool true) ∧ Turn NoBlock w w' := by
  have cA := Lib.hid awake13
  obtain ⟨c, hc⟩ : ∃ c, w.heap.size = c := ⟨_, rfl⟩
  have c1 := fnew_yes 16 size w (by unfold good; refine ⟨by omega, by omega, by omega, by omega, by decide, by omega⟩)
  rw [hc, show ((16 : Nat) : Int) = 16 from rfl] at c1
  have cN := Lib.hid c1
  have MS := Lib.hid (fun W => make_any W size (by omega))
  have HS := Lib.hid (And.intro h1 h2)
  have hn1 : (n : Int) ≤ 16 := by omega
  have hn2 : ¬ (16 : Int) < n := by omega
  have hn0 : ¬ (n : Int) < 0 := by omega
  have hsz : (1 : Int) ≤ size := by omega
  clear hc c1 h1 h2
  go_enter Try.func8, Try.ntmps8
  go_wp2_with (first
    | (go_at_call 38; (with_reducible refine cN.out.mono ?_); rintro x w1 ⟨rfl, G, k1⟩; have K1 := Lib.hid (show FSt w w1 c 16 size (eK ⟨true, []⟩ (seg (eEl size) 0 0) 1) G NoBlock from (by
        have e1 : eK ⟨true, []⟩ (seg (eEl size) 0 0) 1 = fun _ => ⟨true, []⟩ := by
          funext i
          unfold eK updN
          by_cases h1 : i = oth 1 <;> by_cases h2 : i = 1 <;> simp [h1, h2, seg_zero]
        rw [e1]; exact k1)); clear k1))
  go_loopg [53] n (fun z s53 wr => ∃ i : Nat, i ≤ n ∧ z = n - i ∧ s53 = .int .i64 (i : Int) ∧ Hid (FSt w wr c 16 size (eK ⟨true, []⟩ (seg (eEl size) 0 i) 1) G NoBlock))
  case atStart => exact ⟨0, by omega, by omega, rfl, K1⟩
  case round =>
    obtain ⟨i, hi, hz, rfl, HI⟩ := hrel
    by_cases hlt : i < n
    · have hlt1 : (i : Int) < n := by omega
      obtain ⟨W2, hm, hb, ht⟩ := MS.out wr
      obtain ⟨g, hg⟩ : ∃ g, wr.heap.size = g := ⟨_, rfl⟩
      rw [hg] at hm hb
      have hwb : IntKind.u8.wrap (i : Int) = (i : Int) := by
        have e : IntKind.u8.wrap (i : Int) = (i : Int) % 256 := by simp [IntKind.wrap, IntKind.bits, IntKind.signed]
        rw [e]; omega
      have hgl : g < W2.heap.size := (hb.typed (k := g) rfl).lt
      have e0 : W2.cell? ⟨g, 0, none⟩ = some (.int .u8 0) := by
        obtain ⟨g', o, cap, h1, -, -, -, h5, -⟩ := hb.form.resolve_left (fun h => by cases h.1)
        simp only [Value.slice.injEq, Option.some.injEq, Addr.mk.injEq, and_true] at h1
        obtain ⟨⟨rfl, rfl⟩, _, _⟩ := h1
        have := h5 0 (by rw [List.length_replicate]; have := HS.out.1; omega)
        rw [this]
        unfold bcells
        rw [List.getElem?_map, List.getElem?_replicate, if_pos (by have := HS.out.1; omega)]
        rfl
      have e1 := (hb.typed (k := g) rfl).free 0
      have CW := Lib.hid (en_write1 HI.out HS.out.1 HS.out.2 (by omega) hg hb ht)
      have hs0 : 0 < size := HS.out.1
      clear hb ht hg
      go_wp2_with (first
        | (go_at_call 41; (with_reducible refine CW.out.mono ?_); rintro x w3 ⟨rfl, k3⟩; have K3 := Lib.hid k3; clear k3))
      go_roundg (n - (i + 1))
      case measure => omega
      case rel => exact ⟨i + 1, by omega, rfl, by go_num, K3⟩
    · obtain hin : i = n := by omega
      have hlt1 : ¬ (i : Int) < n := by omega
      rw [hin] at HI
      clear hz hi hlt
      go_wp2_with (first
        | (go_at_call 45; (with_reducible refine (en_close1 HI.out).mono ?_); rintro x w4 ⟨rfl, k4⟩; have K4 := Lib.hid k4; clear k4)
        | (go_at_call 48; (with_reducible refine (en_open1 K4.out).mono ?_); rintro x w5 ⟨rfl, rfl⟩)
        | (go_at_call 47; (with_reducible refine (en_len1 K4.out).mono ?_); rintro x w5 ⟨rfl, rfl⟩))
      go_loopg [92] n (fun z s92 wr => ∃ j : Nat, j ≤ n ∧ z = n - j ∧ s92 = .int .i64 (j : Int) ∧ Hid (FSt w wr c 16 size (eK Re.cl (seg (eEl size) j (n - j)) 1) G NoBlock))
      case atStart => exact ⟨0, by omega, by omega, rfl, K4⟩
      case round =>
        obtain ⟨j, hj, hz, rfl, HJ⟩ := hrel
        by_cases hlt : j < n
        · have hlt2 : (j : Int) < n := by omega
          obtain ⟨m, hm⟩ : ∃ m, n - j = m + 1 := ⟨n - j - 1, by omega⟩
          rw [hm] at HJ
          have HM := Lib.hid (show n - (j + 1) = m by omega)
          have hwb : IntKind.u8.wrap (j : Int) = (j : Int) := by
            have e : IntKind.u8.wrap (j : Int) = (j : Int) % 256 := by simp [IntKind.wrap, IntKind.bits, IntKind.signed]
            rw [e]; omega
          have CR := Lib.hid (en_read1 HJ.out HS.out.1 (by omega))
          have hs0 : 0 < size := HS.out.1
          clear hm
          go_wp2_with (first
            | (go_at_call 43; (with_reducible refine CR.out.mono ?_); rintro x w6 ⟨g, o, cap, rfl, e6, k6⟩; have K6 := Lib.hid k6; clear k6))
          go_roundg (n - (j + 1))
          case measure => omega
          case rel => exact ⟨j + 1, by omega, rfl, by go_num, Lib.hid (by rw [HM.out]; exact K6.out)⟩
        · have hlt2 : ¬ (j : Int) < n := by omega
          rw [show n - j = 0 by omega] at HJ
          clear hz hlt
          go_wp2_with (first
            | (go_at_call 43; (with_reducible refine (en_none1 HJ.out).mono ?_); rintro x w6 ⟨⟨v, rfl⟩, k6⟩; have K6 := Lib.hid k6; clear k6; obtain ⟨W7, hm7, hb7, ht7⟩ := MS.out w6; obtain ⟨g7, hg7⟩ : ∃ g7, w6.heap.size = g7 := ⟨_, rfl⟩; rw [hg7] at hm7 hb7; have M7 := Lib.hid (And.intro hg7 (And.intro hb7 ht7)); clear hb7 ht7 hg7)
            | (go_at_call 41; (with_reducible refine (en_shut1 K6.out HS.out.1 HS.out.2 M7.out.1 M7.out.2.1 M7.out.2.2).mono ?_); rintro x w8 ⟨rfl, k8⟩; have K8 := Lib.hid k8; clear k8)
            | (go_at_call 49; (with_reducible refine (en_shows1 K8.out).mono ?_); rintro x w9 ⟨rfl, t9⟩; have T9 := Lib.hid t9; clear t9)
            | (go_at_call 40; (with_reducible refine (cA.out _).mono ?_); rintro x wa ⟨rfl, ta⟩))
          go_ret
          exact ⟨rfl, TT (TT K8.out.turn T9.out) ta⟩
end
set_option maxRecDepth 20000 in
set_option maxHeartbeats 2000000 in
theorem ends_no (a b e : Int) (w : World) (h : a < 1 ∨ 64 < a) : Calls Try.prog 8 #[.int .i64 a, .int .i64 b, .int .i64 e] w fun x w' => x = .returned (.bool true) ∧ Turn NoBlock w w' := by
  have cA := Lib.hid awake13
  have cN := Lib.hid (fnew_no 16 a w (by unfold good; omega))
  rcases h with h | h
  all_goals
    go_enter Try.func8, Try.ntmps8
    go_wp2_with (first
      | (go_at_call 38; (with_reducible refine cN.out.mono ?_); rintro x w1 ⟨rfl, rfl⟩)
      | (go_at_call 40; (with_reducible refine (cA.out _).mono ?_); rintro x w3 ⟨rfl, t3⟩))
    go_ret
    exact ⟨rfl, t3⟩
set_option maxRecDepth 20000 in
set_option maxHeartbeats 2000000 in
theorem ends_past (size : Nat) (b e : Int) (w : World) (h1 : 1 ≤ size) (h2 : size ≤ 64) (h : b < 0 ∨ (0 ≤ b ∧ 16 < b) ∨ (0 ≤ b ∧ b ≤ 16 ∧ e ≠ 0 ∧ e ≠ 1)) : Calls Try.prog 8 #[.int .i64 (size : Int), .int .i64 b, .int .i64 e] w fun x w' => x = .returned (.bool true) ∧ Turn NoBlock w w' := by
  have cA := Lib.hid awake13
  have c1 := fnew_yes 16 size w (by unfold good; refine ⟨by omega, by omega, by omega, by omega, by decide, by omega⟩)
  rw [show ((16 : Nat) : Int) = 16 from rfl] at c1
  have cN := Lib.hid c1
  clear c1
  rcases h with h | ⟨h0, h⟩ | ⟨h0, h3, h4, h5⟩
  · go_enter Try.func8, Try.ntmps8
    go_wp2_with (first
      | (go_at_call 38; (with_reducible refine cN.out.mono ?_); rintro x w1 ⟨rfl, G, k1⟩; have K1 := Lib.hid k1.turn; clear k1)
      | (go_at_call 40; (with_reducible refine (cA.out _).mono ?_); rintro x w3 ⟨rfl, t3⟩))
    go_ret
    exact ⟨rfl, TT K1.out t3⟩
  · go_enter Try.func8, Try.ntmps8
    go_wp2_with (first
      | (go_at_call 38; (with_reducible refine cN.out.mono ?_); rintro x w1 ⟨rfl, G, k1⟩; have K1 := Lib.hid k1.turn; clear k1)
      | (go_at_call 40; (with_reducible refine (cA.out _).mono ?_); rintro x w3 ⟨rfl, t3⟩))
    go_ret
    exact ⟨rfl, TT K1.out t3⟩
  · have b4 : (e != 0) = true := bne_iff_ne.2 h4
    have b5 : (e != 1) = true := bne_iff_ne.2 h5
    go_enter Try.func8, Try.ntmps8
    go_wp2_with (first
      | (go_at_call 38; (with_reducible refine cN.out.mono ?_); rintro x w1 ⟨rfl, G, k1⟩; have K1 := Lib.hid k1.turn; clear k1)
      | (go_at_call 40; (with_reducible refine (cA.out _).mono ?_); rintro x w3 ⟨rfl, t3⟩))
    go_ret
    exact ⟨rfl, TT K1.out t3⟩
end Go.Proofs.Ytocaebcbmfejbaa
