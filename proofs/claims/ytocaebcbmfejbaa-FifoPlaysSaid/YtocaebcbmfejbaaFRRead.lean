/-
  What the reference's Read answers, and what it makes of its fifo. No conditions but that the reference's fifo is one that calls can make.
-/
import Derived.Test.YtocaebcbmfejbaaFRWrite
namespace Go.Proofs.Ytocaebcbmfejbaa
open Go.ChangeShapes Go.WideShapes Go.ChangeAt Go.RowKit

theorem wrow_drop {w : World} {e size g o n c : Nat} {xs : List Value} (h : WRow w e size (.slice (some ⟨g, o, none⟩) n c) n xs) {l : Nat} (hl : l ≤ n) {D : Option Addr} (hD1 : l < c → D = some ⟨g, o + l * size, none⟩) (hD2 : c = l → D = some ⟨g, o, none⟩) :
    WRow w e size (.slice D (n - l) (c - l)) (n - l) (xs.drop (l * size)) ∧ ∀ k, Blk (.slice D (n - l) (c - l)) k → k = g := by
  rcases h.form with ⟨h1, -⟩ | ⟨g', o', c', he, h1, h2, h3, h4, h5⟩
  · simp at h1
  · simp only [Value.slice.injEq, Option.some.injEq, Addr.mk.injEq, and_true, true_and] at he
    obtain ⟨⟨rfl, rfl⟩, rfl⟩ := he
    have hlen : (xs.drop (l * size)).length = (n - l) * size := by rw [List.length_drop, h.len, Nat.sub_mul]
    have hls : l * size ≤ n * size := Nat.mul_le_mul_right _ hl
    by_cases hc : c = l
    · have hn : n - l = 0 := by omega
      rw [hD2 hc]
      refine ⟨⟨hlen, .inr ⟨g, o, c - l, rfl, by omega, by omega, h3, fun j hj => ?_, fun j hj => ?_⟩⟩, fun k hk => by simp [Blk, Value.ownBlock] at hk; exact hk.symm⟩
      · rw [hn] at hj; simp at hj
      · rw [show c - l = 0 by omega] at hj; simp at hj
    · rw [hD1 (by omega)]
      have e1 : (n - l) * size + l * size = n * size := by rw [← Nat.add_mul]; congr 1; omega
      have e2 : (c - l) * size + l * size = c * size := by rw [← Nat.add_mul]; congr 1; omega
      refine ⟨⟨hlen, .inr ⟨g, o + l * size, c - l, rfl, by omega, by omega, h3, fun j hj => ?_, fun j hj => ?_⟩⟩, fun k hk => by simp [Blk, Value.ownBlock] at hk; exact hk.symm⟩
      · rw [Nat.add_assoc, h4 _ (by omega), List.getElem?_drop]
      · rw [Nat.add_assoc]; exact h5 _ (by omega)
theorem pcs_cell {w : World} {g o c : Nat} {l : Pcs} (h : WRow w 35 1 (.slice (some ⟨g, o, none⟩) l.length c) l.length (pv l)) {j : Nat} {q : Value × List UInt8} (hq : l[j]? = some q) : w.cell? ⟨g, o + j, none⟩ = some q.1 := by
  have hj := (List.getElem?_eq_some_iff.1 hq).1
  obtain ⟨g', o', c', he, -, -, -, hc, -⟩ := h.shape (by omega)
  simp only [Value.slice.injEq, Option.some.injEq, Addr.mk.injEq, and_true, true_and] at he
  obtain ⟨⟨rfl, rfl⟩, rfl⟩ := he
  rw [hc j (by omega)]
  unfold pv
  rw [List.getElem?_map, hq]
  rfl
theorem pcs_shape {w : World} {v : Value} {l : Pcs} (h : WRow w 35 1 v l.length (pv l)) (h0 : 0 < l.length) : ∃ g o c, v = .slice (some ⟨g, o, none⟩) l.length c ∧ l.length ≤ c := by
  obtain ⟨g, o, c, hv, h1, -⟩ := h.shape h0
  exact ⟨g, o, c, hv, h1⟩
theorem Out.app {w0 w W : World} {v v' : Value} {bs b : List UInt8} (h : Out w0 w v bs) (hr : WRow W 5 1 v' (bs.length + b.length) (bcells bs ++ bcells b)) (t8 : Turn (Blk v) w W) (k8 : ∀ k, Blk v' k → Blk v k ∨ (k = w.heap.size ∧ k < W.heap.size)) : Out w0 W v' (bs ++ b) := by
  refine ⟨?_, h.turn.trans t8 (fun k hk => .inr (h.mine k hk)), fun k hk => ?_⟩
  · unfold Byts
    rw [List.length_append, show bcells (bs ++ b) = bcells bs ++ bcells b by simp [bcells]]
    exact hr
  · rcases k8 k hk with h1 | h1
    · exact h.mine k h1
    · have := h.turn.size; omega
/-- A row's tail. -/
theorem QAt.dropQ {w w1 : World} {x count size e : Nat} {C : Nat → Bool} {U : Nat → Value} {Q : Nat → Pcs} (h : QAt w x count size C U Q) (he : e < 2) (t : Turn NoBlock w w1) {g o c m : Nat} (hu : U e = .slice (some ⟨g, o, none⟩) (Q e).length c) (hm : m ≤ (Q e).length) {E : Option Addr} (hE1 : m < c → E = some ⟨g, o + m * 1, none⟩) (hE2 : c = m → E = some ⟨g, o, none⟩) : QMade w (w1.setCell ⟨x, e, none⟩ (.slice E ((Q e).length - m) (c - m))) x count size C U Q (updN Q e ((Q e).drop m)) := by
  have hr := (h.row e he).past t
  rw [hu] at hr
  obtain ⟨hr2, hk⟩ := wrow_drop hr hm hE1 hE2
  refine h.made (l := (Q e).drop m) he (TU t) (by rw [List.length_drop, show pv ((Q e).drop m) = (pv (Q e)).drop (m * 1) by simp [pv, List.map_drop]]; exact hr2) (fun q hq => ?_) (fun k h1 => .inl (by rw [hu, hk k h1]; simp [Blk, Value.ownBlock]))
  have hq2 := List.mem_of_mem_drop hq
  exact ⟨(h.rd e he q hq2).past t, fun k hk => .inl ⟨q, hq2, hk⟩⟩
section
variable {w : World} {x count size : Nat} {C : Nat → Bool} {U : Nat → Value} {Q : Nat → Pcs}
set_option maxRecDepth 20000 in
set_option maxHeartbeats 2000000 in
theorem qread0 (h : QAt w x count size C U Q) (hc : C 0 = false) (h2 : size ≤ 64) (n : Nat) (hn : (n : Int) ≤ 9223372036854775807) (hn1 : 1 ≤ n) (hpos : 0 < (Q 0).length) (hqs : ∀ q ∈ Q 0, q.2.length = size) (hql : (Q 0).length ≤ 1024) (m : Nat) (hm : m = min n (Q 0).length) :
    Calls Try.prog 44 #[.pointer (some ⟨x, 0, none⟩), .int .i64 0, .int .i64 (n : Int)] w fun y w' => ∃ v, y = .returned (.tuple #[v, .int .i64 0]) ∧ Byts v (pb ((Q 0).take m)) w' ∧ QMade w w' x count size C U Q (updN Q 0 ((Q 0).drop m)) := by
  obtain ⟨i5, hi5, hz5, hs5, hb5⟩ := info_parts infoB
  have HI5 := Lib.hid (And.intro hi5 (And.intro hz5 (And.intro hs5 hb5)))
  have CK := Lib.hid (show Calls Try.prog 85 #[.pointer (some ⟨x, 0, none⟩), .int .i64 0] w fun y w' => y = .returned (.int .i64 0) ∧ w = w' from qcheck0 h false hc)
  obtain ⟨g, o, ca, hv, hca⟩ := pcs_shape (h.row 0 (by omega)) hpos
  have hr := h.row 0 (by omega)
  have hcell := hr
  rw [hv] at hcell
  have c0 : w.cell? ⟨x, 0, none⟩ = some (U 0) := h.cw 0 (by omega)
  rw [hv] at c0
  have hnn : ¬ (n : Int) < 1 := by omega
  have hl0 : ((((Q 0).length : Nat) : Int) == 0) = false := by rw [beq_eq_false_iff_ne]; omega
  have hl1 : (((Q 0).length : Nat) : Int) ≤ 1024 := by omega
  have hl2 : (0 : Int) < (((Q 0).length : Nat) : Int) := by omega
  have hmi : (m : Int) ≤ 1024 := by omega
  obtain ⟨E, hE, hE1, hE2⟩ := sl_lo 57 1 elem_bytess size_bytess g o (Q 0).length ca m (by omega) hca
  have hsl := hE
  have HE := Lib.hid (And.intro hE1 hE2)
  have HM := Lib.hid (And.intro h (And.intro hv (And.intro hpos (And.intro hcell (And.intro hm (And.intro hqs h2))))))
  have f0 := h.f 0
  have lx := h.typ.lt
  have C0 := Lib.hid c0
  have TYX := Lib.hid (fun W (t : Turn NoBlock w W) => h.typ.kept t (fun h => h))
  have hmle : m ≤ (Q 0).length := by omega
  obtain ⟨ln, hln⟩ : ∃ ln, (Q 0).length = ln := ⟨_, rfl⟩
  rw [hln] at hsl hl0 hl1 hl2 C0 hmle
  have HLN := Lib.hid hln
  have HMLE := Lib.hid (And.intro hmle (show m ≤ 1024 by omega))
  clear h hc hr hcell hv hql hm hE hE1 hE2 hln hpos hca c0 hn1 hqs hmle h2 hi5 hz5 hs5 hb5
  have c0 := C0.out
  go_enter Try.func44, Try.ntmps44
  go_wp2_with (go_at_call 85; (with_reducible refine CK.out.mono ?_); rintro y w' ⟨rfl, rfl⟩)
  go_loopg [9, 10] m (fun g' s9 s10 wr => ∃ (j lo : Nat) (p9 : Option Addr) (c9 : Nat), j ≤ m ∧ g' = m - j ∧ s9 = .slice p9 lo c9 ∧ s10 = .int .i64 j ∧ Hid (Out w wr (.slice p9 lo c9) (pb ((Q 0).take j)) ∧ (pb ((Q 0).take j)).length = lo ∧ lo = j * size))
  case atStart => exact ⟨0, 0, none, 0, by omega, by omega, rfl, rfl, Lib.hid ⟨⟨byts_nil _, Turn.refl _ _, fun k hk => (blk_nil k hk).elim⟩, rfl, by omega⟩⟩
  case round =>
    obtain ⟨j, lo, p9, c9, hj, hg, rfl, rfl, HS⟩ := hrel
    have c0 := HS.out.1.turn.cell C0.out (fun h => h)
    by_cases hlt : j < m
    · have hjb : j < ln := by have := HMLE.out.1; omega
      have hjn : j < n := by have := HM.out.2.2.2.2.1; omega
      have hji : (j : Int) < (ln : Int) := by omega
      have hjni : (j : Int) < (n : Int) := by omega
      obtain ⟨q, hq⟩ : ∃ q, (Q 0)[j]? = some q := ⟨_, List.getElem?_eq_getElem (by rw [HLN.out]; exact hjb)⟩
      have hqm := List.mem_of_getElem? hq
      have hq1 := HM.out.2.2.2.2.2.1 q hqm
      have hqb := (HM.out.1.rd 0 (by omega) q hqm).past HS.out.1.turn
      have d0 := pcs_cell HM.out.2.2.2.1 hq
      have d0 := HS.out.1.turn.cell d0 (fun h => h)
      obtain ⟨p2, c2, he2⟩ := WRow.sl hqb
      rw [hq1] at he2
      rw [he2] at d0
      have SRC := Lib.hid (show Src Try.prog 1 35 (.slice p2 size c2) q.2.length (bcells q.2) wr from he2 ▸ Rd.src (Byts.rd hqb) 35 5 bytesT (bcells_one _))
      have ROW := Lib.hid (show WRow wr 5 1 (.slice p9 lo c9) lo (bcells (pb ((Q 0).take j))) by have := HS.out.1.row; unfold Byts at this; rw [HS.out.2.1] at this; exact this)
      have hmul : j * size ≤ 1024 * 64 := Nat.mul_le_mul (by have := HMLE.out.2; omega) HM.out.2.2.2.2.2.2
      have LB := Lib.hid (show lo + q.2.length ≤ maxLen ∧ (lo + q.2.length) * 1 ≤ 140737488355328 by have := HS.out.2.2; have := HM.out.2.2.2.2.2.2; unfold maxLen; omega)
      have HZ := Lib.hid (show pb ((Q 0).take (j + 1)) = pb ((Q 0).take j) ++ q.2 ∧ q.2.length = size from ⟨by
        rw [List.take_add_one, hq, pb_app]
        simp [pb], hq1⟩)
      clear he2 hjb hjn hq hqm hq1 hqb hmul
      go_wp2_with (at_builtin; refine wpList_append_w rfl (.tmp 48) (.tmp 57) 35 35 rfl ROW.out i5 _ 1 bytesT HI5.out.1 HI5.out.2.1 HI5.out.2.2.1 HI5.out.2.2.2 rfl rfl rfl SRC.out LB.out.1 LB.out.2 ?_; intro v8 W8 r8 t8 k8; obtain ⟨p8, c8', rfl⟩ := r8.sl; have R8 := Lib.hid (And.intro r8 (And.intro t8 k8)); clear r8 t8 k8)
      go_roundg (m - (j + 1))
      case measure => omega
      case rel =>
        refine ⟨j + 1, lo + q.2.length, p8, c8', by omega, by omega, rfl, by go_num, Lib.hid ?_⟩
        rw [HZ.out.1]
        exact ⟨Out.app HS.out.1 (by rw [HS.out.2.1]; exact R8.out.1) R8.out.2.1 R8.out.2.2, by rw [List.length_append, HS.out.2.1], by rw [HS.out.2.2, HZ.out.2, Nat.add_mul, Nat.one_mul]⟩
    · obtain rfl : j = m := by omega
      have two : (n : Int) = (j : Int) ∨ ((j : Int) < (n : Int) ∧ (ln : Int) = (j : Int)) := by have := HM.out.2.2.2.2.1; have := HLN.out; omega
      have fin : ∀ W, Turn NoBlock wr W → QMade w (W.setCell ⟨x, 0, none⟩ (.slice E (ln - j) (ca - j))) x count size C U Q (updN Q 0 ((Q 0).drop j)) := fun W t => by
        have := HM.out.1.dropQ (e := 0) (m := j) (by omega) (TT HS.out.1.turn t) HM.out.2.1 (by rw [HLN.out]; exact HMLE.out.1) HE.out.1 HE.out.2
        rw [HLN.out] at this
        exact this
      have FIN := Lib.hid fin
      have hnx : ∀ k, Blk (.slice p9 lo c9) k → ¬ k = x := fun k hk e => by have := HS.out.1.mine k hk; have := HM.out.1.typ.lt; omega
      have HNX := Lib.hid hnx
      have fx := (TYX.out _ HS.out.1.turn).free 0
      have lx2 := (TYX.out _ HS.out.1.turn).lt
      have hjl : (j : Int) ≤ (ln : Int) := by have := HMLE.out.1; omega
      clear fin hnx
      rcases two with h5e | ⟨h5, h6e⟩
      · have h7 : ¬ (j : Int) < (n : Int) := by omega
        clear h5e
        go_wp2
        go_region
        go_wp2
        go_ret2
        exact ⟨_, rfl, (HS.out.1.row.past (Turn.refl NoBlock wr).drew).kept ((Turn.refl (fun k => k = x) _).setCell (p := ⟨x, 0, none⟩) (.inl rfl) _) HNX.out, FIN.out _ (Turn.refl NoBlock wr).drew⟩
      · have h7 : ¬ (j : Int) < (ln : Int) := by omega
        clear h6e
        go_wp2
        go_region
        go_wp2
        go_ret2
        exact ⟨_, rfl, (HS.out.1.row.past (Turn.refl NoBlock wr).drew).kept ((Turn.refl (fun k => k = x) _).setCell (p := ⟨x, 0, none⟩) (.inl rfl) _) HNX.out, FIN.out _ (Turn.refl NoBlock wr).drew⟩
set_option maxRecDepth 20000 in
set_option maxHeartbeats 2000000 in
theorem qread1 (h : QAt w x count size C U Q) (hc : C 1 = false) (h2 : size ≤ 64) (n : Nat) (hn : (n : Int) ≤ 9223372036854775807) (hn1 : 1 ≤ n) (hpos : 0 < (Q 1).length) (hqs : ∀ q ∈ Q 1, q.2.length = size) (hql : (Q 1).length ≤ 1024) (m : Nat) (hm : m = min n (Q 1).length) :
    Calls Try.prog 44 #[.pointer (some ⟨x, 0, none⟩), .int .i64 1, .int .i64 (n : Int)] w fun y w' => ∃ v, y = .returned (.tuple #[v, .int .i64 0]) ∧ Byts v (pb ((Q 1).take m)) w' ∧ QMade w w' x count size C U Q (updN Q 1 ((Q 1).drop m)) := by
  obtain ⟨i5, hi5, hz5, hs5, hb5⟩ := info_parts infoB
  have HI5 := Lib.hid (And.intro hi5 (And.intro hz5 (And.intro hs5 hb5)))
  have CK := Lib.hid (show Calls Try.prog 85 #[.pointer (some ⟨x, 0, none⟩), .int .i64 1] w fun y w' => y = .returned (.int .i64 0) ∧ w = w' from qcheck1 h false hc)
  obtain ⟨g, o, ca, hv, hca⟩ := pcs_shape (h.row 1 (by omega)) hpos
  have hr := h.row 1 (by omega)
  have hcell := hr
  rw [hv] at hcell
  have c0 : w.cell? ⟨x, 1, none⟩ = some (U 1) := h.cw 1 (by omega)
  rw [hv] at c0
  have hnn : ¬ (n : Int) < 1 := by omega
  have hl0 : ((((Q 1).length : Nat) : Int) == 0) = false := by rw [beq_eq_false_iff_ne]; omega
  have hl1 : (((Q 1).length : Nat) : Int) ≤ 1024 := by omega
  have hl2 : (0 : Int) < (((Q 1).length : Nat) : Int) := by omega
  have hmi : (m : Int) ≤ 1024 := by omega
  obtain ⟨E, hE, hE1, hE2⟩ := sl_lo 57 1 elem_bytess size_bytess g o (Q 1).length ca m (by omega) hca
  have hsl := hE
  have HE := Lib.hid (And.intro hE1 hE2)
  have HM := Lib.hid (And.intro h (And.intro hv (And.intro hpos (And.intro hcell (And.intro hm (And.intro hqs h2))))))
  have f0 := h.f 1
  have lx := h.typ.lt
  have C0 := Lib.hid c0
  have TYX := Lib.hid (fun W (t : Turn NoBlock w W) => h.typ.kept t (fun h => h))
  have hmle : m ≤ (Q 1).length := by omega
  obtain ⟨ln, hln⟩ : ∃ ln, (Q 1).length = ln := ⟨_, rfl⟩
  rw [hln] at hsl hl0 hl1 hl2 C0 hmle
  have HLN := Lib.hid hln
  have HMLE := Lib.hid (And.intro hmle (show m ≤ 1024 by omega))
  clear h hc hr hcell hv hql hm hE hE1 hE2 hln hpos hca c0 hn1 hqs hmle h2 hi5 hz5 hs5 hb5
  have c0 := C0.out
  go_enter Try.func44, Try.ntmps44
  go_wp2_with (go_at_call 85; (with_reducible refine CK.out.mono ?_); rintro y w' ⟨rfl, rfl⟩)
  go_loopg [9, 10] m (fun g' s9 s10 wr => ∃ (j lo : Nat) (p9 : Option Addr) (c9 : Nat), j ≤ m ∧ g' = m - j ∧ s9 = .slice p9 lo c9 ∧ s10 = .int .i64 j ∧ Hid (Out w wr (.slice p9 lo c9) (pb ((Q 1).take j)) ∧ (pb ((Q 1).take j)).length = lo ∧ lo = j * size))
  case atStart => exact ⟨0, 0, none, 0, by omega, by omega, rfl, rfl, Lib.hid ⟨⟨byts_nil _, Turn.refl _ _, fun k hk => (blk_nil k hk).elim⟩, rfl, by omega⟩⟩
  case round =>
    obtain ⟨j, lo, p9, c9, hj, hg, rfl, rfl, HS⟩ := hrel
    have c0 := HS.out.1.turn.cell C0.out (fun h => h)
    by_cases hlt : j < m
    · have hjb : j < ln := by have := HMLE.out.1; omega
      have hjn : j < n := by have := HM.out.2.2.2.2.1; omega
      have hji : (j : Int) < (ln : Int) := by omega
      have hjni : (j : Int) < (n : Int) := by omega
      obtain ⟨q, hq⟩ : ∃ q, (Q 1)[j]? = some q := ⟨_, List.getElem?_eq_getElem (by rw [HLN.out]; exact hjb)⟩
      have hqm := List.mem_of_getElem? hq
      have hq1 := HM.out.2.2.2.2.2.1 q hqm
      have hqb := (HM.out.1.rd 1 (by omega) q hqm).past HS.out.1.turn
      have d0 := pcs_cell HM.out.2.2.2.1 hq
      have d0 := HS.out.1.turn.cell d0 (fun h => h)
      obtain ⟨p2, c2, he2⟩ := WRow.sl hqb
      rw [hq1] at he2
      rw [he2] at d0
      have SRC := Lib.hid (show Src Try.prog 1 35 (.slice p2 size c2) q.2.length (bcells q.2) wr from he2 ▸ Rd.src (Byts.rd hqb) 35 5 bytesT (bcells_one _))
      have ROW := Lib.hid (show WRow wr 5 1 (.slice p9 lo c9) lo (bcells (pb ((Q 1).take j))) by have := HS.out.1.row; unfold Byts at this; rw [HS.out.2.1] at this; exact this)
      have hmul : j * size ≤ 1024 * 64 := Nat.mul_le_mul (by have := HMLE.out.2; omega) HM.out.2.2.2.2.2.2
      have LB := Lib.hid (show lo + q.2.length ≤ maxLen ∧ (lo + q.2.length) * 1 ≤ 140737488355328 by have := HS.out.2.2; have := HM.out.2.2.2.2.2.2; unfold maxLen; omega)
      have HZ := Lib.hid (show pb ((Q 1).take (j + 1)) = pb ((Q 1).take j) ++ q.2 ∧ q.2.length = size from ⟨by
        rw [List.take_add_one, hq, pb_app]
        simp [pb], hq1⟩)
      clear he2 hjb hjn hq hqm hq1 hqb hmul
      go_wp2_with (at_builtin; refine wpList_append_w rfl (.tmp 48) (.tmp 57) 35 35 rfl ROW.out i5 _ 1 bytesT HI5.out.1 HI5.out.2.1 HI5.out.2.2.1 HI5.out.2.2.2 rfl rfl rfl SRC.out LB.out.1 LB.out.2 ?_; intro v8 W8 r8 t8 k8; obtain ⟨p8, c8', rfl⟩ := r8.sl; have R8 := Lib.hid (And.intro r8 (And.intro t8 k8)); clear r8 t8 k8)
      go_roundg (m - (j + 1))
      case measure => omega
      case rel =>
        refine ⟨j + 1, lo + q.2.length, p8, c8', by omega, by omega, rfl, by go_num, Lib.hid ?_⟩
        rw [HZ.out.1]
        exact ⟨Out.app HS.out.1 (by rw [HS.out.2.1]; exact R8.out.1) R8.out.2.1 R8.out.2.2, by rw [List.length_append, HS.out.2.1], by rw [HS.out.2.2, HZ.out.2, Nat.add_mul, Nat.one_mul]⟩
    · obtain rfl : j = m := by omega
      have two : (n : Int) = (j : Int) ∨ ((j : Int) < (n : Int) ∧ (ln : Int) = (j : Int)) := by have := HM.out.2.2.2.2.1; have := HLN.out; omega
      have fin : ∀ W, Turn NoBlock wr W → QMade w (W.setCell ⟨x, 1, none⟩ (.slice E (ln - j) (ca - j))) x count size C U Q (updN Q 1 ((Q 1).drop j)) := fun W t => by
        have := HM.out.1.dropQ (e := 1) (m := j) (by omega) (TT HS.out.1.turn t) HM.out.2.1 (by rw [HLN.out]; exact HMLE.out.1) HE.out.1 HE.out.2
        rw [HLN.out] at this
        exact this
      have FIN := Lib.hid fin
      have hnx : ∀ k, Blk (.slice p9 lo c9) k → ¬ k = x := fun k hk e => by have := HS.out.1.mine k hk; have := HM.out.1.typ.lt; omega
      have HNX := Lib.hid hnx
      have fx := (TYX.out _ HS.out.1.turn).free 1
      have lx2 := (TYX.out _ HS.out.1.turn).lt
      have hjl : (j : Int) ≤ (ln : Int) := by have := HMLE.out.1; omega
      clear fin hnx
      rcases two with h5e | ⟨h5, h6e⟩
      · have h7 : ¬ (j : Int) < (n : Int) := by omega
        clear h5e
        go_wp2
        go_region
        go_wp2
        go_ret2
        exact ⟨_, rfl, (HS.out.1.row.past (Turn.refl NoBlock wr).drew).kept ((Turn.refl (fun k => k = x) _).setCell (p := ⟨x, 1, none⟩) (.inl rfl) _) HNX.out, FIN.out _ (Turn.refl NoBlock wr).drew⟩
      · have h7 : ¬ (j : Int) < (ln : Int) := by omega
        clear h6e
        go_wp2
        go_region
        go_wp2
        go_ret2
        exact ⟨_, rfl, (HS.out.1.row.past (Turn.refl NoBlock wr).drew).kept ((Turn.refl (fun k => k = x) _).setCell (p := ⟨x, 1, none⟩) (.inl rfl) _) HNX.out, FIN.out _ (Turn.refl NoBlock wr).drew⟩
end
end Go.Proofs.Ytocaebcbmfejbaa
