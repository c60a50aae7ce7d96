/-
  What the reference's check, Len and put answer. No conditions but that the reference's socket is one that calls can make.
-/
import Derived.Test.YtocaebcbmfejbaaRKMod
import Derived.Deep.LoopGhost
import Derived.Deep.RegionLaw
namespace Go.Proofs.Ytocaebcbmfejbaa
open Go.ChangeShapes Go.WideShapes Go.ChangeAt Go.RowKit

theorem rcheck_bad (x : Nat) (e : Int) (w : World) (h0 : e ≠ 0) (h1 : e ≠ 1) :
    Calls Try.prog 75 #[.pointer (some ⟨x, 0, none⟩), .int .i64 e] w fun y w' => y = .returned (.int .i64 (-10)) ∧ w = w' := by
  have b0 : (e != 0) = true := bne_iff_ne.2 h0
  have b1 : (e != 1) = true := bne_iff_ne.2 h1
  go_enter Try.func75, Try.ntmps75
  go_wp2
  go_ret
  exact ⟨rfl, rfl⟩
/-- A slice of slices, its first cells. -/
theorem pcs_cell {w : World} {g o c : Nat} {l : Pcs} (h : WRow w 35 1 (.slice (some ⟨g, o, none⟩) l.length c) l.length (pv l)) {j : Nat} {q : Value × List UInt8} (hq : l[j]? = some q) : w.cell? ⟨g, o + j, none⟩ = some q.1 := by
  have hj := (List.getElem?_eq_some_iff.1 hq).1
  obtain ⟨g', o', c', he, -, -, -, hc, -⟩ := h.shape (by omega)
  simp only [Value.slice.injEq, Option.some.injEq, Addr.mk.injEq, and_true, true_and] at he
  obtain ⟨⟨rfl, rfl⟩, rfl⟩ := he
  rw [hc j (by omega)]
  unfold pv
  rw [List.getElem?_map, hq]
  rfl
theorem pcs_shape {w : World} {v : Value} {l : Pcs} (h : WRow w 35 1 v l.length (pv l)) (h0 : 0 < l.length) : ∃ g o c, v = .slice (some ⟨g, o, none⟩) l.length c ∧ l.length ≤ c := by
  obtain ⟨g, o, c, hv, h1, -⟩ := h.shape h0
  exact ⟨g, o, c, hv, h1⟩
section
variable {w : World} {x room : Nat} {dg : Bool} {C M D : Nat → Bool} {U : Nat → Value} {Q : Nat → Pcs}
theorem rcheck0 (h : RAt w x dg room C M D U Q) (b : Bool) (hb : C 0 = b) :
    Calls Try.prog 75 #[.pointer (some ⟨x, 0, none⟩), .int .i64 0] w fun y w' => y = .returned (.int .i64 (if b then -24 else 0)) ∧ w = w' := by
  have c0 : w.cell? ⟨x, 2 + 0, none⟩ = some (.bool (C 0)) := h.cc 0 (by omega)
  rw [hb] at c0
  clear h hb
  simp only [Nat.reduceAdd] at c0
  cases b
  all_goals
    go_enter Try.func75, Try.ntmps75
    go_wp2
    go_ret
    exact ⟨rfl, rfl⟩
set_option maxRecDepth 20000 in
set_option maxHeartbeats 1000000 in
theorem rlen0 (h : RAt w x dg room C M D U Q) (hn : (pb (Q 0)).length ≤ 2000000) (hq : (Q 0).length ≤ 2000000) :
    Calls Try.prog 33 #[.pointer (some ⟨x, 0, none⟩), .int .i64 0] w fun y w' => y = .returned (.int .i64 ((pb (Q 0)).length : Nat)) ∧ w = w' := by
  have c0 : w.cell? ⟨x, 0, none⟩ = some (U 0) := h.cw 0 (by omega)
  have hr := h.row 0 (by omega)
  obtain ⟨p, pc, hv⟩ := hr.sl
  rw [hv] at c0 hr
  have HR := Lib.hid (And.intro hr (h.rd 0 (by omega)))
  have hsum : (pb (Q 0)).length = ((pl (Q 0)).take (Q 0).length).sum := by rw [pb_len, List.take_of_length_le (by simp [pl])]
  rw [hsum] at hn ⊢
  generalize Q 0 = l at *
  have HN := Lib.hid hn
  have hql : (l.length : Int) ≤ 2000000 := by omega
  clear h hr hv hsum hn hq
  go_enter Try.func33, Try.ntmps33
  go_wp2
  go_loopg [5, 6] l.length (fun g s5 s6 wr => ∃ (j : Nat), j ≤ l.length ∧ g = l.length - j ∧ s5 = .int .i64 (((pl l).take j).sum : Nat) ∧ s6 = .int .i64 j ∧ Hid (w = wr))
  case atStart => exact ⟨0, by omega, by omega, rfl, rfl, Lib.hid rfl⟩
  case round =>
    obtain ⟨j, hj, hg, rfl, rfl, HW⟩ := hrel
    obtain rfl := HW.out
    by_cases hlt : j < l.length
    · obtain ⟨g1, o1, c1, he, -⟩ := pcs_shape HR.out.1 (by omega)
      obtain rfl : p = some ⟨g1, o1, none⟩ := by simp only [Value.slice.injEq] at he; exact he.1
      obtain ⟨q, hq⟩ : ∃ q, l[j]? = some q := ⟨_, List.getElem?_eq_getElem hlt⟩
      have d0 := pcs_cell HR.out.1 hq
      obtain ⟨p2, c2, hv2⟩ := WRow.sl (HR.out.2 q (List.mem_of_getElem? hq))
      rw [hv2] at d0
      have hst : ((pl l).take (j + 1)).sum = ((pl l).take j).sum + q.2.length := by
        rw [List.take_add_one, List.sum_append]
        unfold pl
        rw [List.getElem?_map, hq]
        simp
      have hle : ((pl l).take (j + 1)).sum ≤ ((pl l).take l.length).sum := by
        rw [show (pl l).take l.length = pl l from List.take_of_length_le (by simp [pl])]
        conv => rhs; rw [← List.take_append_drop (j + 1) (pl l), List.sum_append]
        omega
      have HS := Lib.hid hst
      have hb1 : ((((pl l).take j).sum : Nat) : Int) ≤ 2000000 := by have := HN.out; omega
      have hb2 : ((q.2.length : Nat) : Int) ≤ 2000000 := by have := HN.out; omega
      generalize ((pl l).take j).sum = s at *
      clear he hq hv2 hst hle
      go_wp2
      go_roundg (l.length - (j + 1))
      case measure => omega
      case rel => exact ⟨j + 1, by omega, by omega, by rw [HS.out]; go_num, by go_num, Lib.hid rfl⟩
    · obtain rfl : j = l.length := by omega
      go_wp2
      go_ret
      exact ⟨rfl, rfl⟩
theorem rcheck1 (h : RAt w x dg room C M D U Q) (b : Bool) (hb : C 1 = b) :
    Calls Try.prog 75 #[.pointer (some ⟨x, 0, none⟩), .int .i64 1] w fun y w' => y = .returned (.int .i64 (if b then -24 else 0)) ∧ w = w' := by
  have c0 : w.cell? ⟨x, 2 + 1, none⟩ = some (.bool (C 1)) := h.cc 1 (by omega)
  rw [hb] at c0
  clear h hb
  simp only [Nat.reduceAdd] at c0
  cases b
  all_goals
    go_enter Try.func75, Try.ntmps75
    go_wp2
    go_ret
    exact ⟨rfl, rfl⟩
set_option maxRecDepth 20000 in
set_option maxHeartbeats 1000000 in
theorem rlen1 (h : RAt w x dg room C M D U Q) (hn : (pb (Q 1)).length ≤ 2000000) (hq : (Q 1).length ≤ 2000000) :
    Calls Try.prog 33 #[.pointer (some ⟨x, 0, none⟩), .int .i64 1] w fun y w' => y = .returned (.int .i64 ((pb (Q 1)).length : Nat)) ∧ w = w' := by
  have c0 : w.cell? ⟨x, 1, none⟩ = some (U 1) := h.cw 1 (by omega)
  have hr := h.row 1 (by omega)
  obtain ⟨p, pc, hv⟩ := hr.sl
  rw [hv] at c0 hr
  have HR := Lib.hid (And.intro hr (h.rd 1 (by omega)))
  have hsum : (pb (Q 1)).length = ((pl (Q 1)).take (Q 1).length).sum := by rw [pb_len, List.take_of_length_le (by simp [pl])]
  rw [hsum] at hn ⊢
  generalize Q 1 = l at *
  have HN := Lib.hid hn
  have hql : (l.length : Int) ≤ 2000000 := by omega
  clear h hr hv hsum hn hq
  go_enter Try.func33, Try.ntmps33
  go_wp2
  go_loopg [5, 6] l.length (fun g s5 s6 wr => ∃ (j : Nat), j ≤ l.length ∧ g = l.length - j ∧ s5 = .int .i64 (((pl l).take j).sum : Nat) ∧ s6 = .int .i64 j ∧ Hid (w = wr))
  case atStart => exact ⟨0, by omega, by omega, rfl, rfl, Lib.hid rfl⟩
  case round =>
    obtain ⟨j, hj, hg, rfl, rfl, HW⟩ := hrel
    obtain rfl := HW.out
    by_cases hlt : j < l.length
    · obtain ⟨g1, o1, c1, he, -⟩ := pcs_shape HR.out.1 (by omega)
      obtain rfl : p = some ⟨g1, o1, none⟩ := by simp only [Value.slice.injEq] at he; exact he.1
      obtain ⟨q, hq⟩ : ∃ q, l[j]? = some q := ⟨_, List.getElem?_eq_getElem hlt⟩
      have d0 := pcs_cell HR.out.1 hq
      obtain ⟨p2, c2, hv2⟩ := WRow.sl (HR.out.2 q (List.mem_of_getElem? hq))
      rw [hv2] at d0
      have hst : ((pl l).take (j + 1)).sum = ((pl l).take j).sum + q.2.length := by
        rw [List.take_add_one, List.sum_append]
        unfold pl
        rw [List.getElem?_map, hq]
        simp
      have hle : ((pl l).take (j + 1)).sum ≤ ((pl l).take l.length).sum := by
        rw [show (pl l).take l.length = pl l from List.take_of_length_le (by simp [pl])]
        conv => rhs; rw [← List.take_append_drop (j + 1) (pl l), List.sum_append]
        omega
      have HS := Lib.hid hst
      have hb1 : ((((pl l).take j).sum : Nat) : Int) ≤ 2000000 := by have := HN.out; omega
      have hb2 : ((q.2.length : Nat) : Int) ≤ 2000000 := by have := HN.out; omega
      generalize ((pl l).take j).sum = s at *
      clear he hq hv2 hst hle
      go_wp2
      go_roundg (l.length - (j + 1))
      case measure => omega
      case rel => exact ⟨j + 1, by omega, by omega, by rw [HS.out]; go_num, by go_num, Lib.hid rfl⟩
    · obtain rfl : j = l.length := by omega
      go_wp2
      go_ret
      exact ⟨rfl, rfl⟩
end
end Go.Proofs.Ytocaebcbmfejbaa
