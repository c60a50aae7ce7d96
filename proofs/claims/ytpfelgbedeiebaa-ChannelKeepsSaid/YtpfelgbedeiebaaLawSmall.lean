/-
  What small answers. No conditions but that the calls can be read.
-/
import Derived.Test.YtpfelgbedeiebaaCViewO
namespace Go.Proofs.Ytpfelgbedeiebaa
open Go.ChangeShapes Go.WideShapes Go.ChangeAt Go.RowKit

def O11.ok (o : O11) : Prop := o.q.m.d.length ≤ 300 ∧ o.q.m.h.length ≤ 80
theorem op_cells {w : World} {g o j : Nat} {x : O11} (h : ∀ i, i < 7 → w.cell? ⟨g, o + j * 7 + i, none⟩ = x.cells[i]?) : w.cell? ⟨g, o + j * 7, none⟩ = some (.int .i64 x.kind) ∧ w.cell? ⟨g, o + j * 7 + 1, none⟩ = some (.int .i64 x.en) ∧ w.cell? ⟨g, o + j * 7 + 2, none⟩ = some (.int .i64 x.n) ∧ w.cell? ⟨g, o + j * 7 + 3, none⟩ = some (.int .i64 x.k) ∧ w.cell? ⟨g, o + j * 7 + 4, none⟩ = some (.int .i64 x.q.m.tx) ∧ w.cell? ⟨g, o + j * 7 + 5, none⟩ = some x.q.vd ∧ w.cell? ⟨g, o + j * 7 + 6, none⟩ = some x.q.vh :=
  ⟨h 0 (by omega), h 1 (by omega), h 2 (by omega), h 3 (by omega), h 4 (by omega), h 5 (by omega), h 6 (by omega)⟩
set_option maxRecDepth 20000 in
set_option maxHeartbeats 4000000 in
theorem small_any (p : Option Addr) (len cap : Nat) (os : List O11) (most : Nat) (w : World) (b : Bool) (hl : len ≤ maxLen) (hm : most ≤ 1000) (ho : OpsAt w p len os) (hb : (b = true ∧ (∀ o ∈ os, o.ok) ∧ len ≤ most) ∨ (b = false ∧ ((∃ o ∈ os, ¬ o.ok) ∨ most < len))) :
    Calls Try.prog 28 #[.slice p len cap, .int .i64 (most : Int)] w fun e w' => e = .returned (.bool b) ∧ Turn NoBlock w w' := by
  have HO := Lib.hid ho
  have HB := Lib.hid hb
  unfold maxLen at hl
  have hli : (len : Int) ≤ 9223372036854775807 := by omega
  have HM := Lib.hid hm
  clear ho hb hm hl
  go_enter Try.func28, Try.ntmps28
  go_wp2
  go_loopg [9] len (fun g s9 wr => ∃ (j : Nat), j ≤ len ∧ g = len - j ∧ s9 = .int .i64 j ∧ Hid (Turn NoBlock w wr ∧ ∀ o ∈ os.take j, o.ok))
  case atStart => exact ⟨0, by omega, by omega, rfl, Lib.hid ⟨Turn.refl _ _, fun o ho => by cases ho⟩⟩
  case round =>
    obtain ⟨j, hj, hg, rfl, HT⟩ := hrel
    by_cases hlt : j < len
    · obtain ⟨g0, o0, rfl, hcell⟩ := HO.out.2 (by omega)
      have hjl : j < os.length := by rw [HO.out.1]; exact hlt
      obtain ⟨x, hx⟩ : ∃ x, os[j]? = some x := ⟨_, List.getElem?_eq_getElem hjl⟩
      obtain ⟨hcs, hqr⟩ := hcell j x hx
      obtain ⟨d0, d1, d2, d3, d4, d5, d6⟩ := op_cells (fun i hi => (show wr.cell? ⟨g0, o0 + j * 7 + i, none⟩ = x.cells[i]? by
        have h1 := hcs i hi
        have h2 : i < x.cells.length := hi
        rw [List.getElem?_eq_getElem h2] at h1 ⊢
        exact HT.out.1.cell h1 (fun h => h)))
      have HX := Lib.hid hx
      obtain ⟨kind, en, n, k, ⟨⟨tx, d, hh⟩, vd, vh⟩⟩ := x
      obtain ⟨pd, cd, hvd⟩ := hqr.1.sl
      obtain ⟨ph, ch, hvh⟩ := hqr.2.sl
      dsimp only at hvd hvh d0 d1 d2 d3 d4 d5 d6
      subst hvd hvh
      clear hcell hcs hx hqr
      have hbad : ¬ (d.length ≤ 300 ∧ hh.length ≤ 80) → b = false := fun hn => by
        rcases HB.out with h | h
        · exact absurd (h.2.1 _ (List.mem_of_getElem? HX.out)) hn
        · exact h.1
      have three : (300 : Int) < ((d.length : Nat) : Int) ∨ (¬ (300 : Int) < ((d.length : Nat) : Int) ∧ (80 : Int) < ((hh.length : Nat) : Int)) ∨ (¬ (300 : Int) < ((d.length : Nat) : Int) ∧ ¬ (80 : Int) < ((hh.length : Nat) : Int)) := by omega
      rcases three with h1 | ⟨h1, h2⟩ | ⟨h1, h2⟩
      · have HBF := Lib.hid (hbad (by omega))
        clear hbad hjl
        go_wp2
        go_ret
        exact ⟨by rw [HBF.out]; rfl, HT.out.1.alloc _⟩
      · have HBF := Lib.hid (hbad (by omega))
        clear hbad hjl
        go_wp2
        go_ret
        exact ⟨by rw [HBF.out]; rfl, HT.out.1.alloc _⟩
      · have hok := Lib.hid (show ∀ o ∈ os.take (j + 1), o.ok from fun o ho => by
          rw [List.take_add_one, HX.out] at ho
          rcases List.mem_append.1 ho with h | h
          · exact HT.out.2 o h
          · simp at h; subst h; exact ⟨by dsimp only; omega, by dsimp only; omega⟩)
        clear hbad hjl
        go_wp2
        go_roundg (len - (j + 1))
        case measure => omega
        case rel => exact ⟨j + 1, by omega, by omega, by go_num, Lib.hid ⟨HT.out.1.alloc _, hok.out⟩⟩
    · obtain rfl : j = len := by omega
      have hb2 : (b = true ∧ (j : Int) ≤ most) ∨ (b = false ∧ (most : Int) < j) := by
        rcases HB.out with h | h
        · exact .inl ⟨h.1, by omega⟩
        · refine .inr ⟨h.1, ?_⟩
          rcases h.2 with ⟨o, h1, h2⟩ | h2
          · exact absurd (HT.out.2 o (by rw [List.take_of_length_le (by rw [HO.out.1]; omega)]; exact h1)) h2
          · omega
      clear HB
      rcases hb2 with ⟨rfl, h1⟩ | ⟨rfl, h1⟩
      · go_wp2
        go_ret
        exact ⟨by simp, HT.out.1⟩
      · go_wp2
        go_ret
        exact ⟨by simp; omega, HT.out.1⟩
end Go.Proofs.Ytpfelgbedeiebaa
