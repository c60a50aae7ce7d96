/-
  Is a deadline due; the place below whose entry comes first. Conditions: the timers are some that calls can make.
-/
import Derived.Test.YtcbphfpfdfgehaaTOrder
namespace Go.Proofs.Ytcbphfpfdfgehaa
open Go.ChangeShapes Go.WideShapes Go.ChangeAt Go.RowKit

theorem due_any {w : World} {c b : Nat} {most now : Int} {v : Value} {H : List En} {P : Int → Option Int} (h : TM w c most now v b H P) (d : Int) :
    Calls Try.prog 56 #[.pointer (some ⟨c, 0, none⟩), .int .i64 d] w fun x w' => x = .returned (.bool (decide (d ≤ now))) ∧ w = w' := by
  have c1 := h.c1
  clear h
  go_enter Try.func56, Try.ntmps56
  go_wp2
  go_ret
  exact ⟨rfl, rfl⟩
/-- The place below whose entry comes first; the place itself, if there is none. -/
def belE (H : List En) (i : Nat) : Nat := if H.length ≤ 2 * i + 1 then i else if 2 * i + 2 < H.length ∧ fH H (2 * i + 2) < fH H (2 * i + 1) then 2 * i + 2 else 2 * i + 1
set_option maxHeartbeats 1000000 in
theorem below_any {w : World} {c b : Nat} {most now : Int} {v : Value} {H : List En} {P : Int → Option Int} (h : TM w c most now v b H P) (i : Nat) (hi : i < H.length) :
    Calls Try.prog 76 #[.pointer (some ⟨c, 0, none⟩), .int .i64 (i : Int)] w fun x w' => x = .returned (.int .i64 (belE H i : Nat)) ∧ Turn NoBlock w w' := by
  have c2 := h.c2
  have hrow := h.row
  obtain ⟨g, o, cap, rfl, -, -, -, -, -⟩ := WRow.shape hrow (by omega)
  obtain ⟨n, hn⟩ : ∃ n, H.length = n := ⟨_, rfl⟩
  have hln := h.len
  have HF := Lib.hid h.fits
  have HT := Lib.hid h
  obtain ⟨D, hD⟩ : ∃ D, 2 * i = D := ⟨_, rfl⟩
  obtain ⟨L, hL⟩ : ∃ L, D + 1 = L := ⟨_, rfl⟩
  obtain ⟨R, hR⟩ : ∃ R, D + 2 = R := ⟨_, rfl⟩
  have w1 : IntKind.i64.wrap (2 * (i : Int)) = (D : Int) := by rw [show (2 * (i : Int)) = (D : Int) by omega]; exact wrap_nat _ (by omega)
  have w2 : IntKind.i64.wrap ((D : Int) + 1) = (L : Int) := by rw [show ((D : Int) + 1) = (L : Int) by omega]; exact wrap_nat _ (by omega)
  have w3 : IntKind.i64.wrap ((D : Int) + 2) = (R : Int) := by rw [show ((D : Int) + 2) = (R : Int) by omega]; exact wrap_nat _ (by omega)
  unfold belE
  rw [hD, hL, hR]
  by_cases hl : n ≤ L
  · rw [if_pos (by omega)]
    rw [hn] at c2
    clear h hrow hn hD hL hR hi
    have hd : decide ((L : Int) ≥ (n : Int)) = true := by simpa using hl
    go_enter Try.func76, Try.ntmps76
    go_wp2
    go_ret
    exact ⟨rfl, Turn.refl _ _⟩
  · rw [if_neg (by omega)]
    have hl0 : decide ((L : Int) ≥ (n : Int)) = false := by simpa using hl
    have hLn : (L : Int) < (n : Int) := by omega
    by_cases hr : R < n
    · have qL := hrow.two (j := L) (by omega)
      have qR := hrow.two (j := R) (by omega)
      have eL := eAt_mem (H := H) (i := L) (by omega)
      have eR := eAt_mem (H := H) (i := R) (by omega)
      have hneg := ordI_neg (HF.out _ eR) (HF.out _ eL)
      have CO := Lib.hid (fun W => order_turn (eAt H R) (eAt H L) W)
      obtain ⟨z, hz⟩ : ∃ z, decide (fH H R < fH H L) = z := ⟨_, rfl⟩
      have hzz : (if R < n ∧ fH H R < fH H L then R else L) = if z = true then R else L := by
        rw [← hz]
        by_cases hh : fH H R < fH H L
        · rw [if_pos ⟨hr, hh⟩, if_pos (by simpa using hh)]
        · rw [if_neg (fun e => hh e.2), if_neg (by simpa using hh)]
      rw [hn, hzz]
      have hZ : decide (ordI (eAt H R) (eAt H L) < 0) = z := by rw [hneg]; exact hz
      obtain ⟨y, hy⟩ : ∃ y, ordI (eAt H R) (eAt H L) = y := ⟨_, rfl⟩
      rw [hy] at hZ CO
      rw [hn] at c2
      unfold En.agg at CO
      generalize eAt H R = er at *
      generalize eAt H L = el at *
      have hrn : (R : Int) < (n : Int) := by omega
      have hrd : decide ((R : Int) < (n : Int)) = true := by simpa using hrn
      have K0 : (fun W : World => W.cell? ⟨c, 2, none⟩ = some (.slice (some ⟨g, o, none⟩) n cap) ∧ W.cell? ⟨g, o + R * 2, none⟩ = some (.int .i64 er.k) ∧ W.cell? ⟨g, o + R * 2 + 1, none⟩ = some (.int .i64 er.d) ∧ W.cell? ⟨g, o + L * 2, none⟩ = some (.int .i64 el.k) ∧ W.cell? ⟨g, o + L * 2 + 1, none⟩ = some (.int .i64 el.d)) w.drew := ⟨c2, qR.1, qR.2, qL.1, qL.2⟩
      have KS := Lib.hid (fun (W : World) (t : Turn NoBlock w.drew W) => show (fun W : World => W.cell? ⟨c, 2, none⟩ = some (.slice (some ⟨g, o, none⟩) n cap) ∧ W.cell? ⟨g, o + R * 2, none⟩ = some (.int .i64 er.k) ∧ W.cell? ⟨g, o + R * 2 + 1, none⟩ = some (.int .i64 er.d) ∧ W.cell? ⟨g, o + L * 2, none⟩ = some (.int .i64 el.k) ∧ W.cell? ⟨g, o + L * 2 + 1, none⟩ = some (.int .i64 el.d)) W from ⟨t.cell c2 (fun h => h), t.cell qR.1 (fun h => h), t.cell qR.2 (fun h => h), t.cell qL.1 (fun h => h), t.cell qL.2 (fun h => h)⟩)
      clear h hrow hn hD hL hR hi eL eR hneg hz hzz hy HF hl qL qR
      go_enter Try.func76, Try.ntmps76
      go_wp2
      go_region_held3 (fun W : World => W.cell? ⟨c, 2, none⟩ = some (.slice (some ⟨g, o, none⟩) n cap) ∧ W.cell? ⟨g, o + R * 2, none⟩ = some (.int .i64 er.k) ∧ W.cell? ⟨g, o + R * 2 + 1, none⟩ = some (.int .i64 er.d) ∧ W.cell? ⟨g, o + L * 2, none⟩ = some (.int .i64 el.k) ∧ W.cell? ⟨g, o + L * 2 + 1, none⟩ = some (.int .i64 el.d)) (first | exact K0 | exact S9.out) (first
        | (go_at_call 62; (with_reducible refine (CO.out _).mono ?_); rintro e w2 ⟨rfl, t2⟩; have S9 := Lib.hid (KS.out _ t2)))
      cases z
      all_goals
        go_wp2
        go_ret
        exact ⟨rfl, ((Turn.refl NoBlock w).drew).trans t2 (fun _ h => h.elim)⟩
    · have hrd : decide (R < n) = false := by simpa using hr
      rw [if_neg (fun e => hr (by omega))]
      rw [hn] at c2
      clear h hrow hn hD hL hR hi hr hl
      go_enter Try.func76, Try.ntmps76
      go_wp2
      go_quiet (fail)
      go_wp2
      go_ret
      exact ⟨rfl, (Turn.refl _ _).drewN _⟩
end Go.Proofs.Ytcbphfpfdfgehaa
