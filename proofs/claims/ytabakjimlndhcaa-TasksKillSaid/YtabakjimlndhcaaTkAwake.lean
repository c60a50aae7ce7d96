/-
  The laws' fixed question: true. No conditions.
-/
import Derived.Test.YtabakjimlndhcaaTkSt
namespace Go.Proofs.Ytabakjimlndhcaa
open Go.ChangeShapes Go.WideShapes Go.ChangeAt Go.RowKit

def T2a : Nat → Tk := mkT 10 1 T1 1 1
theorem aw_mkS : mkS 10 1 T1 1 1 = 0 := by decide
theorem aw_mkC : mkC 10 1 T1 1 1 = 2 := by unfold mkC; rw [aw_mkS]; rfl
theorem aw_kS : killS 2 T2a 1 = 0 := by decide
theorem aw_kL : killL 2 T2a 1 9 = [2, 1] := by decide
theorem aw_live : liveN (killT 2 T2a 1 9) 2 = 0 := by decide
theorem aw_make {w0 w : World} {c : Nat} (h : KSt w0 w c 10 1 T1 NoBlock) : Calls Try.prog 45 #[.pointer (some ⟨c, 0, none⟩), .int .i64 1, .int .i64 1] w fun x w' => x = .returned (.tuple #[.int .i64 2, .int .i64 0]) ∧ KSt w0 w' c 10 2 T2a NoBlock := by
  refine (h.make (by omega) 1 1).mono ?_
  rintro x w' ⟨rfl, h2, -⟩
  rw [aw_mkC] at h2
  rw [aw_mkS]
  exact ⟨rfl, h2⟩
theorem aw_kill {w0 w : World} {c : Nat} (h : KSt w0 w c 10 2 T2a NoBlock) : Calls Try.prog 47 #[.pointer (some ⟨c, 0, none⟩), .int .i64 1, .int .i64 9] w fun x w' => ∃ v, x = .returned (.tuple #[v, .int .i64 0]) ∧ Nums v [2, 1] w' ∧ KSt w0 w' c 10 2 (killT 2 T2a 1 9) NoBlock := by
  refine (h.kill (by omega) 1 9).mono ?_
  rintro x w' ⟨v, rfl, r, h2, -, -⟩
  rw [aw_kL] at r
  rw [aw_kS]
  exact ⟨v, rfl, r, h2⟩
theorem aw_live0 {w0 w : World} {c : Nat} (h : KSt w0 w c 10 2 (killT 2 T2a 1 9) NoBlock) : Calls Try.prog 34 #[.pointer (some ⟨c, 0, none⟩)] w fun x w' => x = .returned (.int .i64 0) ∧ w = w' := by
  have := h.live
  rw [aw_live] at this
  exact this
/-- The first of a row, where there is one. -/
theorem Nums.first {w : World} {v : Value} {a : Int} {r : List Int} (h : Nums v (a :: r) w) : ∃ g o cap, v = .slice (some ⟨g, o, none⟩) (r.length + 1) cap ∧ w.cell? ⟨g, o, none⟩ = some (.int .i64 a) := by
  obtain ⟨g, o, cap, h1, -, -, -, h5, -⟩ := WRow.shape h (by simp)
  refine ⟨g, o, cap, by simpa using h1, ?_⟩
  have := h5 0 (by simp)
  simpa [icells] using this
set_option maxRecDepth 20000 in
set_option maxHeartbeats 2000000 in
theorem awake17 (w : World) : Calls Try.prog 30 #[] w fun x w' => x = .returned (.bool true) ∧ Turn NoBlock w w' := by
  have CN := Lib.hid (new_yes 10 w (by decide))
  unfold tp at CN
  go_enter Try.func30, Try.ntmps30
  go_wp2_with (first
    | (go_at_call 29; (with_reducible refine CN.out.mono ?_); rintro e w1 ⟨c, rfl, h1⟩; have H1 := Lib.hid h1; clear h1)
    | (go_at_call 45; (with_reducible refine (aw_make H1.out).mono ?_); rintro e w2 ⟨rfl, h2⟩; have H2 := Lib.hid h2; clear h2)
    | (go_at_call 47; (with_reducible refine (aw_kill H2.out).mono ?_); rintro e w3 ⟨v, rfl, r3, h3⟩; have H3 := Lib.hid h3; obtain ⟨g, o, cap, rfl, q0⟩ := r3.first; clear h3 r3)
    | (go_at_call 34; (with_reducible refine (aw_live0 H3.out).mono ?_); rintro e w4 ⟨rfl, rfl⟩))
  go_ret
  exact ⟨rfl, H3.out.turn⟩
end Go.Proofs.Ytabakjimlndhcaa
