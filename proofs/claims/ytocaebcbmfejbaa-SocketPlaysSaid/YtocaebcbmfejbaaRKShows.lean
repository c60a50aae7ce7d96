/-
  What the reference's Shows answers. No conditions but that the reference's socket is one that calls can make.
-/
import Derived.Test.YtocaebcbmfejbaaRKCalls
namespace Go.Proofs.Ytocaebcbmfejbaa
open Go.ChangeShapes Go.WideShapes Go.ChangeAt Go.RowKit

section
variable {w : World} {x room : Nat} {dg : Bool} {C M D : Nat → Bool} {U : Nat → Value} {Q : Nat → Pcs}
theorem rshows_closed0 (h : RAt w x dg room C M D U Q) (hc : C 0 = true) :
    Calls Try.prog 37 #[.pointer (some ⟨x, 0, none⟩), .int .i64 0] w fun y w' => y = .returned (.int .i64 0) ∧ Turn NoBlock w w' := by
  have CK := Lib.hid (show Calls Try.prog 75 #[.pointer (some ⟨x, 0, none⟩), .int .i64 0] w fun y w' => y = .returned (.int .i64 (-24)) ∧ w = w' from rcheck0 h true hc)
  clear h hc
  go_enter Try.func37, Try.ntmps37
  go_wp2_with (go_at_call 75; (with_reducible refine CK.out.mono ?_); rintro y w' ⟨rfl, rfl⟩)
  go_ret
  exact ⟨rfl, Turn.refl _ _⟩
set_option maxRecDepth 20000 in
set_option maxHeartbeats 2000000 in
theorem rshows0 (h : RAt w x dg room C M D U Q) (hc : C 0 = false) (hr : room ≤ 1048576) (hl0 : (pb (Q 0)).length ≤ 2000000) (hl1 : (pb (Q 1)).length ≤ 2000000) (hq0 : (Q 0).length ≤ 2000000) (hq1 : (Q 1).length ≤ 2000000) (s : Int)
    (hs : s = (if (pb (Q 0)).length = 0 then 0 else 1) + (if C 1 = true then 4 else if M 0 = false ∧ D 1 = false ∧ (pb (Q 1)).length < room then 2 else 0)) :
    Calls Try.prog 37 #[.pointer (some ⟨x, 0, none⟩), .int .i64 0] w fun y w' => y = .returned (.int .i64 s) ∧ Turn NoBlock w w' := by
  have CK := Lib.hid (show Calls Try.prog 75 #[.pointer (some ⟨x, 0, none⟩), .int .i64 0] w fun y w' => y = .returned (.int .i64 0) ∧ w = w' from rcheck0 h false hc)
  have CL0 := Lib.hid (fun W (t : Turn NoBlock w W) => rlen0 (h.past t) hl0 hq0)
  have CL1 := Lib.hid (fun W (t : Turn NoBlock w W) => rlen1 (h.past t) hl1 hq1)
  have c1 : w.cell? ⟨x, 2 + 1, none⟩ = some (.bool (C 1)) := h.cc 1 (by omega)
  have c2 : w.cell? ⟨x, 4 + 0, none⟩ = some (.bool (M 0)) := h.cm 0 (by omega)
  have c3 : w.cell? ⟨x, 6 + 1, none⟩ = some (.bool (D 1)) := h.cd 1 (by omega)
  have c9 := h.c9
  have cl := h.typ.lt
  simp only [Nat.reduceAdd] at c1 c2 c3
  generalize C 1 = a at *
  generalize M 0 = b at *
  generalize D 1 = d at *
  generalize (pb (Q 0)).length = l0 at *
  generalize (pb (Q 1)).length = l1 at *
  have hri : (room : Int) ≤ 1048576 := by omega
  have hw1 : IntKind.i64.wrap 1 = 1 := by decide
  have l1i : (l1 : Int) ≤ 2000000 := by omega
  have hc5 : a = true ∨ (a = false ∧ b = true) ∨ (a = false ∧ b = false ∧ d = true) ∨ (a = false ∧ b = false ∧ d = false ∧ l1 < room) ∨ (a = false ∧ b = false ∧ d = false ∧ ¬ l1 < room) := by
    cases a <;> cases b <;> cases d <;> simp <;> omega
  have hcb : l0 = 0 ∨ 0 < l0 := by omega
  clear h hc hl0 hl1 hq0 hq1 hr
  rcases hc5 with rfl | ⟨rfl, rfl⟩ | ⟨rfl, rfl, rfl⟩ | ⟨rfl, rfl, rfl, h2⟩ | ⟨rfl, rfl, rfl, h2⟩ <;> rcases hcb with h4 | h4
  all_goals
    first
      | (have hx0 : l0 = 0 := h4
         simp [hx0] at hs)
      | (have hx0 : ¬ l0 = 0 := by omega
         simp [hx0] at hs)
    try simp [h2] at hs
    subst hs
    first
      | (have hxp : (0 : Int) < (l0 : Int) := by omega)
      | (have hxp : ¬ (0 : Int) < (l0 : Int) := by omega)
    first
      | (have h2i : (l1 : Int) < (room : Int) := by omega)
      | (have h2i : ¬ (l1 : Int) < (room : Int) := by omega)
      | skip
    try clear hx0
    clear h4
    try clear h2
    go_enter Try.func37, Try.ntmps37
    go_wp2_with (first
      | (go_at_call 75; (with_reducible refine CK.out.mono ?_); rintro y w' ⟨rfl, rfl⟩)
      | (go_at_call 33; (with_reducible refine (CL0.out _ (Turn.refl _ _)).mono ?_); rintro y w' ⟨rfl, rfl⟩))
    try (first
      | (go_quiet (first | (go_at_call 33; with_reducible exact quiet_flip (CL1.out _ ((Turn.refl _ _).drewN _))) | (go_at_call 33; with_reducible exact quiet_flip (CL1.out _ (Turn.refl _ _))) | fail); go_wp2)
      | (go_region_held3 (fun w' => w'.cell? ⟨x, 4 + 0, none⟩ = some (.bool false) ∧ w'.cell? ⟨x, 6 + 1, none⟩ = some (.bool false) ∧ w'.cell? ⟨x, 9, none⟩ = some (.int .i64 (room : Int))) (first | exact ⟨c2, c3, c9⟩) (first | (go_at_call 33; (with_reducible refine (CL1.out _ (by first | exact Turn.refl _ _ | exact (Turn.refl _ _).drew)).mono ?_); rintro y w2 ⟨rfl, rfl⟩)); go_wp2))
    go_ret
    exact ⟨rfl, by first | exact Turn.refl _ _ | exact (Turn.refl _ _).drew | exact (Turn.refl _ _).drewN _⟩
theorem rshows_closed1 (h : RAt w x dg room C M D U Q) (hc : C 1 = true) :
    Calls Try.prog 37 #[.pointer (some ⟨x, 0, none⟩), .int .i64 1] w fun y w' => y = .returned (.int .i64 0) ∧ Turn NoBlock w w' := by
  have CK := Lib.hid (show Calls Try.prog 75 #[.pointer (some ⟨x, 0, none⟩), .int .i64 1] w fun y w' => y = .returned (.int .i64 (-24)) ∧ w = w' from rcheck1 h true hc)
  clear h hc
  go_enter Try.func37, Try.ntmps37
  go_wp2_with (go_at_call 75; (with_reducible refine CK.out.mono ?_); rintro y w' ⟨rfl, rfl⟩)
  go_ret
  exact ⟨rfl, Turn.refl _ _⟩
set_option maxRecDepth 20000 in
set_option maxHeartbeats 2000000 in
theorem rshows1 (h : RAt w x dg room C M D U Q) (hc : C 1 = false) (hr : room ≤ 1048576) (hl0 : (pb (Q 1)).length ≤ 2000000) (hl1 : (pb (Q 0)).length ≤ 2000000) (hq0 : (Q 1).length ≤ 2000000) (hq1 : (Q 0).length ≤ 2000000) (s : Int)
    (hs : s = (if (pb (Q 1)).length = 0 then 0 else 1) + (if C 0 = true then 4 else if M 1 = false ∧ D 0 = false ∧ (pb (Q 0)).length < room then 2 else 0)) :
    Calls Try.prog 37 #[.pointer (some ⟨x, 0, none⟩), .int .i64 1] w fun y w' => y = .returned (.int .i64 s) ∧ Turn NoBlock w w' := by
  have CK := Lib.hid (show Calls Try.prog 75 #[.pointer (some ⟨x, 0, none⟩), .int .i64 1] w fun y w' => y = .returned (.int .i64 0) ∧ w = w' from rcheck1 h false hc)
  have CL0 := Lib.hid (fun W (t : Turn NoBlock w W) => rlen1 (h.past t) hl0 hq0)
  have CL1 := Lib.hid (fun W (t : Turn NoBlock w W) => rlen0 (h.past t) hl1 hq1)
  have c1 : w.cell? ⟨x, 2 + 0, none⟩ = some (.bool (C 0)) := h.cc 0 (by omega)
  have c2 : w.cell? ⟨x, 4 + 1, none⟩ = some (.bool (M 1)) := h.cm 1 (by omega)
  have c3 : w.cell? ⟨x, 6 + 0, none⟩ = some (.bool (D 0)) := h.cd 0 (by omega)
  have c9 := h.c9
  have cl := h.typ.lt
  simp only [Nat.reduceAdd] at c1 c2 c3
  generalize C 0 = a at *
  generalize M 1 = b at *
  generalize D 0 = d at *
  generalize (pb (Q 1)).length = l0 at *
  generalize (pb (Q 0)).length = l1 at *
  have hri : (room : Int) ≤ 1048576 := by omega
  have hw1 : IntKind.i64.wrap 0 = 0 := by decide
  have l1i : (l1 : Int) ≤ 2000000 := by omega
  have hc5 : a = true ∨ (a = false ∧ b = true) ∨ (a = false ∧ b = false ∧ d = true) ∨ (a = false ∧ b = false ∧ d = false ∧ l1 < room) ∨ (a = false ∧ b = false ∧ d = false ∧ ¬ l1 < room) := by
    cases a <;> cases b <;> cases d <;> simp <;> omega
  have hcb : l0 = 0 ∨ 0 < l0 := by omega
  clear h hc hl0 hl1 hq0 hq1 hr
  rcases hc5 with rfl | ⟨rfl, rfl⟩ | ⟨rfl, rfl, rfl⟩ | ⟨rfl, rfl, rfl, h2⟩ | ⟨rfl, rfl, rfl, h2⟩ <;> rcases hcb with h4 | h4
  all_goals
    first
      | (have hx0 : l0 = 0 := h4
         simp [hx0] at hs)
      | (have hx0 : ¬ l0 = 0 := by omega
         simp [hx0] at hs)
    try simp [h2] at hs
    subst hs
    first
      | (have hxp : (0 : Int) < (l0 : Int) := by omega)
      | (have hxp : ¬ (0 : Int) < (l0 : Int) := by omega)
    first
      | (have h2i : (l1 : Int) < (room : Int) := by omega)
      | (have h2i : ¬ (l1 : Int) < (room : Int) := by omega)
      | skip
    try clear hx0
    clear h4
    try clear h2
    go_enter Try.func37, Try.ntmps37
    go_wp2_with (first
      | (go_at_call 75; (with_reducible refine CK.out.mono ?_); rintro y w' ⟨rfl, rfl⟩)
      | (go_at_call 33; (with_reducible refine (CL0.out _ (Turn.refl _ _)).mono ?_); rintro y w' ⟨rfl, rfl⟩))
    try (first
      | (go_quiet (first | (go_at_call 33; with_reducible exact quiet_flip (CL1.out _ ((Turn.refl _ _).drewN _))) | (go_at_call 33; with_reducible exact quiet_flip (CL1.out _ (Turn.refl _ _))) | fail); go_wp2)
      | (go_region_held3 (fun w' => w'.cell? ⟨x, 4 + 1, none⟩ = some (.bool false) ∧ w'.cell? ⟨x, 6 + 0, none⟩ = some (.bool false) ∧ w'.cell? ⟨x, 9, none⟩ = some (.int .i64 (room : Int))) (first | exact ⟨c2, c3, c9⟩) (first | (go_at_call 33; (with_reducible refine (CL1.out _ (by first | exact Turn.refl _ _ | exact (Turn.refl _ _).drew)).mono ?_); rintro y w2 ⟨rfl, rfl⟩)); go_wp2))
    go_ret
    exact ⟨rfl, by first | exact Turn.refl _ _ | exact (Turn.refl _ _).drew | exact (Turn.refl _ _).drewN _⟩
end
end Go.Proofs.Ytocaebcbmfejbaa
