/-
  What the small calls of a socket answer. No conditions but that the socket is one that calls can make.
-/
import Derived.Test.YtocaebcbmfejbaaKMod
namespace Go.Proofs.Ytocaebcbmfejbaa
open Go.ChangeShapes Go.WideShapes Go.ChangeAt Go.RowKit

theorem wrap_fit (x : Int) (h : fit x) : IntKind.i64.wrap x = x := by
  unfold fit at h
  have e : IntKind.i64.wrap x = (if x % 18446744073709551616 ≥ 9223372036854775808 then x % 18446744073709551616 - 18446744073709551616 else x % 18446744073709551616) := by
    simp [IntKind.wrap, IntKind.bits, IntKind.signed]
  rw [e]; split <;> omega
/-- May more bytes ever come from one end to the other. -/
def wayS (a b : En) : Int := if a.op = false ∨ b.op = false then -24 else if a.nw = true ∨ b.nr = true then -20 else 0
theorem wayS_any (a b : En) : (wayS a b = -24 ∧ (a.op = false ∨ b.op = false)) ∨ (wayS a b = -20 ∧ a.op = true ∧ b.op = true ∧ (a.nw = true ∨ b.nr = true)) ∨ (wayS a b = 0 ∧ a.op = true ∧ b.op = true ∧ a.nw = false ∧ b.nr = false) := by
  unfold wayS
  cases a.op <;> cases b.op <;> cases a.nw <;> cases b.nr <;> simp
theorem kright_bad (c : Nat) (e : Int) (w : World) (h0 : e ≠ 0) (h1 : e ≠ 1) :
    Calls Try.prog 71 #[.pointer (some ⟨c, 0, none⟩), .int .i64 e] w fun x w' => x = .returned (.int .i64 (-10)) ∧ w = w' := by
  have b0 : (e != 0) = true := bne_iff_ne.2 h0
  have b1 : (e != 1) = true := bne_iff_ne.2 h1
  go_enter Try.func71, Try.ntmps71
  go_wp2
  go_ret
  exact ⟨rfl, rfl⟩
section
variable {w : World} {c room : Nat} {dg : Bool} {K : Nat → En} {V : Nat → EV}
theorem kright_yes0 (h : KMem w c dg room K V) (ho : (K 0).op = true) :
    Calls Try.prog 71 #[.pointer (some ⟨c, 0, none⟩), .int .i64 0] w fun x w' => x = .returned (.int .i64 0) ∧ w = w' := by
  have hc : w.cell? ⟨c, 2, none⟩ = some (.bool (K 0).op) := (h.s 0 (by omega)).c0
  rw [ho] at hc
  clear h ho
  go_enter Try.func71, Try.ntmps71
  go_wp2
  go_ret
  exact ⟨rfl, rfl⟩
theorem kright_no0 (h : KMem w c dg room K V) (ho : (K 0).op = false) :
    Calls Try.prog 71 #[.pointer (some ⟨c, 0, none⟩), .int .i64 0] w fun x w' => x = .returned (.int .i64 (-24)) ∧ w = w' := by
  have hc : w.cell? ⟨c, 2, none⟩ = some (.bool (K 0).op) := (h.s 0 (by omega)).c0
  rw [ho] at hc
  clear h ho
  go_enter Try.func71, Try.ntmps71
  go_wp2
  go_ret
  exact ⟨rfl, rfl⟩
theorem kother0 (w : World) : Calls Try.prog 74 #[.int .i64 0] w fun x w' => x = .returned (.int .i64 1) ∧ w = w' := by
  go_enter Try.func74, Try.ntmps74
  go_wp2
  go_ret
  exact ⟨rfl, rfl⟩
set_option maxHeartbeats 1000000 in
theorem kway0 (h : KMem w c dg room K V) :
    Calls Try.prog 72 #[.pointer (some ⟨c, 0, none⟩), .int .i64 0] w fun x w' => x = .returned (.int .i64 (wayS (K 0) (K 1))) ∧ ∃ n, w' = w.drewN n := by
  have c0 : w.cell? ⟨c, 2, none⟩ = some (.bool (K 0).op) := (h.s 0 (by omega)).c0
  have c1 : w.cell? ⟨c, 3, none⟩ = some (.bool (K 0).nw) := (h.s 0 (by omega)).c1
  have c2 : w.cell? ⟨c, 7, none⟩ = some (.bool (K 1).op) := (h.s 1 (by omega)).c0
  have c3 : w.cell? ⟨c, 9, none⟩ = some (.bool (K 1).nr) := (h.s 1 (by omega)).c2
  have CO := Lib.hid (fun w => kother0 w)
  clear h
  have HV := wayS_any (K 0) (K 1)
  generalize wayS (K 0) (K 1) = v at *
  generalize (K 0).op = a at *
  generalize (K 0).nw = b at *
  generalize (K 1).op = d at *
  generalize (K 1).nr = f at *
  have five : (v = -24 ∧ a = false) ∨ (v = -24 ∧ a = true ∧ d = false) ∨ (v = -20 ∧ a = true ∧ d = true ∧ b = true) ∨ (v = -20 ∧ a = true ∧ d = true ∧ b = false ∧ f = true) ∨ (v = 0 ∧ a = true ∧ d = true ∧ b = false ∧ f = false) := by
    rcases HV with ⟨rfl, h⟩ | ⟨rfl, h⟩ | ⟨rfl, h⟩
    all_goals revert h; cases a <;> cases d <;> cases b <;> cases f <;> simp
  clear HV
  rcases five with ⟨rfl, rfl⟩ | ⟨rfl, rfl, rfl⟩ | ⟨rfl, rfl, rfl, rfl⟩ | ⟨rfl, rfl, rfl, rfl, rfl⟩ | ⟨rfl, rfl, rfl, rfl, rfl⟩
  all_goals
    go_enter Try.func72, Try.ntmps72
    go_wp2
    go_region_held3 (fun _ => True) (trivial) (first | (go_at_call 74; (with_reducible refine (CO.out _).mono ?_); rintro x w2 ⟨rfl, rfl⟩))
    go_wp2
    go_ret
    exact ⟨rfl, _, rfl⟩
theorem kfree0 (h : KMem w c dg room K V) :
    Calls Try.prog 79 #[.pointer (some ⟨c, 0, none⟩), .int .i64 0] w fun x w' => x = .returned (.int .i64 ((room : Int) - ((K 1).b.length : Nat))) ∧ ∃ n, w' = w.drewN n := by
  obtain ⟨p, pc, hp⟩ := (h.s 1 (by omega)).rowB.sl
  have c1 := h.c1
  have c3 : w.cell? ⟨c, 10, none⟩ = some (V 1).b := (h.s 1 (by omega)).c3
  rw [hp] at c3
  have CO := Lib.hid (fun w => kother0 w)
  have h1 : (room : Int) ≤ 1048576 := by have := h.r2; omega
  have h2 : ((K 1).b.length : Int) ≤ 1048576 := by have := (h.ok 1 (by omega)).len; have := h.r2; omega
  clear h hp
  generalize (K 1).b.length = n at *
  have hw : IntKind.i64.wrap ((room : Int) - (n : Int)) = (room : Int) - n := wrap_fit _ (by unfold fit; omega)

  go_enter Try.func79, Try.ntmps79
  go_wp2
  go_region_held3 (fun w' => w'.cell? ⟨c, 1, none⟩ = some (.int .i64 room) ∧ w'.cell? ⟨c, 10, none⟩ = some (.slice p n pc)) (first | exact ⟨c1, c3⟩) (first | (go_at_call 74; (with_reducible refine (CO.out _).mono ?_); rintro x w2 ⟨rfl, rfl⟩))
  go_wp2
  go_ret
  exact ⟨rfl, _, rfl⟩
theorem kright_yes1 (h : KMem w c dg room K V) (ho : (K 1).op = true) :
    Calls Try.prog 71 #[.pointer (some ⟨c, 0, none⟩), .int .i64 1] w fun x w' => x = .returned (.int .i64 0) ∧ w = w' := by
  have hc : w.cell? ⟨c, 7, none⟩ = some (.bool (K 1).op) := (h.s 1 (by omega)).c0
  rw [ho] at hc
  clear h ho
  go_enter Try.func71, Try.ntmps71
  go_wp2
  go_ret
  exact ⟨rfl, rfl⟩
theorem kright_no1 (h : KMem w c dg room K V) (ho : (K 1).op = false) :
    Calls Try.prog 71 #[.pointer (some ⟨c, 0, none⟩), .int .i64 1] w fun x w' => x = .returned (.int .i64 (-24)) ∧ w = w' := by
  have hc : w.cell? ⟨c, 7, none⟩ = some (.bool (K 1).op) := (h.s 1 (by omega)).c0
  rw [ho] at hc
  clear h ho
  go_enter Try.func71, Try.ntmps71
  go_wp2
  go_ret
  exact ⟨rfl, rfl⟩
theorem kother1 (w : World) : Calls Try.prog 74 #[.int .i64 1] w fun x w' => x = .returned (.int .i64 0) ∧ w = w' := by
  go_enter Try.func74, Try.ntmps74
  go_wp2
  go_ret
  exact ⟨rfl, rfl⟩
set_option maxHeartbeats 1000000 in
theorem kway1 (h : KMem w c dg room K V) :
    Calls Try.prog 72 #[.pointer (some ⟨c, 0, none⟩), .int .i64 1] w fun x w' => x = .returned (.int .i64 (wayS (K 1) (K 0))) ∧ ∃ n, w' = w.drewN n := by
  have c0 : w.cell? ⟨c, 7, none⟩ = some (.bool (K 1).op) := (h.s 1 (by omega)).c0
  have c1 : w.cell? ⟨c, 8, none⟩ = some (.bool (K 1).nw) := (h.s 1 (by omega)).c1
  have c2 : w.cell? ⟨c, 2, none⟩ = some (.bool (K 0).op) := (h.s 0 (by omega)).c0
  have c3 : w.cell? ⟨c, 4, none⟩ = some (.bool (K 0).nr) := (h.s 0 (by omega)).c2
  have CO := Lib.hid (fun w => kother1 w)
  clear h
  have HV := wayS_any (K 1) (K 0)
  generalize wayS (K 1) (K 0) = v at *
  generalize (K 1).op = a at *
  generalize (K 1).nw = b at *
  generalize (K 0).op = d at *
  generalize (K 0).nr = f at *
  have five : (v = -24 ∧ a = false) ∨ (v = -24 ∧ a = true ∧ d = false) ∨ (v = -20 ∧ a = true ∧ d = true ∧ b = true) ∨ (v = -20 ∧ a = true ∧ d = true ∧ b = false ∧ f = true) ∨ (v = 0 ∧ a = true ∧ d = true ∧ b = false ∧ f = false) := by
    rcases HV with ⟨rfl, h⟩ | ⟨rfl, h⟩ | ⟨rfl, h⟩
    all_goals revert h; cases a <;> cases d <;> cases b <;> cases f <;> simp
  clear HV
  rcases five with ⟨rfl, rfl⟩ | ⟨rfl, rfl, rfl⟩ | ⟨rfl, rfl, rfl, rfl⟩ | ⟨rfl, rfl, rfl, rfl, rfl⟩ | ⟨rfl, rfl, rfl, rfl, rfl⟩
  all_goals
    go_enter Try.func72, Try.ntmps72
    go_wp2
    go_region_held3 (fun _ => True) (trivial) (first | (go_at_call 74; (with_reducible refine (CO.out _).mono ?_); rintro x w2 ⟨rfl, rfl⟩))
    go_wp2
    go_ret
    exact ⟨rfl, _, rfl⟩
theorem kfree1 (h : KMem w c dg room K V) :
    Calls Try.prog 79 #[.pointer (some ⟨c, 0, none⟩), .int .i64 1] w fun x w' => x = .returned (.int .i64 ((room : Int) - ((K 0).b.length : Nat))) ∧ ∃ n, w' = w.drewN n := by
  obtain ⟨p, pc, hp⟩ := (h.s 0 (by omega)).rowB.sl
  have c1 := h.c1
  have c3 : w.cell? ⟨c, 5, none⟩ = some (V 0).b := (h.s 0 (by omega)).c3
  rw [hp] at c3
  have CO := Lib.hid (fun w => kother1 w)
  have h1 : (room : Int) ≤ 1048576 := by have := h.r2; omega
  have h2 : ((K 0).b.length : Int) ≤ 1048576 := by have := (h.ok 0 (by omega)).len; have := h.r2; omega
  clear h hp
  generalize (K 0).b.length = n at *
  have hw : IntKind.i64.wrap ((room : Int) - (n : Int)) = (room : Int) - n := wrap_fit _ (by unfold fit; omega)

  go_enter Try.func79, Try.ntmps79
  go_wp2
  go_region_held3 (fun w' => w'.cell? ⟨c, 1, none⟩ = some (.int .i64 room) ∧ w'.cell? ⟨c, 5, none⟩ = some (.slice p n pc)) (first | exact ⟨c1, c3⟩) (first | (go_at_call 74; (with_reducible refine (CO.out _).mono ?_); rintro x w2 ⟨rfl, rfl⟩))
  go_wp2
  go_ret
  exact ⟨rfl, _, rfl⟩
end
end Go.Proofs.Ytocaebcbmfejbaa
