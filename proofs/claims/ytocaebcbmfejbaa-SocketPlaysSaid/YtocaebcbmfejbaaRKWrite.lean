/-
  What the reference's Write answers, and what it makes of its socket. No conditions but that the reference's socket is one that calls can make, and that the bytes can be read.
-/
import Derived.Test.YtocaebcbmfejbaaRKPut
namespace Go.Proofs.Ytocaebcbmfejbaa
open Go.ChangeShapes Go.WideShapes Go.ChangeAt Go.RowKit

theorem RMadeQ.refl {w : World} {x room : Nat} {dg : Bool} {C M D : Nat → Bool} {U : Nat → Value} {Q : Nat → Pcs} (Y : Nat → Prop) (h : RAt w x dg room C M D U Q) : RMadeQ w w x dg room C M D U Q Y Q := ⟨U, h, Turn.refl _ _, fun _ hk => .inl hk⟩
theorem RMadeQ.past {w w1 w' : World} {x room : Nat} {dg : Bool} {C M D : Nat → Bool} {U : Nat → Value} {Q Q' : Nat → Pcs} {Y : Nat → Prop} (h : RMadeQ w1 w' x dg room C M D U Q Y Q') (t : Turn NoBlock w w1) : RMadeQ w w' x dg room C M D U Q Y Q' := by
  obtain ⟨U', h1, h2, h3⟩ := h
  refine ⟨U', h1, (TU t).trans h2 (fun k hk => .inl hk), fun k hk => ?_⟩
  rcases h3 k hk with h | h | h
  · exact .inl h
  · exact .inr (.inl h)
  · exact .inr (.inr ⟨by have := t.size; omega, h.2⟩)
section
variable {w : World} {x room : Nat} {dg : Bool} {C M D : Nat → Bool} {U : Nat → Value} {Q : Nat → Pcs}
theorem rwrite_bad (x : Nat) (e : Int) (vb : Value) (w : World) (h0 : e ≠ 0) (h1 : e ≠ 1) :
    Calls Try.prog 26 #[.pointer (some ⟨x, 0, none⟩), .int .i64 e, vb] w fun y w' => y = .returned (.tuple #[.int .i64 0, .int .i64 (-10)]) ∧ w = w' := by
  have CK := Lib.hid (rcheck_bad x e w h0 h1)
  clear h0 h1
  go_enter Try.func26, Try.ntmps26
  go_wp2_with (go_at_call 75; (with_reducible refine CK.out.mono ?_); rintro y w' ⟨rfl, rfl⟩)
  go_ret2
  exact ⟨rfl, rfl⟩
theorem rwrite_closed0 (h : RAt w x dg room C M D U Q) (hc : C 0 = true) (vb : Value) :
    Calls Try.prog 26 #[.pointer (some ⟨x, 0, none⟩), .int .i64 0, vb] w fun y w' => y = .returned (.tuple #[.int .i64 0, .int .i64 (-24)]) ∧ w = w' := by
  have CK := Lib.hid (show Calls Try.prog 75 #[.pointer (some ⟨x, 0, none⟩), .int .i64 0] w fun y w' => y = .returned (.int .i64 (-24)) ∧ w = w' from rcheck0 h true hc)
  clear h hc
  go_enter Try.func26, Try.ntmps26
  go_wp2_with (go_at_call 75; (with_reducible refine CK.out.mono ?_); rintro y w' ⟨rfl, rfl⟩)
  go_ret2
  exact ⟨rfl, rfl⟩
theorem rwrite_peer0 (h : RAt w x dg room C M D U Q) (hc : C 0 = false) (hp : C 1 = true) (vb : Value) :
    Calls Try.prog 26 #[.pointer (some ⟨x, 0, none⟩), .int .i64 0, vb] w fun y w' => y = .returned (.tuple #[.int .i64 0, .int .i64 (-24)]) ∧ w = w' := by
  have CK := Lib.hid (show Calls Try.prog 75 #[.pointer (some ⟨x, 0, none⟩), .int .i64 0] w fun y w' => y = .returned (.int .i64 0) ∧ w = w' from rcheck0 h false hc)
  have c1 : w.cell? ⟨x, 2 + 1, none⟩ = some (.bool (C 1)) := h.cc 1 (by omega)
  rw [hp] at c1
  simp only [Nat.reduceAdd] at c1
  clear h hc hp
  go_enter Try.func26, Try.ntmps26
  go_wp2_with (go_at_call 75; (with_reducible refine CK.out.mono ?_); rintro y w' ⟨rfl, rfl⟩)
  go_ret2
  exact ⟨rfl, rfl⟩
theorem rwrite_state0 (h : RAt w x dg room C M D U Q) (hc : C 0 = false) (hp : C 1 = false) (hs : M 0 = true ∨ D 1 = true) (vb : Value) :
    Calls Try.prog 26 #[.pointer (some ⟨x, 0, none⟩), .int .i64 0, vb] w fun y w' => y = .returned (.tuple #[.int .i64 0, .int .i64 (-20)]) ∧ w = w' := by
  have CK := Lib.hid (show Calls Try.prog 75 #[.pointer (some ⟨x, 0, none⟩), .int .i64 0] w fun y w' => y = .returned (.int .i64 0) ∧ w = w' from rcheck0 h false hc)
  have c1 : w.cell? ⟨x, 2 + 1, none⟩ = some (.bool (C 1)) := h.cc 1 (by omega)
  have c2 : w.cell? ⟨x, 4 + 0, none⟩ = some (.bool (M 0)) := h.cm 0 (by omega)
  have c3 : w.cell? ⟨x, 6 + 1, none⟩ = some (.bool (D 1)) := h.cd 1 (by omega)
  rw [hp] at c1
  simp only [Nat.reduceAdd] at c1 c2 c3
  have two : (M 0 = true) ∨ (M 0 = false ∧ D 1 = true) := by
    cases hm : M 0 with
    | true => exact .inl rfl
    | false => rw [hm] at hs; rcases hs with h | h; · cases h
               · exact .inr ⟨rfl, h⟩
  generalize M 0 = a at *
  generalize D 1 = b at *
  clear h hc hp hs
  rcases two with rfl | ⟨rfl, rfl⟩
  all_goals
    go_enter Try.func26, Try.ntmps26
    go_wp2_with (go_at_call 75; (with_reducible refine CK.out.mono ?_); rintro y w' ⟨rfl, rfl⟩)
    go_ret2
    exact ⟨rfl, rfl⟩
set_option maxRecDepth 20000 in
set_option maxHeartbeats 1000000 in
/-- Refusals for want of room, and a stream's empty write. -/
theorem rwrite_no0 (h : RAt w x dg room C M D U Q) (hr : room ≤ 1048576) (hc : C 0 = false) (hp : C 1 = false) (hm : M 0 = false) (hd : D 1 = false) (hl : (pb (Q 1)).length ≤ room) (hql : (Q 1).length ≤ 2000000) (p : Option Addr) (n ca : Nat) (hn : n ≤ 1000000)
    (s : Int) (hs : (dg = true ∧ n = 0 ∧ s = -10) ∨ (dg = true ∧ 0 < n ∧ room < n ∧ s = -14) ∨ (dg = true ∧ 0 < n ∧ n ≤ room ∧ room - (pb (Q 1)).length < n ∧ s = -22) ∨ (dg = false ∧ n = 0 ∧ s = 0) ∨ (dg = false ∧ 0 < n ∧ room - (pb (Q 1)).length = 0 ∧ s = -22)) :
    Calls Try.prog 26 #[.pointer (some ⟨x, 0, none⟩), .int .i64 0, .slice p n ca] w fun y w' => y = .returned (.tuple #[.int .i64 0, .int .i64 s]) ∧ Turn NoBlock w w' := by
  have CK := Lib.hid (show Calls Try.prog 75 #[.pointer (some ⟨x, 0, none⟩), .int .i64 0] w fun y w' => y = .returned (.int .i64 0) ∧ w = w' from rcheck0 h false hc)
  have CL := Lib.hid (fun W (t : Turn NoBlock w W) => rlen1 (h.past t) (by omega) hql)
  have c1 : w.cell? ⟨x, 2 + 1, none⟩ = some (.bool (C 1)) := h.cc 1 (by omega)
  have c2 : w.cell? ⟨x, 4 + 0, none⟩ = some (.bool (M 0)) := h.cm 0 (by omega)
  have c3 : w.cell? ⟨x, 6 + 1, none⟩ = some (.bool (D 1)) := h.cd 1 (by omega)
  have c8 := h.c8
  have c9 := h.c9
  have cl := h.typ.lt
  rw [hp] at c1
  rw [hm] at c2
  rw [hd] at c3
  simp only [Nat.reduceAdd] at c1 c2 c3
  obtain ⟨fr, hfr⟩ : ∃ fr, room - (pb (Q 1)).length = fr := ⟨_, rfl⟩
  have hw : IntKind.i64.wrap ((room : Int) - ((pb (Q 1)).length : Nat)) = (fr : Int) := by
    rw [show (room : Int) - ((pb (Q 1)).length : Nat) = (fr : Int) by omega]
    exact wrap_nat fr (by omega)
  rw [hfr] at hs
  have hri : (room : Int) ≤ 1048576 := by omega
  have hni : (n : Int) ≤ 1000000 := by omega
  generalize (pb (Q 1)).length = ll at *
  have hsI : (dg = true ∧ n = 0 ∧ s = -10) ∨ (dg = true ∧ ¬ (n : Int) = 0 ∧ (room : Int) < n ∧ s = -14) ∨ (dg = true ∧ ¬ (n : Int) = 0 ∧ ¬ (room : Int) < n ∧ (fr : Int) < n ∧ s = -22) ∨ (dg = false ∧ n = 0 ∧ s = 0) ∨ (dg = false ∧ ¬ (n : Int) = 0 ∧ fr = 0 ∧ s = -22) := by
    rcases hs with h | h | h | h | h
    · exact .inl h
    · exact .inr (.inl ⟨h.1, by omega, by omega, h.2.2.2⟩)
    · exact .inr (.inr (.inl ⟨h.1, by omega, by omega, by omega, h.2.2.2.2⟩))
    · exact .inr (.inr (.inr (.inl h)))
    · exact .inr (.inr (.inr (.inr ⟨h.1, by omega, by omega, h.2.2.2⟩)))
  clear h hc hp hm hd hl hql hn hs hfr hr
  rcases hsI with ⟨rfl, rfl, rfl⟩ | ⟨rfl, h1, h2, rfl⟩ | ⟨rfl, h1, h2, h3, rfl⟩ | ⟨rfl, rfl, rfl⟩ | ⟨rfl, h1, rfl, rfl⟩
  all_goals
    go_enter Try.func26, Try.ntmps26
    go_wp2_with (go_at_call 75; (with_reducible refine CK.out.mono ?_); rintro y w' ⟨rfl, rfl⟩)
    go_region_held3 (fun w' => w'.cell? ⟨x, 9, none⟩ = some (.int .i64 (room : Int))) (first | exact c9) (first | (go_at_call 33; (with_reducible refine (CL.out _ (by first | exact Turn.refl _ _ | exact (Turn.refl _ _).drew)).mono ?_); rintro y w2 ⟨rfl, rfl⟩))
    go_wp2
    go_ret2
    exact ⟨rfl, (Turn.refl _ _).drew⟩
theorem rwrite_closed1 (h : RAt w x dg room C M D U Q) (hc : C 1 = true) (vb : Value) :
    Calls Try.prog 26 #[.pointer (some ⟨x, 0, none⟩), .int .i64 1, vb] w fun y w' => y = .returned (.tuple #[.int .i64 0, .int .i64 (-24)]) ∧ w = w' := by
  have CK := Lib.hid (show Calls Try.prog 75 #[.pointer (some ⟨x, 0, none⟩), .int .i64 1] w fun y w' => y = .returned (.int .i64 (-24)) ∧ w = w' from rcheck1 h true hc)
  clear h hc
  go_enter Try.func26, Try.ntmps26
  go_wp2_with (go_at_call 75; (with_reducible refine CK.out.mono ?_); rintro y w' ⟨rfl, rfl⟩)
  go_ret2
  exact ⟨rfl, rfl⟩
theorem rwrite_peer1 (h : RAt w x dg room C M D U Q) (hc : C 1 = false) (hp : C 0 = true) (vb : Value) :
    Calls Try.prog 26 #[.pointer (some ⟨x, 0, none⟩), .int .i64 1, vb] w fun y w' => y = .returned (.tuple #[.int .i64 0, .int .i64 (-24)]) ∧ w = w' := by
  have CK := Lib.hid (show Calls Try.prog 75 #[.pointer (some ⟨x, 0, none⟩), .int .i64 1] w fun y w' => y = .returned (.int .i64 0) ∧ w = w' from rcheck1 h false hc)
  have c1 : w.cell? ⟨x, 2 + 0, none⟩ = some (.bool (C 0)) := h.cc 0 (by omega)
  rw [hp] at c1
  simp only [Nat.reduceAdd] at c1
  clear h hc hp
  go_enter Try.func26, Try.ntmps26
  go_wp2_with (go_at_call 75; (with_reducible refine CK.out.mono ?_); rintro y w' ⟨rfl, rfl⟩)
  go_ret2
  exact ⟨rfl, rfl⟩
theorem rwrite_state1 (h : RAt w x dg room C M D U Q) (hc : C 1 = false) (hp : C 0 = false) (hs : M 1 = true ∨ D 0 = true) (vb : Value) :
    Calls Try.prog 26 #[.pointer (some ⟨x, 0, none⟩), .int .i64 1, vb] w fun y w' => y = .returned (.tuple #[.int .i64 0, .int .i64 (-20)]) ∧ w = w' := by
  have CK := Lib.hid (show Calls Try.prog 75 #[.pointer (some ⟨x, 0, none⟩), .int .i64 1] w fun y w' => y = .returned (.int .i64 0) ∧ w = w' from rcheck1 h false hc)
  have c1 : w.cell? ⟨x, 2 + 0, none⟩ = some (.bool (C 0)) := h.cc 0 (by omega)
  have c2 : w.cell? ⟨x, 4 + 1, none⟩ = some (.bool (M 1)) := h.cm 1 (by omega)
  have c3 : w.cell? ⟨x, 6 + 0, none⟩ = some (.bool (D 0)) := h.cd 0 (by omega)
  rw [hp] at c1
  simp only [Nat.reduceAdd] at c1 c2 c3
  have two : (M 1 = true) ∨ (M 1 = false ∧ D 0 = true) := by
    cases hm : M 1 with
    | true => exact .inl rfl
    | false => rw [hm] at hs; rcases hs with h | h; · cases h
               · exact .inr ⟨rfl, h⟩
  generalize M 1 = a at *
  generalize D 0 = b at *
  clear h hc hp hs
  rcases two with rfl | ⟨rfl, rfl⟩
  all_goals
    go_enter Try.func26, Try.ntmps26
    go_wp2_with (go_at_call 75; (with_reducible refine CK.out.mono ?_); rintro y w' ⟨rfl, rfl⟩)
    go_ret2
    exact ⟨rfl, rfl⟩
set_option maxRecDepth 20000 in
set_option maxHeartbeats 1000000 in
/-- Refusals for want of room, and a stream's empty write. -/
theorem rwrite_no1 (h : RAt w x dg room C M D U Q) (hr : room ≤ 1048576) (hc : C 1 = false) (hp : C 0 = false) (hm : M 1 = false) (hd : D 0 = false) (hl : (pb (Q 0)).length ≤ room) (hql : (Q 0).length ≤ 2000000) (p : Option Addr) (n ca : Nat) (hn : n ≤ 1000000)
    (s : Int) (hs : (dg = true ∧ n = 0 ∧ s = -10) ∨ (dg = true ∧ 0 < n ∧ room < n ∧ s = -14) ∨ (dg = true ∧ 0 < n ∧ n ≤ room ∧ room - (pb (Q 0)).length < n ∧ s = -22) ∨ (dg = false ∧ n = 0 ∧ s = 0) ∨ (dg = false ∧ 0 < n ∧ room - (pb (Q 0)).length = 0 ∧ s = -22)) :
    Calls Try.prog 26 #[.pointer (some ⟨x, 0, none⟩), .int .i64 1, .slice p n ca] w fun y w' => y = .returned (.tuple #[.int .i64 0, .int .i64 s]) ∧ Turn NoBlock w w' := by
  have CK := Lib.hid (show Calls Try.prog 75 #[.pointer (some ⟨x, 0, none⟩), .int .i64 1] w fun y w' => y = .returned (.int .i64 0) ∧ w = w' from rcheck1 h false hc)
  have CL := Lib.hid (fun W (t : Turn NoBlock w W) => rlen0 (h.past t) (by omega) hql)
  have c1 : w.cell? ⟨x, 2 + 0, none⟩ = some (.bool (C 0)) := h.cc 0 (by omega)
  have c2 : w.cell? ⟨x, 4 + 1, none⟩ = some (.bool (M 1)) := h.cm 1 (by omega)
  have c3 : w.cell? ⟨x, 6 + 0, none⟩ = some (.bool (D 0)) := h.cd 0 (by omega)
  have c8 := h.c8
  have c9 := h.c9
  have cl := h.typ.lt
  rw [hp] at c1
  rw [hm] at c2
  rw [hd] at c3
  simp only [Nat.reduceAdd] at c1 c2 c3
  obtain ⟨fr, hfr⟩ : ∃ fr, room - (pb (Q 0)).length = fr := ⟨_, rfl⟩
  have hw : IntKind.i64.wrap ((room : Int) - ((pb (Q 0)).length : Nat)) = (fr : Int) := by
    rw [show (room : Int) - ((pb (Q 0)).length : Nat) = (fr : Int) by omega]
    exact wrap_nat fr (by omega)
  rw [hfr] at hs
  have hri : (room : Int) ≤ 1048576 := by omega
  have hni : (n : Int) ≤ 1000000 := by omega
  generalize (pb (Q 0)).length = ll at *
  have hsI : (dg = true ∧ n = 0 ∧ s = -10) ∨ (dg = true ∧ ¬ (n : Int) = 0 ∧ (room : Int) < n ∧ s = -14) ∨ (dg = true ∧ ¬ (n : Int) = 0 ∧ ¬ (room : Int) < n ∧ (fr : Int) < n ∧ s = -22) ∨ (dg = false ∧ n = 0 ∧ s = 0) ∨ (dg = false ∧ ¬ (n : Int) = 0 ∧ fr = 0 ∧ s = -22) := by
    rcases hs with h | h | h | h | h
    · exact .inl h
    · exact .inr (.inl ⟨h.1, by omega, by omega, h.2.2.2⟩)
    · exact .inr (.inr (.inl ⟨h.1, by omega, by omega, by omega, h.2.2.2.2⟩))
    · exact .inr (.inr (.inr (.inl h)))
    · exact .inr (.inr (.inr (.inr ⟨h.1, by omega, by omega, h.2.2.2⟩)))
  clear h hc hp hm hd hl hql hn hs hfr hr
  rcases hsI with ⟨rfl, rfl, rfl⟩ | ⟨rfl, h1, h2, rfl⟩ | ⟨rfl, h1, h2, h3, rfl⟩ | ⟨rfl, rfl, rfl⟩ | ⟨rfl, h1, rfl, rfl⟩
  all_goals
    go_enter Try.func26, Try.ntmps26
    go_wp2_with (go_at_call 75; (with_reducible refine CK.out.mono ?_); rintro y w' ⟨rfl, rfl⟩)
    go_region_held3 (fun w' => w'.cell? ⟨x, 9, none⟩ = some (.int .i64 (room : Int))) (first | exact c9) (first | (go_at_call 33; (with_reducible refine (CL.out _ (by first | exact Turn.refl _ _ | exact (Turn.refl _ _).drew)).mono ?_); rintro y w2 ⟨rfl, rfl⟩))
    go_wp2
    go_ret2
    exact ⟨rfl, (Turn.refl _ _).drew⟩
end
end Go.Proofs.Ytocaebcbmfejbaa
