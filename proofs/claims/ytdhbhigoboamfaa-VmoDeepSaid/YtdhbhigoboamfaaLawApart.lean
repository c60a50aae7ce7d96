/-
  The statement PagesApart answers true at all bytes and all numbers.
-/
import Derived.Test.YtdhbhigoboamfaaPAwake
import Derived.Test.YtdhbhigoboamfaaPOwn
import Derived.Test.YtdhbhigoboamfaaLawOver
namespace Go.Proofs.Ytdhbhigoboamfaa
open Go.ChangeShapes Go.WideShapes Go.ChangeAt Go.RowKit

/-- Eight frames, the first with n users. -/
def A8 (n : Nat) (B : List UInt8) : List Pg := ⟨n, B⟩ :: List.replicate 7 Pg.none
/-- Eight frames: the first with n users, the second with one. -/
def Z8 (n : Nat) (B C : List UInt8) : List Pg := ⟨n, B⟩ :: ⟨1, C⟩ :: List.replicate 6 Pg.none
theorem a8_alloc {w : World} {a : Nat} {F : Nat → Prop} (h : PoolAt w a F (List.replicate 8 Pg.none)) : Calls Try.prog 32 #[.pointer (some ⟨a, 0, none⟩)] w fun x w' => x = .returned (.tuple #[.int .i64 0, .int .i64 0]) ∧ ∃ F', PoolAt w' a F' (A8 1 blank) ∧ Turn F w w' ∧ ∀ j, F' j → F j ∨ w.heap.size ≤ j := by
  have c := alloc_any h
  rw [show allocV (List.replicate 8 Pg.none) = 0 from by decide +kernel, show allocS (List.replicate 8 Pg.none) = 0 from by decide +kernel, show allocL (List.replicate 8 Pg.none) = A8 1 blank from by decide +kernel] at c
  exact c
theorem a8_at (n : Nat) (B : List UInt8) : pgAt (A8 n B) 0 = ⟨n, B⟩ := rfl
theorem z8_0 (n : Nat) (B C : List UInt8) : pgAt (Z8 n B C) 0 = ⟨n, B⟩ := rfl
theorem z8_1 (n : Nat) (B C : List UInt8) : pgAt (Z8 n B C) 1 = ⟨1, C⟩ := rfl
theorem a8_write {w : World} {a : Nat} {F : Nat → Prop} (h : PoolAt w a F (A8 1 blank)) (v : Value) (bs : List UInt8) (hv : Src w v bs) (hl : bs.length ≤ 64) :
    Calls Try.prog 41 #[.pointer (some ⟨a, 0, none⟩), .int .i64 0, .int .i64 0, v] w fun e w' => e = .returned (.int .i64 0) ∧ PoolAt w' a F (A8 1 (putB blank 0 bs)) ∧ Turn F w w' := by
  have c := write_any h 0 0 v bs hv
  have hw : writeS (A8 1 blank) 0 0 bs.length = 0 := by
    unfold writeS withinS usersL
    rw [a8_at]
    have : inB 0 bs.length = true := by unfold inB; exact decide_eq_true (by omega)
    rw [this]; rfl
  have hL : writeL (A8 1 blank) 0 0 bs = A8 1 (putB blank 0 bs) := by unfold writeL; rw [hw]; rfl
  rw [hw, hL] at c
  exact c
theorem a8_share {w : World} {a : Nat} {F : Nat → Prop} {n : Nat} {B : List UInt8} (h : PoolAt w a F (A8 (n + 1) B)) (hn : n < 1000) :
    Calls Try.prog 35 #[.pointer (some ⟨a, 0, none⟩), .int .i64 0] w fun e w' => e = .returned (.int .i64 0) ∧ PoolAt w' a F (A8 (n + 2) B) ∧ Turn F w w' := by
  have c := share_any h 0 (by unfold usersL; rw [a8_at]; simp; omega)
  have hS : shareS (A8 (n + 1) B) 0 = 0 := by unfold shareS usersL; rw [a8_at]; simp
  have hL : shareL (A8 (n + 1) B) 0 = A8 (n + 2) B := by unfold shareL usersL; rw [a8_at]; simp [A8]
  rw [hS, hL] at c
  exact c
theorem a8_own {w : World} {a : Nat} {F : Nat → Prop} {n : Nat} {B : List UInt8} (h : PoolAt w a F (A8 (n + 2) B)) (hn : n < 1000) :
    Calls Try.prog 37 #[.pointer (some ⟨a, 0, none⟩), .int .i64 0] w fun e w' => e = .returned (.tuple #[.int .i64 1, .int .i64 0]) ∧ ∃ F', PoolAt w' a F' (Z8 (n + 1) B B) ∧ Turn F w w' ∧ ∀ j, F' j → F j ∨ w.heap.size ≤ j := by
  have c := own_more h 0 ⟨n + 2, B⟩ rfl (by simp) (by simp; omega) (by simp [lowOf, A8, List.findIdx_cons, isFree, List.replicate, Pg.none])
  have hl : lowOf (A8 (n + 2) B) = 1 := by simp [lowOf, A8, List.findIdx_cons, isFree, List.replicate, Pg.none]
  rw [hl] at c
  exact c
theorem z8_users {w : World} {a : Nat} {F : Nat → Prop} {n : Nat} {B C : List UInt8} (h : PoolAt w a F (Z8 (n + 1) B C)) :
    Calls Try.prog 43 #[.pointer (some ⟨a, 0, none⟩), .int .i64 0] w fun e w' => e = .returned (.int .i64 ((n : Int) + 1)) ∧ w = w' := by
  have c := users_any h 0
  rw [show ((usersL (Z8 (n + 1) B C) 0 : Nat) : Int) = (n : Int) + 1 from by unfold usersL; rw [z8_0]; simp] at c
  exact c
theorem z8_users1 {w : World} {a : Nat} {F : Nat → Prop} {n : Nat} {B C : List UInt8} (h : PoolAt w a F (Z8 (n + 1) B C)) :
    Calls Try.prog 43 #[.pointer (some ⟨a, 0, none⟩), .int .i64 1] w fun e w' => e = .returned (.int .i64 1) ∧ w = w' := by
  have c := users_any h 1
  rw [show ((usersL (Z8 (n + 1) B C) 1 : Nat) : Int) = 1 from by unfold usersL; rw [z8_1]; simp] at c
  exact c
theorem z8_used {w : World} {a : Nat} {F : Nat → Prop} {n : Nat} {B C : List UInt8} (h : PoolAt w a F (Z8 (n + 1) B C)) :
    Calls Try.prog 44 #[.pointer (some ⟨a, 0, none⟩)] w fun e w' => e = .returned (.int .i64 2) ∧ ∃ m, w' = w.drewN m := by
  have c := used_any h
  rw [show ((usedN (Z8 (n + 1) B C) : Nat) : Int) = 2 from by simp [usedN, Z8, List.replicate, Pg.none, List.filter_cons]] at c
  exact c
theorem z8_read {w : World} {a : Nat} {F : Nat → Prop} {n : Nat} {B C : List UInt8} (h : PoolAt w a F (Z8 (n + 1) B C)) (hB : B.length = 64) :
    Calls Try.prog 39 #[.pointer (some ⟨a, 0, none⟩), .int .i64 0, .int .i64 0, .int .i64 64] w fun e w' => ∃ v, e = .returned (.tuple #[v, .int .i64 0]) ∧ Byts v B w' ∧ (∀ j, Blk v j → w.heap.size ≤ j) ∧ Turn NoBlock w w' := by
  have c := read_any h 0 0 64 (by unfold withinS usersL; rw [z8_0, if_neg (by simp), if_pos (by decide)])
  rw [show readB (Z8 (n + 1) B C) 0 0 64 = B from by unfold readB; rw [z8_0]; show (B.drop 0).take 64 = B; rw [List.drop_zero, List.take_of_length_le (by omega)]] at c
  exact c
theorem z8_read1 {w : World} {a : Nat} {F : Nat → Prop} {n : Nat} {B C : List UInt8} (h : PoolAt w a F (Z8 (n + 1) B C)) (o l : Nat) (hl : o + l ≤ 64) :
    Calls Try.prog 39 #[.pointer (some ⟨a, 0, none⟩), .int .i64 1, .int .i64 o, .int .i64 l] w fun e w' => ∃ v, e = .returned (.tuple #[v, .int .i64 0]) ∧ Byts v ((C.drop o).take l) w' ∧ (∀ j, Blk v j → w.heap.size ≤ j) ∧ Turn NoBlock w w' := by
  have c := read_any h 1 o l (by unfold withinS usersL; rw [z8_1, if_neg (by simp), if_pos (by unfold inB; exact decide_eq_true (by omega))])
  rw [show readB (Z8 (n + 1) B C) 1 o l = (C.drop o).take l from by unfold readB; rw [z8_1]; simp] at c
  exact c
theorem z8_write1 {w : World} {a : Nat} {F : Nat → Prop} {n : Nat} {B C : List UInt8} (h : PoolAt w a F (Z8 (n + 1) B C)) (o : Nat) (v : Value) (bs : List UInt8) (hv : Src w v bs) (hl : o + bs.length ≤ 64) :
    Calls Try.prog 41 #[.pointer (some ⟨a, 0, none⟩), .int .i64 1, .int .i64 o, v] w fun e w' => e = .returned (.int .i64 0) ∧ PoolAt w' a F (Z8 (n + 1) B (putB C o bs)) ∧ Turn F w w' := by
  have c := write_any h 1 o v bs hv
  have hw : writeS (Z8 (n + 1) B C) 1 o bs.length = 0 := by
    unfold writeS withinS usersL
    rw [z8_1]
    have : inB o bs.length = true := by unfold inB; exact decide_eq_true (by omega)
    rw [this]; rfl
  have hL : writeL (Z8 (n + 1) B C) 1 o bs = Z8 (n + 1) B (putB C o bs) := by unfold writeL; rw [hw, if_pos rfl, show usersL (Z8 (n + 1) B C) 1 = 1 from by unfold usersL; rw [z8_1], z8_1]; simp [Z8]
  rw [hw, hL] at c
  exact c
theorem put_back {l bs : List UInt8} {o : Nat} (h : o + bs.length ≤ l.length) : ((putB l o bs).drop o).take bs.length = bs := by
  unfold putB
  rw [List.drop_append_of_le_length (by rw [List.length_take]; omega), List.drop_of_length_le (by rw [List.length_take]; omega), List.nil_append, List.take_left]
/-- Bytes of the call's own are as they were behind a call on what is older. -/
theorem Byts.later {w0 w w' : World} {F : Nat → Prop} {v : Value} {bs : List UInt8} (h : Byts v bs w) (hb : ∀ j, Blk v j → w0.heap.size ≤ j) (t : Turn F w w') (hF : ∀ j, F j → j < w0.heap.size) : Byts v bs w' :=
  (own_byts v bs).kept _ _ _ h t (fun j hj e => by have := hb j hj; have := hF j e; omega)

abbrev shCells (pa pb : Option Addr) (la ca lb cb : Nat) (at0 more : Int) : Array Value := #[.slice pa la ca, .slice pb lb cb, .int .i64 at0, .int .i64 more]

set_option maxRecDepth 20000 in
set_option maxHeartbeats 4000000 in
theorem apart_past (pa pb : Option Addr) (la ca lb cb : Nat) (at0 more : Int) (w : World) (h : 64 < la ∨ at0 < 0 ∨ 64 < at0 ∨ (0 ≤ at0 ∧ at0 ≤ 64 ∧ 64 - at0 < (lb : Int)) ∨ more < 0 ∨ 5 < more) :
    Calls Try.prog 9 #[.agg (shCells pa pb la ca lb cb at0 more)] w fun e w' => e = .returned (.bool true) ∧ Turn NoBlock w w' := by
  have c1 : ∀ m, Calls Try.prog 30 #[.int .i64 8] ((w.alloc (.cells (shCells pa pb la ca lb cb at0 more) 76)).drewN m) _ := fun m => new_yes 8 _ (by omega)
  have HT0 := Lib.hid (fun m => show Turn NoBlock w ((w.alloc (.cells (shCells pa pb la ca lb cb at0 more) 76)).drewN m) from ((Turn.refl NoBlock w).alloc _).drewN m)
  have hcs : (64 : Int) < la ∨ ((la : Int) ≤ 64 ∧ at0 < 0) ∨ ((la : Int) ≤ 64 ∧ 0 ≤ at0 ∧ 64 < at0) ∨ ((la : Int) ≤ 64 ∧ 0 ≤ at0 ∧ at0 ≤ 64 ∧ 64 - at0 < (lb : Int)) ∨
      ((la : Int) ≤ 64 ∧ 0 ≤ at0 ∧ at0 ≤ 64 ∧ (lb : Int) ≤ 64 - at0 ∧ more < 0) ∨ ((la : Int) ≤ 64 ∧ 0 ≤ at0 ∧ at0 ≤ 64 ∧ (lb : Int) ≤ 64 - at0 ∧ 0 ≤ more ∧ 5 < more) := by omega
  clear h
  rcases hcs with h1 | ⟨h1, h2⟩ | ⟨h1, h2, h3⟩ | ⟨h1, h2, h3, h4⟩ | ⟨h1, h2, h3, h4, h5⟩ | ⟨h1, h2, h3, h4, h5, h6⟩
  all_goals
    go_enter Try.func9, Try.ntmps9
    go_wp2_with fail
    go_quiet (fail)
    go_wp2_with (first
      | (go_at_call 30; (with_reducible refine (c1 _).mono ?_); rintro x w1 ⟨rfl, F1, h1, t1, l1⟩; have K1 := Lib.hid ((HT0.out _).trans t1 (fun _ h => .inl h)); clear h1 t1 l1)
      | (go_at_call 31; (with_reducible refine (awake_b K1.out).mono ?_); rintro x w2 ⟨rfl, t2⟩; have K2 := Lib.hid t2; clear t2))
    go_ret
    exact ⟨rfl, K2.out⟩
end Go.Proofs.Ytdhbhigoboamfaa
