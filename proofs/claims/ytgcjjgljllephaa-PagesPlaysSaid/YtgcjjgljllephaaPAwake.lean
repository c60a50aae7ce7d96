/-
  The statements' fixed answer: true, in any world. No conditions.
-/
import Derived.Test.YtgcjjgljllephaaPShare
import Derived.Lib.SlBytesConst
namespace Go.Proofs.Ytgcjjgljllephaa
open Go.ChangeShapes Go.WideShapes Go.ChangeAt Go.RowKit

def A1 : List Pg := [⟨1, blank⟩, Pg.none]
def A2 : List Pg := [⟨1, putB blank 1 [97, 98]⟩, Pg.none]
def A3 : List Pg := [⟨2, putB blank 1 [97, 98]⟩, Pg.none]
section
variable {w : World} {a : Nat} {F : Nat → Prop}
theorem aw1 (h : PoolAt w a F (List.replicate 2 Pg.none)) : Calls Try.prog 14 #[.pointer (some ⟨a, 0, none⟩)] w fun x w' => x = .returned (.tuple #[.int .i64 0, .int .i64 0]) ∧ ∃ F', PoolAt w' a F' A1 ∧ Turn F w w' ∧ ∀ j, F' j → F j ∨ w.heap.size ≤ j := by
  have c := alloc_any h
  rw [show allocV (List.replicate 2 Pg.none) = 0 from by decide +kernel, show allocS (List.replicate 2 Pg.none) = 0 from by decide +kernel, show allocL (List.replicate 2 Pg.none) = A1 from by decide +kernel] at c
  exact c
theorem aw2 (h : PoolAt w a F A1) (v : Value) (hv : Src w v [97, 98]) : Calls Try.prog 25 #[.pointer (some ⟨a, 0, none⟩), .int .i64 0, .int .i64 1, v] w fun e w' => e = .returned (.int .i64 0) ∧ PoolAt w' a F A2 ∧ Turn F w w' := by
  have c := write_any h 0 1 v [97, 98] hv
  rw [show writeS A1 0 1 ([97, 98] : List UInt8).length = 0 from by decide +kernel, show writeL A1 0 1 [97, 98] = A2 from by decide +kernel] at c
  exact c
theorem aw3 (h : PoolAt w a F A2) : Calls Try.prog 17 #[.pointer (some ⟨a, 0, none⟩), .int .i64 0] w fun e w' => e = .returned (.int .i64 0) ∧ PoolAt w' a F A3 ∧ Turn F w w' := by
  have c := share_any h 0 (by decide +kernel)
  rw [show shareS A2 0 = 0 from by decide +kernel, show shareL A2 0 = A3 from by decide +kernel] at c
  exact c
theorem aw4 (h : PoolAt w a F A3) (v : Value) (hv : Src w v [120]) : Calls Try.prog 25 #[.pointer (some ⟨a, 0, none⟩), .int .i64 0, .int .i64 0, v] w fun e w' => e = .returned (.int .i64 (-20)) ∧ PoolAt w' a F A3 ∧ Turn F w w' := by
  have c := write_any h 0 0 v [120] hv
  rw [show writeS A3 0 0 ([120] : List UInt8).length = -20 from by decide +kernel, show writeL A3 0 0 [120] = A3 from by decide +kernel] at c
  exact c
theorem aw5 (h : PoolAt w a F A3) : Calls Try.prog 28 #[.pointer (some ⟨a, 0, none⟩)] w fun e w' => e = .returned (.int .i64 1) ∧ Turn NoBlock w w' := by
  refine (used_any h).mono ?_
  rintro e w' ⟨rfl, m, rfl⟩
  exact ⟨by rw [show usedN A3 = 1 from by decide +kernel]; rfl, (Turn.refl _ _).drewN m⟩
theorem src_two (w : World) (x y : UInt8) : Src (w.alloc (.cells #[.int .u8 (x.toNat : Int), .int .u8 (y.toNat : Int)] 5 (2, 3))) (.slice (some ⟨w.heap.size, 0, none⟩) 2 2) [x, y] := by
  refine .inr ⟨_, 0, 2, rfl, fun j hj => ?_⟩
  rw [Nat.zero_add, World.cell?_alloc_mark]
  have : j = 0 ∨ j = 1 := by simp at hj; omega
  rcases this with rfl | rfl <;> rfl
theorem src_one (w : World) (x : UInt8) : Src (w.alloc (.cells #[.int .u8 (x.toNat : Int)] 5 (1, 2))) (.slice (some ⟨w.heap.size, 0, none⟩) 1 1) [x] := by
  refine .inr ⟨_, 0, 1, rfl, fun j hj => ?_⟩
  rw [Nat.zero_add, World.cell?_alloc_mark]
  have : j = 0 := by simp at hj; omega
  subst this; rfl
end
theorem conv_two (w : World) (x y : Int) : Sem.run Try.prog (convert 31 31 (.slice (some ⟨w.heap.size, 0, none⟩) 2 2)) (w.alloc (.cells #[.int .u8 x, .int .u8 y] 5)) = .ok (.slice (some ⟨w.heap.size, 0, none⟩) 2 2) (w.alloc (.cells #[.int .u8 x, .int .u8 y] 5 (2, 3))) :=
  Lib.run_convert_bytes_const w 31 5 #[.int .u8 x, .int .u8 y] 2 2 bytes31 (by kernel_rfl)
theorem conv_one (w : World) (x : Int) : Sem.run Try.prog (convert 31 31 (.slice (some ⟨w.heap.size, 0, none⟩) 1 1)) (w.alloc (.cells #[.int .u8 x] 5)) = .ok (.slice (some ⟨w.heap.size, 0, none⟩) 1 1) (w.alloc (.cells #[.int .u8 x] 5 (1, 2))) :=
  Lib.run_convert_bytes_const w 31 5 #[.int .u8 x] 1 1 bytes31 (by kernel_rfl)
set_option maxRecDepth 20000 in
theorem awake_at (w : World) : Calls Try.prog 13 #[] w fun e w' => e = .returned (.bool true) ∧ Turn NoBlock w w' := by
  have c1 : Calls Try.prog 12 #[.int .i64 2] w _ := new_yes 2 w (by omega)
  have hcv2 := conv_two
  have hcv1 := conv_one
  have HS2 := Lib.hid (show ∀ w : World, Src (w.alloc (.cells #[.int .u8 97, .int .u8 98] 5 (2, 3))) (.slice (some ⟨w.heap.size, 0, none⟩) 2 2) [97, 98] from fun w => src_two w 97 98)
  have HS1 := Lib.hid (show ∀ w : World, Src (w.alloc (.cells #[.int .u8 120] 5 (1, 2))) (.slice (some ⟨w.heap.size, 0, none⟩) 1 1) [120] from fun w => src_one w 120)
  go_enter Try.func13, Try.ntmps13
  go_wp2_with (first
    | (go_at_call 12; (with_reducible refine c1.mono ?_); rintro x w1 ⟨rfl, F1, h1, t1, l1⟩; have K1 := Lib.hid (And.intro h1 (And.intro t1 l1)); clear h1 t1 l1)
    | (go_at_call 14; (with_reducible refine (aw1 K1.out.1).mono ?_); rintro x w2 ⟨rfl, F2, h2, t2, l2⟩; have K2 := Lib.hid (And.intro h2 (And.intro t2 l2)); clear h2 t2 l2)
    | (go_at_call 25; (with_reducible refine (aw2 (K2.out.1.past ((Turn.refl NoBlock _).alloc _)) _ (HS2.out _)).mono ?_); rintro x w3 ⟨rfl, h3, t3⟩; have K3 := Lib.hid (And.intro h3 (((Turn.refl F2 _).alloc _).trans t3 (fun _ h => .inl h))); clear h3 t3)
    | (go_at_call 17; (with_reducible refine (aw3 K3.out.1).mono ?_); rintro x w4 ⟨rfl, h4, t4⟩; have K4 := Lib.hid (And.intro h4 (K3.out.2.trans t4 (fun _ h => .inl h))); clear h4 t4)
    | (go_at_call 25; (with_reducible refine (aw4 (K4.out.1.past ((Turn.refl NoBlock _).alloc _)) _ (HS1.out _)).mono ?_); rintro x w5 ⟨rfl, h5, t5⟩; have K5 := Lib.hid (And.intro h5 (K4.out.2.trans (((Turn.refl F2 _).alloc _).trans t5 (fun _ h => .inl h)) (fun _ h => .inl h))); clear h5 t5)
    | (go_at_call 28; (with_reducible refine (aw5 K5.out.1).mono ?_); rintro x w6 ⟨rfl, t6⟩; have K6 := Lib.hid (K5.out.2.trans t6 (fun _ h => h.elim)); clear t6))
  go_ret
  obtain ⟨h1, t1, l1⟩ := K1.out
  obtain ⟨h2, t2, l2⟩ := K2.out
  have s1 := t1.size
  exact ⟨rfl, (t1.trans t2 (fun j hj => .inr (l1 j hj))).trans K6.out (fun j hj => by
    rcases l2 j hj with h | h
    · exact .inr (l1 j h)
    · right; omega)⟩
/-- The same behind anything. -/
theorem awake_b {w0 w : World} (h : Turn NoBlock w0 w) : Calls Try.prog 13 #[] w fun e w' => e = .returned (.bool true) ∧ Turn NoBlock w0 w' :=
  (awake_at w).mono fun _ _ hh => ⟨hh.1, h.trans hh.2 (fun _ h => .inl h)⟩
end Go.Proofs.Ytgcjjgljllephaa
