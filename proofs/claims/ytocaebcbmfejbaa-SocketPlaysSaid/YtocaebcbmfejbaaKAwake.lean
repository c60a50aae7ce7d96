/-
  What awake answers. No conditions.
-/
import Derived.Test.YtocaebcbmfejbaaKLaw
namespace Go.Proofs.Ytocaebcbmfejbaa
open Go.ChangeShapes Go.WideShapes Go.ChangeAt Go.RowKit

def abc6 : List UInt8 := [97, 98, 99, 100, 101, 102]
theorem conv_abc (w : World) : Sem.run Try.prog (convert 35 35 (.slice (some ⟨w.heap.size, 0, none⟩) 6 6)) (w.alloc (.cells #[.int .u8 97, .int .u8 98, .int .u8 99, .int .u8 100, .int .u8 101, .int .u8 102] 5)) = .ok (.slice (some ⟨w.heap.size, 0, none⟩) 6 6) (w.alloc (.cells #[.int .u8 97, .int .u8 98, .int .u8 99, .int .u8 100, .int .u8 101, .int .u8 102] 5 (6, 7))) :=
  Lib.run_convert_bytes_const w 35 5 #[.int .u8 97, .int .u8 98, .int .u8 99, .int .u8 100, .int .u8 101, .int .u8 102] 6 6 ch_bytes (by kernel_rfl)
theorem rk_abc (w : World) : Rk (w.alloc (.cells #[.int .u8 97, .int .u8 98, .int .u8 99, .int .u8 100, .int .u8 101, .int .u8 102] 5 (6, 7))) (.slice (some ⟨w.heap.size, 0, none⟩) 6 6) abc6 := by
  refine ⟨⟨_, 6, rfl, Nat.le_refl _⟩, RdB.rz ⟨rfl, _, 6, rfl, (fun h => by cases h), fun a ha => ?_⟩⟩
  cases ha
  refine ⟨_, 0, rfl, fun j hj => ?_⟩
  rw [Nat.zero_add, World.cell?_alloc_mark]
  have : j = 0 ∨ j = 1 ∨ j = 2 ∨ j = 3 ∨ j = 4 ∨ j = 5 := by simp [abc6] at hj; omega
  rcases this with rfl | rfl | rfl | rfl | rfl | rfl <;> rfl
def aK0 : Nat → En := fun _ => En.new
def aK1 : Nat → En := updN aK0 1 ⟨true, false, false, [97, 98, 99, 100], []⟩
theorem abc_write {w0 W : World} {c : Nat} (h : KSt w0 W c false 4 aK0 NoBlock) (vb : Value) (hr : Rk W vb abc6) : Calls Try.prog 25 #[.pointer (some ⟨c, 0, none⟩), .int .i64 0, vb] W fun x w' => x = .returned (.tuple #[.int .i64 4, .int .i64 0]) ∧ KSt w0 w' c false 4 aK1 NoBlock :=
  (h.write0 vb abc6 (by decide) hr).mono (fun x w' hh => ⟨hh.1, hh.2.1⟩)
theorem abc_read {w0 W : World} {c : Nat} (h : KSt w0 W c false 4 aK1 NoBlock) : Calls Try.prog 28 #[.pointer (some ⟨c, 0, none⟩), .int .i64 1, .int .i64 3, .bool true] W fun x w' => ∃ v, x = .returned (.tuple #[v, .int .i64 0]) ∧ KSt w0 w' c false 4 aK1 NoBlock ∧ Sem.run Try.prog (convert 35 9 v) w' = .ok (.string ⟨#[97, 98, 99]⟩) w' := by
  refine (h.read1 3 true).mono ?_
  rintro x w' ⟨v, rfl, hv, hk, -, -⟩
  exact ⟨v, rfl, hk.fewer (fun k hk => hk.elim), conv11 (Byts.rd hv)⟩
set_option maxRecDepth 20000 in
set_option maxHeartbeats 1000000 in
theorem awake12 (w : World) : Calls Try.prog 23 #[] w fun e w' => e = .returned (.bool true) ∧ Turn NoBlock w w' := by
  have c1 := knew_yes false 4 w (by omega) (by omega)
  rw [show ((4 : Nat) : Int) = 4 from rfl] at c1
  have hcv := conv_abc
  go_enter Try.func23, Try.ntmps23
  go_wp2_with (first
    | (go_at_call 32; (with_reducible refine (K3.out.len1).mono ?_); rintro x w4 ⟨rfl, rfl⟩)
    | (go_at_call 28; (with_reducible refine (abc_read K2.out).mono ?_); rintro x w3 ⟨v3, rfl, k3, r3⟩; have K3 := Lib.hid k3; clear k3)
    | (go_at_call 25; (with_reducible refine (abc_write (K1.out.past ((Turn.refl NoBlock _).alloc _)) _ (rk_abc _)).mono ?_); rintro x w2 ⟨rfl, k2⟩; have K2 := Lib.hid k2; clear k2)
    | (go_at_call 22; (with_reducible refine c1.mono ?_); rintro x w1 ⟨rfl, k1⟩; have K1 := Lib.hid (show KSt w w1 w.heap.size false 4 aK0 NoBlock from k1); clear k1))
  go_ret
  exact ⟨rfl, K3.out.turn⟩
end Go.Proofs.Ytocaebcbmfejbaa
