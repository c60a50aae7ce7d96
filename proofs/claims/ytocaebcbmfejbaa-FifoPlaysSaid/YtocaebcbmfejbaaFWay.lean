/-
  What places of a ring tells, round by round: the bytes of its places, in order. No conditions but that the ring is in memory.
-/
import Derived.Test.YtocaebcbmfejbaaFRange
import Derived.OwnWalkIn
import Derived.TacticsInMore
import Derived.LoopNIn
import Derived.LoopIn
import Derived.OrdersIn
namespace Go.Proofs.Ytocaebcbmfejbaa
open Go.ChangeShapes Go.WideShapes Go.ChangeAt Go.RowKit Go.Shelf

theorem tmod_nat (a b : Nat) : Int.tmod (a : Int) (b : Int) = ((a % b : Nat) : Int) := by
  rw [Int.tmod_eq_emod_of_nonneg (by omega)]
  exact (Int.natCast_emod a b).symm
theorem fbehind {w : World} {c r count size g f : Nat} (h : FHd w c r count size g f) (hc : count ≤ 1024) (n : Nat) (hn : n ≤ 4096) :
    Calls Try.prog 99 #[.pointer (some ⟨c, r, none⟩), .int .i64 (n : Int)] w fun e w' => e = .returned (.int .i64 (((f + n) % count : Nat) : Int)) ∧ ∃ m, w' = w.drewN m := by
  have c1 := h.c1
  have c4 := h.c4
  have hl := h.lt
  have e1 : IntKind.i64.wrap ((f : Int) + (n : Int)) = ((f + n : Nat) : Int) := wrap_fit _ (by unfold fit; omega)
  have e2 := tmod_nat (f + n) count
  have e3 : ((f + n) % count : Nat) < 9223372036854775808 := by have := Nat.mod_lt (f + n) (show 0 < count by omega); omega
  have e4 := wrap_nat _ e3
  have e5 : (count : Int) ≠ 0 := by omega
  have e6 : ((count : Int) == 0) = false := by simp; omega
  have e7 : (count : Int) ≤ 1024 := by omega
  clear h hc hn
  go_enter Try.func99, Try.ntmps99
  go_wp2
  go_quiet (fail)
  go_wp2
  go_ret
  exact ⟨rfl, _, rfl⟩
theorem fplace {w : World} {c r count size g f : Nat} (h : FHd w c r count size g f) (hm : count * size ≤ 4096) (hs : 1 ≤ size) (hs2 : size ≤ 64) (n : Nat) (hn : n < count) (hc : count ≤ 1024) :
    Calls Try.prog 104 #[.pointer (some ⟨c, r, none⟩), .int .i64 (n : Int)] w fun e w' => e = .returned (.slice (some ⟨g, n * size, none⟩) size size) ∧ ∃ m, w' = w.drewN m := by
  have c2 := h.c2
  have c3 := h.c3
  have h1 : n * size + size ≤ count * size := by
    have : (n + 1) * size ≤ count * size := Nat.mul_le_mul_right _ hn
    rw [Nat.add_mul, Nat.one_mul] at this
    exact this
  have x1 : (n : Int) * (size : Int) = ((n * size : Nat) : Int) := (Int.natCast_mul _ _).symm
  have x3 : ((n : Int) + 1) * (size : Int) = ((n * size + size : Nat) : Int) := by rw [Int.add_mul, x1, Int.one_mul]; omega
  have e1 : IntKind.i64.wrap ((n : Int) * (size : Int)) = (n : Int) * (size : Int) := by rw [x1]; exact wrap_nat _ (by omega)
  have e2 : IntKind.i64.wrap ((n : Int) + 1) = (n : Int) + 1 := wrap_fit _ (by unfold fit; omega)
  have e3 : IntKind.i64.wrap (((n : Int) + 1) * (size : Int)) = ((n : Int) + 1) * (size : Int) := by rw [x3]; exact wrap_nat _ (by omega)
  have hT : Try.prog.underlying 35 = some (.slice (Try.prog.elem 35)) := by kernel_rfl
  have hS : ∀ w, (Go.sizeOf (Try.prog.elem 35)).run Try.prog w = .ok 1 w := fun w => by kernel_rfl
  have e4 : ∀ w, Sem.run Try.prog (Instr.slice 35 (.slice (some ⟨g, 0, none⟩) (count * size) (count * size)) (some (.int .i64 ((n : Int) * (size : Int)))) (some (.int .i64 (((n : Int) + 1) * (size : Int)))) (some (.int .i64 (((n : Int) + 1) * (size : Int))))) w = .ok (.slice (some ⟨g, n * size, none⟩) size size) w := by
    intro w
    rw [x1, x3]
    have := run_slice_lhm (P := Try.prog) w 35 (some ⟨g, 0, none⟩) (count * size) (count * size) hT .i64 .i64 .i64 ((n * size : Nat) : Int) ((n * size + size : Nat) : Int) ((n * size + size : Nat) : Int) (by omega) (by omega) (by omega) (by omega)
    rw [hS w] at this
    simp only [Result.andThen, Int.toNat_natCast] at this
    rw [this]
    have e5 : n * size + size - n * size = size := by omega
    unfold sliced
    rw [e5, if_neg (by omega)]
    simp [Addr.add_lit]
  clear h hm hs hs2 hn hc h1 hT hS x1 x3
  go_enter Try.func104, Try.ntmps104
  go_wp2
  go_quiet (fail)
  go_wp2
  go_ret
  exact ⟨rfl, _, rfl⟩
theorem fplaces (w : World) (a : Addr) (n k : Int) :
    Calls Try.prog 98 #[.pointer (some a), .int .i64 n, .int .i64 k] w fun e w' => e = .returned (.func (.func 103) #[] #[.pointer (some ⟨w.heap.size + 2, 0, none⟩), .pointer (some ⟨w.heap.size, 0, none⟩), .pointer (some ⟨w.heap.size + 1, 0, none⟩)]) ∧ w' = ((w.alloc (.cells #[.pointer (some a)] 139)).alloc (.cells #[.int .i64 n] 3)).alloc (.cells #[.int .i64 k] 3) := by
  go_enter Try.func98, Try.ntmps98
  go_wp2
  go_ret
  exact ⟨rfl, rfl⟩
end Go.Proofs.Ytocaebcbmfejbaa
