/-
  What New and Mapped answer.
-/
import Derived.Test.YtdddmjdlikjedaaGreatGCut
namespace Go.Proofs.YtdddmjdlikjedaaGreat
open Go.ChangeShapes Go.WideShapes Go.ChangeAt Go.RowKit Go.Shelf

theorem new_any (size most : Int) (w : World) (h1 : isMul size) (h2 : size ≤ 4294967296) (h3 : 0 ≤ most ∧ most ≤ 65536) :
    Calls Tryz.prog 15 #[.int .i64 size, .int .i64 most] w fun e w' => e = .returned (.pointer (some ⟨w.heap.size, 0, none⟩)) ∧ w' = w.alloc (.cells #[.int .i64 size, .int .i64 most, .slice none 0 0] 81) := by
  have cM := mul_any size
  rw [show decide (isMul size) = true from decide_eq_true h1] at cM
  clear h1
  go_enter Tryz.func15, Tryz.ntmps15
  go_wp2_with (go_at_call 30; (with_reducible refine (cM _).mono ?_); rintro e w' ⟨rfl, rfl⟩)
  go_ret
  exact ⟨rfl, rfl⟩
theorem gmem_new (size most : Int) (w : World) : GMem (w.alloc (.cells #[.int .i64 size, .int .i64 most, .slice none 0 0] 81)) w.heap.size size most (.slice none 0 0) [] :=
  ⟨heap_alloc_new w _, prow_nil _⟩
theorem gok_new (size : Int) (h : 0 ≤ size ∧ size ≤ 4294967296) : GOK size [] := ⟨h, (fun p hp => by cases hp), List.Pairwise.nil⟩

end Go.Proofs.YtdddmjdlikjedaaGreat
