/-
  What New and Mapped answer.
-/
import Derived.Test.YtdddmjdlikjedaaGCut
namespace Go.Proofs.Ytdddmjdlikjedaa
open Go.ChangeShapes Go.WideShapes Go.ChangeAt Go.RowKit Go.Shelf

theorem new_any (size most : Int) (w : World) (h1 : isMul size) (h2 : size ≤ 4294967296) (h3 : 0 ≤ most ∧ most ≤ 65536) :
    Calls Try.prog 30 #[.int .i64 size, .int .i64 most] w fun e w' => e = .returned (.pointer (some ⟨w.heap.size, 0, none⟩)) ∧ w' = w.alloc (.cells #[.int .i64 size, .int .i64 most, .slice none 0 0] 114) := by
  have cM := mul_any size
  rw [show decide (isMul size) = true from decide_eq_true h1] at cM
  clear h1
  go_enter Try.func30, Try.ntmps30
  go_wp2_with (go_at_call 66; (with_reducible refine (cM _).mono ?_); rintro e w' ⟨rfl, rfl⟩)
  go_ret
  exact ⟨rfl, rfl⟩
theorem gmem_new (size most : Int) (w : World) : GMem (w.alloc (.cells #[.int .i64 size, .int .i64 most, .slice none 0 0] 114)) w.heap.size size most (.slice none 0 0) [] :=
  ⟨heap_alloc_new w _, prow_nil _⟩
theorem gok_new (size : Int) (h : 0 ≤ size ∧ size ≤ 4294967296) : GOK size [] := ⟨h, (fun p hp => by cases hp), List.Pairwise.nil⟩

theorem mapped_any {w : World} {a : Nat} {size most : Int} {v : Value} {l : List Pc} (h : GMem w a size most v l) (hl : ∀ p ∈ l, 0 ≤ p.len) (hs : sumP l ≤ 4611686018427387904) (hn : l.length ≤ 1048576) :
    Calls Try.prog 37 #[.pointer (some ⟨a, 0, none⟩)] w fun e w' => e = .returned (.int .i64 (sumP l)) ∧ Turn NoBlock w w' := by
  have c2 := h.c2
  have cT := total_any h.row hl hs hn
  clear h hl hs hn
  go_enter Try.func37, Try.ntmps37
  go_wp2_with (go_at_call 73; (with_reducible refine cT.mono ?_); rintro e w' ⟨rfl, t⟩)
  go_ret
  exact ⟨rfl, t⟩
end Go.Proofs.Ytdddmjdlikjedaa
