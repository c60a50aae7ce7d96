/-
  What Cut, List, Mapped and New answer. No conditions but that the pieces rise and lie in the region, and that arguments are numbers of 64 bits.
-/
import Derived.Test.YtdddmjdlikjedaaGreatGSplit
namespace Go.Proofs.YtdddmjdlikjedaaGreat
open Go.ChangeShapes Go.WideShapes Go.ChangeAt Go.RowKit Go.Shelf

def insL (l : List Pc) (k b : Nat) (x n : Int) : List Pc := (seg l k b).map (fun p => partP p x n)
def outL (l : List Pc) (k b : Nat) (x n : Int) : List Pc := (seg l k b).flatMap (outP x n)
theorem outP_len (x n : Int) (p : Pc) : (outP x n p).length ≤ 2 := by unfold outP; split <;> split <;> simp
theorem outL_len (l : List Pc) (k b : Nat) (x n : Int) : (outL l k b x n).length ≤ 2 * l.length := by
  have h1 : (seg l k b).length ≤ l.length := by unfold seg; rw [List.length_drop, List.length_take]; omega
  have h2 : ∀ m : List Pc, (m.flatMap (outP x n)).length ≤ 2 * m.length := fun m => by
    induction m with
    | nil => simp
    | cons p m ih => have := outP_len x n p; rw [List.flatMap_cons, List.length_append, List.length_cons]; omega
  have := h2 (seg l k b)
  unfold outL
  omega

/-- What Cut leaves when it cuts. -/
structure CutIs (w w' : World) (a : Nat) (size most : Int) (v vi : Value) (l li lo : List Pc) (k b : Nat) : Prop where
  row : PRow vi li w'
  fresh : ∀ j, Blk vi j → w.heap.size ≤ j
  ok : ∃ v' lo', lo'.Perm lo ∧ lo'.Pairwise (fun p q => p.at' ≤ q.at') ∧ GMem w' a size most v' (l.take k ++ lo' ++ l.drop b) ∧ (∀ j, GFoot a v' j → GFoot a v j ∨ w.heap.size ≤ j) ∧ ∀ j, Blk vi j → ¬ GFoot a v' j
  turn : Turn (GFoot a v) w w'

end Go.Proofs.YtdddmjdlikjedaaGreat
