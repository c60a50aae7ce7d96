/-
  SpaceGuards' first region: its four numbers are laid into boxes, in whatever order.
-/
import Derived.Test.YtdddmjdlikjedaaLawGu3
namespace Go.Proofs.Ytdddmjdlikjedaa
open Go.ChangeShapes Go.WideShapes Go.ChangeAt Go.RowKit

/-- A region of a function's code. -/
def findGu (n : Nat) : Code → Option Code
  | .region k ops dr => if k = n then some (.region k ops dr) else none
  | .seq x y => match findGu n x with
    | some z => some z
    | none => findGu n y
  | .loop x => findGu n x
  | .block _ x => findGu n x
  | .cond _ x y => match findGu n x with
    | some z => some z
    | none => findGu n y
  | _ => none
noncomputable def regG (n : Nat) : Code := (Try.f12.body.bind (findGu n)).getD .skip
set_option maxRecDepth 100000 in
set_option maxHeartbeats 0 in
theorem gu_reg1 (one two x n : Int) (w : World) (K : Act → World → Prop) (post : Ending → World → Prop)
    (HK : Hid (∀ (b3 b4 b5 b6 : Nat) (y20 y21 y22 y23 y24 y25 y26 y27 : Value) (wx : World), Turn NoBlock w wx → Box4 wx b3 b4 b5 b6 one two x n → K ⟨(.agg #[.int .i64 one, .int .i64 two, .int .i64 x, .int .i64 n] :: .pointer (some ⟨w.heap.size, 0, none⟩) :: .bool false :: .pointer (some ⟨b3, 0, none⟩) :: .pointer (some ⟨b4, 0, none⟩) :: .pointer (some ⟨b5, 0, none⟩) :: .pointer (some ⟨b6, 0, none⟩) :: undef :: undef :: undef :: undef :: undef :: undef :: undef :: undef :: undef :: undef :: undef :: undef :: undef :: y20 :: y21 :: y22 :: y23 :: y24 :: y25 :: y26 :: y27 :: undef :: undef :: undef :: undef :: undef :: undef :: undef :: undef :: undef :: undef :: undef :: undef :: undef :: undef :: undef :: undef :: undef :: undef :: undef :: undef :: undef :: undef :: undef :: undef :: undef :: undef :: undef :: undef :: undef :: undef :: undef :: undef :: undef :: undef :: undef :: undef :: undef :: undef :: undef :: undef :: undef :: undef :: undef :: undef :: undef :: undef :: undef :: undef :: undef :: undef :: undef :: undef :: undef :: undef :: undef :: undef :: undef :: undef :: undef :: undef :: undef :: undef :: undef :: undef :: undef :: undef :: undef :: undef :: undef :: undef :: undef :: undef :: undef :: undef :: undef :: undef :: undef :: undef :: undef :: undef :: undef :: undef :: undef :: undef :: undef :: undef :: undef :: undef :: undef :: undef :: undef :: undef :: undef :: undef :: undef :: undef :: undef :: undef :: undef :: undef :: undef :: undef :: undef :: undef :: undef :: undef :: undef :: undef :: undef :: undef :: undef :: undef :: undef :: undef :: undef :: undef :: undef :: undef :: undef :: undef :: undef :: undef :: undef :: undef :: undef :: undef :: undef :: undef :: undef :: undef :: undef :: undef :: undef :: undef :: undef :: undef :: undef :: undef :: undef :: undef :: undef :: undef :: undef :: undef :: undef :: undef :: undef :: undef :: undef :: undef :: undef :: undef :: undef :: [] : List Value).toArray, []⟩ wx)) :
    Code.wp Try.prog (regG 1) (Exit.then K (bodyPost Try.prog Try.f12 post)) ⟨(.agg #[.int .i64 one, .int .i64 two, .int .i64 x, .int .i64 n] :: .pointer (some ⟨w.heap.size, 0, none⟩) :: .bool false :: undef :: undef :: undef :: undef :: undef :: undef :: undef :: undef :: undef :: undef :: undef :: undef :: undef :: undef :: undef :: undef :: undef :: undef :: undef :: undef :: undef :: undef :: undef :: undef :: undef :: undef :: undef :: undef :: undef :: undef :: undef :: undef :: undef :: undef :: undef :: undef :: undef :: undef :: undef :: undef :: undef :: undef :: undef :: undef :: undef :: undef :: undef :: undef :: undef :: undef :: undef :: undef :: undef :: undef :: undef :: undef :: undef :: undef :: undef :: undef :: undef :: undef :: undef :: undef :: undef :: undef :: undef :: undef :: undef :: undef :: undef :: undef :: undef :: undef :: undef :: undef :: undef :: undef :: undef :: undef :: undef :: undef :: undef :: undef :: undef :: undef :: undef :: undef :: undef :: undef :: undef :: undef :: undef :: undef :: undef :: undef :: undef :: undef :: undef :: undef :: undef :: undef :: undef :: undef :: undef :: undef :: undef :: undef :: undef :: undef :: undef :: undef :: undef :: undef :: undef :: undef :: undef :: undef :: undef :: undef :: undef :: undef :: undef :: undef :: undef :: undef :: undef :: undef :: undef :: undef :: undef :: undef :: undef :: undef :: undef :: undef :: undef :: undef :: undef :: undef :: undef :: undef :: undef :: undef :: undef :: undef :: undef :: undef :: undef :: undef :: undef :: undef :: undef :: undef :: undef :: undef :: undef :: undef :: undef :: undef :: undef :: undef :: undef :: undef :: undef :: undef :: undef :: undef :: undef :: undef :: undef :: undef :: undef :: undef :: undef :: undef :: undef :: undef :: [] : List Value).toArray, []⟩ (w.alloc (.cells #[.int .i64 one, .int .i64 two, .int .i64 x, .int .i64 n] 84)) := by
  conv => arg 2; whnf
  go_region
  all_goals
    go_wp2_with (fail)
    refine HK.out _ _ _ _ _ _ _ _ _ _ _ _ _ ?_ ⟨?_, ?_, ?_, ?_⟩
    · repeat (first | (with_reducible exact Turn.refl _ _) | (with_reducible refine Turn.drew ?_) | (with_reducible refine Turn.alloc ?_ _))
    all_goals
      repeat (first | (with_reducible refine drew_keep ?_) | ((with_reducible refine cell_newh ?_); simp only [World.size_alloc]; done) | (with_reducible refine alloc_keep ?_))
end Go.Proofs.Ytdddmjdlikjedaa
