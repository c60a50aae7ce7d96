/-
  The statement ListsRefuse answers true at all pairs of numbers of 64 bits.
-/
import Derived.Test.YtpfoleaampcibaaAwake
import Derived.Test.YtpfoleaampcibaaList
import Derived.Test.YtpfoleaampcibaaIntsEq
import Derived.Test.YtpfoleaampcibaaSays2
namespace Go.Proofs.Ytpfoleaampcibaa
open Go.ChangeShapes Go.WideShapes Go.ChangeAt Go.RowKit

def reA : Nat → List Nat := pushL 5 2 (fun _ => []) 1 3
def reL : Nat → List Nat := pushL 5 2 reA 1 0

theorem re_where1 : whereOf 2 reL 1 = -1 := by decide
theorem re_where2 : whereOf 2 reL 2 = -1 := by decide
theorem re_where4 : whereOf 2 reL 4 = -1 := by decide
theorem re_where3 : whereOf 2 reL 3 = 1 := by decide
theorem re_where0 : whereOf 2 reL 0 = 1 := by decide
theorem re_list1 : listOf 2 reL 1 = [3, 0] := by decide
theorem re_list0 : listOf 2 reL 0 = [] := by decide

/-- Two numbers that a call itself lays. -/
theorem ints_new2 (w : World) (x y : Int) : Ints (.slice (some ⟨w.heap.size, 0, none⟩) 2 2) [x, y] (w.alloc (.cells #[.int .i64 x, .int .i64 y] 3)) := by
  exact ⟨rfl, .inr ⟨w.heap.size, 2, #[.int .i64 x, .int .i64 y], rfl, Nat.zero_le _, heap_alloc_new w _, Nat.le_refl _, by decide, rfl, rfl⟩⟩

def Want (q x S : Int) : Prop := (q < 0 ∧ S = -14) ∨ (0 ≤ q ∧ 1 < q ∧ S = -14) ∨ (0 ≤ q ∧ q ≤ 1 ∧ x < 0 ∧ S = -14) ∨ (0 ≤ q ∧ q ≤ 1 ∧ 0 ≤ x ∧ 4 < x ∧ S = -14) ∨ (0 ≤ q ∧ q ≤ 1 ∧ x = 3 ∧ S = -26) ∨ (0 ≤ q ∧ q ≤ 1 ∧ x = 0 ∧ S = -26)

set_option maxRecDepth 20000 in
set_option maxHeartbeats 2000000 in
theorem refuse_no (q x S : Int) (w : World) (hw : Want q x S) (hS : putS 5 2 reL q x = S) :
    Calls Try.prog 7 #[.int .i64 q, .int .i64 x] w fun e w' => e = .returned (.bool true) ∧ Turn NoBlock w w' := by
  have hS0 : S ≠ 0 := by rcases hw with h | h | h | h | h | h <;> omega
  have c1 : Calls Try.prog 8 #[.int .i64 2, .int .i64 5] w _ := new_yes 2 5 w (by decide) (by decide)
  have c2 : ∀ w a F, ListsAt w a F 5 2 (fun _ => []) → Calls Try.prog 10 #[.pointer (some ⟨a, 0, none⟩), .int .i64 1, .int .i64 3] w fun e w' => e = .returned (.int .i64 0) ∧ ListsAt w' a F 5 2 reA ∧ Turn F w w' := fun w a F h => push_any w a F 5 2 _ 1 3 h
  have c3 : ∀ w a F, ListsAt w a F 5 2 reA → Calls Try.prog 10 #[.pointer (some ⟨a, 0, none⟩), .int .i64 1, .int .i64 0] w fun e w' => e = .returned (.int .i64 0) ∧ ListsAt w' a F 5 2 reL ∧ Turn F w w' := fun w a F h => push_any w a F 5 2 _ 1 0 h
  have c4 : ∀ w a F, ListsAt w a F 5 2 reL → Calls Try.prog 10 #[.pointer (some ⟨a, 0, none⟩), .int .i64 q, .int .i64 x] w fun e w' => e = .returned (.int .i64 S) ∧ ListsAt w' a F 5 2 reL ∧ Turn F w w' := fun w a F h => by
    have := push_any w a F 5 2 reL q x h
    unfold pushL at this
    rw [hS, if_neg hS0] at this
    exact this
  have c5 : ∀ w a F, ListsAt w a F 5 2 reL → Calls Try.prog 22 #[.pointer (some ⟨a, 0, none⟩), .int .i64 0] w fun e w' => e = .returned (.int .i64 0) ∧ w = w' := fun w a F h => len_any w a F 5 2 _ 0 h
  have c6 : ∀ w a F, ListsAt w a F 5 2 reL → Calls Try.prog 25 #[.pointer (some ⟨a, 0, none⟩), .int .i64 1] w fun e w' => ∃ v, e = .returned v ∧ Ints v [3, 0] w' ∧ (∀ j, Blk v j → w.heap.size ≤ j) ∧ Turn NoBlock w w' := fun w a F h => list_any w a F 5 2 reL 1 h
  have c7 : ∀ w v, Ints v [3, 0] w → Calls Try.prog 24 #[v, .slice (some ⟨w.heap.size, 0, none⟩) 2 2] (w.alloc (.cells #[.int .i64 3, .int .i64 0] 3)) fun e w' => e = .returned (.bool true) ∧ ∃ n, w' = (w.alloc (.cells #[.int .i64 3, .int .i64 0] 3)).drewN n := fun w v h =>
    ints_same _ v _ [3, 0] (h.past ((Turn.refl _ _).alloc _)) (ints_new2 w 3 0) (by decide)
  have c8 : ∀ w a F, ListsAt w a F 5 2 reL → Calls Try.prog 12 #[.pointer (some ⟨a, 0, none⟩), .int .i64 q, .int .i64 x] w fun e w' => e = .returned (.int .i64 S) ∧ ListsAt w' a F 5 2 reL ∧ Turn F w w' := fun w a F h => by
    have := front_any w a F 5 2 reL q x h
    unfold frontL at this
    rw [hS, if_neg hS0] at this
    exact this
  have c9 := awake_any
  have hb : (S != 0) = true := by simpa using hS0
  clear hS hS0
  rcases hw with ⟨h1, rfl⟩ | ⟨h1, h2, rfl⟩ | ⟨h1, h2, h3, rfl⟩ | ⟨h1, h2, h3, h4, rfl⟩ | ⟨h1, h2, rfl, rfl⟩ | ⟨h1, h2, rfl, rfl⟩
  all_goals
    go_enter Try.func7, Try.ntmps7
    go_wp2_with (first
      | (go_at_call 8; (with_reducible refine c1.mono ?_); rintro e w1 ⟨a, F, rfl, A1, T1, L1⟩; have A1' : Hid (ListsAt w1 a F 5 2 (fun _ => [])) := A1; have T1' : Hid (Turn NoBlock w w1) := T1; have L1' : Hid (∀ k, F k → w.heap.size ≤ k) := L1; clear A1 T1 L1)
      | (go_at_call 10; (with_reducible refine (c2 _ _ _ (Hid.out A1')).mono ?_); rintro e w2 ⟨rfl, A2, T2⟩; have A2' : Hid (ListsAt w2 a F 5 2 reA) := A2; have T2' : Hid (Turn F w1 w2) := T2; clear A2 T2)
      | (go_at_call 10; (with_reducible refine (c3 _ _ _ (Hid.out A2')).mono ?_); rintro e w3 ⟨rfl, A3, T3⟩; have A3' : Hid (ListsAt w3 a F 5 2 reL) := A3; have T3' : Hid (Turn F w1 w3) := (Hid.out T2').then T3; clear A3 T3)
      | (go_at_call 10; (with_reducible refine (c4 _ _ _ (Hid.out A3')).mono ?_); rintro e w4 ⟨rfl, A4, T4⟩; have A4' : Hid (ListsAt w4 a F 5 2 reL) := A4; have T4' : Hid (Turn F w1 w4) := (Hid.out T3').then T4; clear A4 T4)
      | (go_at_call 22; (with_reducible refine (c5 _ _ _ (Hid.out A4')).mono ?_); rintro e w5 ⟨rfl, rfl⟩)
      | (go_at_call 25; (with_reducible refine (c6 _ _ _ (Hid.out A4')).mono ?_); rintro e w6 ⟨v, rfl, I6, -, T6⟩; have I6' : Hid (Ints v [3, 0] w6) := I6; have A6' : Hid (ListsAt w6 a F 5 2 reL) := (Hid.out A4').past T6; have T6' : Hid (Turn F w1 w6) := (Hid.out T4').then (T6.mono (fun _ h => h.elim)); clear I6 T6)
      | (go_at_call 24; (with_reducible refine (c7 _ _ (Hid.out I6')).mono ?_); rintro e w7 ⟨rfl, d, rfl⟩)
      | (go_at_call 12; (with_reducible refine (c8 _ _ _ ((Hid.out A6').past (((Turn.refl _ _).alloc _).drewN _))).mono ?_); rintro e w8 ⟨rfl, A8, T8⟩; have T8' : Hid (Turn F w1 w8) := ((Hid.out T6').then (((Turn.refl _ _).alloc _).drewN _)).then T8; clear A8 T8)
      | (go_at_call 9; (with_reducible refine (c9 _).mono ?_); rintro e w9 ⟨rfl, T9⟩; have T9' : Hid (Turn F w1 w9) := (Hid.out T8').then (T9.mono (fun _ h => h.elim)); clear T9))
    go_ret
    exact ⟨rfl, T1'.out.trans T9'.out (fun k h => .inr (L1'.out k h))⟩

set_option maxRecDepth 20000 in
set_option maxHeartbeats 2000000 in
theorem refuse_yes (q x : Int) (w : World) (h1 : 0 ≤ q) (h2 : q ≤ 1) (h3 : 0 ≤ x) (h4 : x ≤ 4) (h5 : x ≠ 3) (h6 : x ≠ 0) (hS : putS 5 2 reL q x = 0) :
    Calls Try.prog 7 #[.int .i64 q, .int .i64 x] w fun e w' => e = .returned (.bool true) ∧ Turn NoBlock w w' := by
  obtain ⟨hp1, hp2⟩ := push_where hS
  have c1 : Calls Try.prog 8 #[.int .i64 2, .int .i64 5] w _ := new_yes 2 5 w (by decide) (by decide)
  have c2 : ∀ w a F, ListsAt w a F 5 2 (fun _ => []) → Calls Try.prog 10 #[.pointer (some ⟨a, 0, none⟩), .int .i64 1, .int .i64 3] w fun e w' => e = .returned (.int .i64 0) ∧ ListsAt w' a F 5 2 reA ∧ Turn F w w' := fun w a F h => push_any w a F 5 2 _ 1 3 h
  have c3 : ∀ w a F, ListsAt w a F 5 2 reA → Calls Try.prog 10 #[.pointer (some ⟨a, 0, none⟩), .int .i64 1, .int .i64 0] w fun e w' => e = .returned (.int .i64 0) ∧ ListsAt w' a F 5 2 reL ∧ Turn F w w' := fun w a F h => push_any w a F 5 2 _ 1 0 h
  have c4 : ∀ w a F, ListsAt w a F 5 2 reL → Calls Try.prog 10 #[.pointer (some ⟨a, 0, none⟩), .int .i64 q, .int .i64 x] w fun e w' => e = .returned (.int .i64 0) ∧ ListsAt w' a F 5 2 (pushL 5 2 reL q x) ∧ Turn F w w' := fun w a F h => by
    have := push_any w a F 5 2 reL q x h
    rw [hS] at this
    exact this
  have c8 : ∀ w a F, ListsAt w a F 5 2 (pushL 5 2 reL q x) → Calls Try.prog 12 #[.pointer (some ⟨a, 0, none⟩), .int .i64 q, .int .i64 x] w fun e w' => e = .returned (.int .i64 (-26)) ∧ ListsAt w' a F 5 2 (pushL 5 2 reL q x) ∧ Turn F w w' := fun w a F h => by
    have := front_any w a F 5 2 _ q x h
    unfold frontL at this
    rw [hp2, if_neg (by decide)] at this
    exact this
  have c7 : ∀ w a F, ListsAt w a F 5 2 (pushL 5 2 reL q x) → Calls Try.prog 21 #[.pointer (some ⟨a, 0, none⟩), .int .i64 x] w fun e w' => e = .returned (.int .i64 q) ∧ w = w' := fun w a F h => by
    have := where_any w a F 5 2 _ x h
    rw [hp1] at this
    exact this
  have c9 := awake_any
  have hb1 : (x == 3) = false := by simpa using h5
  have hb2 : (x == 0) = false := by simpa using h6
  clear hS h5 h6 hp1 hp2
  go_enter Try.func7, Try.ntmps7
  go_wp2_with (first
    | (go_at_call 8; (with_reducible refine c1.mono ?_); rintro e w1 ⟨a, F, rfl, A1, T1, L1⟩; have A1' : Hid (ListsAt w1 a F 5 2 (fun _ => [])) := A1; have T1' : Hid (Turn NoBlock w w1) := T1; have L1' : Hid (∀ k, F k → w.heap.size ≤ k) := L1; clear A1 T1 L1)
    | (go_at_call 10; (with_reducible refine (c2 _ _ _ (Hid.out A1')).mono ?_); rintro e w2 ⟨rfl, A2, T2⟩; have A2' : Hid (ListsAt w2 a F 5 2 reA) := A2; have T2' : Hid (Turn F w1 w2) := T2; clear A2 T2)
    | (go_at_call 10; (with_reducible refine (c3 _ _ _ (Hid.out A2')).mono ?_); rintro e w3 ⟨rfl, A3, T3⟩; have A3' : Hid (ListsAt w3 a F 5 2 reL) := A3; have T3' : Hid (Turn F w1 w3) := (Hid.out T2').then T3; clear A3 T3)
    | (go_at_call 10; (with_reducible refine (c4 _ _ _ (Hid.out A3')).mono ?_); rintro e w4 ⟨rfl, A4, T4⟩; have A4' : Hid (ListsAt w4 a F 5 2 (pushL 5 2 reL q x)) := A4; have T4' : Hid (Turn F w1 w4) := (Hid.out T3').then T4; clear A4 T4)
    | (go_at_call 12; (with_reducible refine (c8 _ _ _ (Hid.out A4')).mono ?_); rintro e w8 ⟨rfl, A8, T8⟩; have A8' : Hid (ListsAt w8 a F 5 2 (pushL 5 2 reL q x)) := A8; have T8' : Hid (Turn F w1 w8) := (Hid.out T4').then T8; clear A8 T8)
    | (go_at_call 21; (with_reducible refine (c7 _ _ _ (Hid.out A8')).mono ?_); rintro e w7 ⟨rfl, rfl⟩)
    | (go_at_call 9; (with_reducible refine (c9 _).mono ?_); rintro e w9 ⟨rfl, T9⟩; have T9' : Hid (Turn F w1 w9) := (Hid.out T8').then (T9.mono (fun _ h => h.elim)); clear T9))
  go_ret
  exact ⟨rfl, T1'.out.trans T9'.out (fun k h => .inr (L1'.out k h))⟩

theorem refuse_walk (q x : Int) (w : World) : Calls Try.prog 7 #[.int .i64 q, .int .i64 x] w fun e w' => e = .returned (.bool true) ∧ Turn NoBlock w w' := by
  by_cases hin : inQ 2 q ∧ inQ 5 x
  · obtain ⟨i, rfl, hi⟩ := inQ_nat hin.1
    obtain ⟨j, rfl, hj⟩ := inQ_nat hin.2
    have hp : ∀ z, whereOf 2 reL j = z → putS 5 2 reL i j = if z = -1 then 0 else -26 := fun z hz => by
      unfold putS
      rw [if_pos hin, Int.toNat_natCast, hz]
    match j, hj with
    | 0, _ => exact refuse_no _ _ (-26) w (.inr (.inr (.inr (.inr (.inr ⟨by omega, by omega, rfl, rfl⟩))))) (hp 1 re_where0)
    | 1, _ => exact refuse_yes _ _ w (by omega) (by omega) (by omega) (by omega) (by omega) (by omega) (hp (-1) re_where1)
    | 2, _ => exact refuse_yes _ _ w (by omega) (by omega) (by omega) (by omega) (by omega) (by omega) (hp (-1) re_where2)
    | 3, _ => exact refuse_no _ _ (-26) w (.inr (.inr (.inr (.inr (.inl ⟨by omega, by omega, rfl, rfl⟩))))) (hp 1 re_where3)
    | 4, _ => exact refuse_yes _ _ w (by omega) (by omega) (by omega) (by omega) (by omega) (by omega) (hp (-1) re_where4)
  · have hp : putS 5 2 reL q x = -14 := by unfold putS; rw [if_neg hin]
    refine refuse_no q x (-14) w ?_ hp
    unfold inQ at hin
    unfold Want
    omega

end Go.Proofs.Ytpfoleaampcibaa
