/-
  Parts of the walk of ListsPlays: the ways that end ahead of its loop; what is kept of the lists, and of the reference's.
-/
import Derived.Test.YtpfoleaampcibaaAwake
import Derived.Test.YtpfoleaampcibaaSplice
import Derived.Test.YtpfoleaampcibaaCalls2
import Derived.Test.YtpfoleaampcibaaList
import Derived.Test.YtpfoleaampcibaaRefApi
import Derived.Test.YtpfoleaampcibaaOpArg
import Derived.Test.YtpfoleaampcibaaIntsEq
import Derived.Deep.DeepCutAuto
import Derived.Deep.CutBlock
import Derived.Deep.RegionHeld3
import Derived.Laws.MakeOwn
namespace Go.Proofs.Ytpfoleaampcibaa
open Go.ChangeShapes Go.WideShapes Go.ChangeAt Go.RowKit

set_option maxRecDepth 100000 in
theorem plays_none (q n : Int) (p : Option Addr) (len cap : Nat) (w : World) (h : q < 0 ∨ 65536 < q ∨ n < 0 ∨ 65536 < n) :
    Calls Try.prog 3 #[.int .i64 q, .int .i64 n, .slice p len cap] w fun e w' => e = .returned (.bool true) ∧ Turn NoBlock w w' := by
  have c1 := new_no q n w h
  have c2 := awake_any
  rcases (show q < 0 ∨ (0 ≤ q ∧ 65536 < q) ∨ (0 ≤ q ∧ q ≤ 65536 ∧ n < 0) ∨ (0 ≤ q ∧ q ≤ 65536 ∧ 0 ≤ n ∧ 65536 < n) from by omega) with g1 | ⟨g1, g2⟩ | ⟨g1, g2, g3⟩ | ⟨g1, g2, g3, g4⟩
  all_goals
    clear h
    go_enter Try.func3, Try.ntmps3
    go_wp2_with (first | (go_at_call 8; (with_reducible refine c1.mono ?_); rintro e w1 ⟨rfl, rfl⟩) | (go_at_call 9; (with_reducible refine (c2 _).mono ?_); rintro e w2 ⟨rfl, T2⟩; have T2' : Hid (Turn NoBlock _ w2) := T2; clear T2))
    go_ret
    exact ⟨rfl, T2'.out⟩

set_option maxRecDepth 100000 in
theorem plays_past (k n : Nat) (p : Option Addr) (len cap : Nat) (w : World) (hk : k ≤ 65536) (hn : n ≤ 65536) (h : 150 < len ∨ 20 < k) :
    Calls Try.prog 3 #[.int .i64 k, .int .i64 n, .slice p len cap] w fun e w' => e = .returned (.bool true) ∧ Turn NoBlock w w' := by
  have c1 := new_yes k n w hk hn
  have c2 := awake_any
  rcases (show (150 : Int) < len ∨ ((len : Int) ≤ 150 ∧ (20 : Int) < k) from by omega) with g1 | ⟨g1, g2⟩
  all_goals
    clear h
    go_enter Try.func3, Try.ntmps3
    go_wp2_with (first
      | (go_at_call 8; (with_reducible refine c1.mono ?_); rintro e w1 ⟨a, F, rfl, -, T1, -⟩; have T1' : Hid (Turn NoBlock w w1) := T1; clear T1)
      | (go_at_call 9; (with_reducible refine (c2 _).mono ?_); rintro e w9 ⟨rfl, T9⟩; have T9' : Hid (Turn NoBlock w w9) := (Hid.out T1').trans T9 (fun _ h => .inl h); clear T9))
    go_ret
    exact ⟨rfl, T9'.out⟩

/-- The lists, the reference's, and a third thing. -/
def PlSt (w wr : World) (a : Nat) (F : Nat → Prop) (x : Nat) (R : Nat → Prop) (n k : Nat) (L1 L2 : Nat → List Nat) (B : Nat → Prop) (A : World → Prop) : Prop :=
  St w wr F (fun w' => ListsAt w' a F n k L1) R (fun w' => RefAt w' x R n k L2) B A

section
variable {w wr wr' : World} {a x : Nat} {F R B : Nat → Prop} {n k : Nat} {L1 L2 L1' L2' : Nat → List Nat} {A : World → Prop}
theorem PlSt.lists (h : PlSt w wr a F x R n k L1 L2 B A) : ListsAt wr a F n k L1 := St.n1 h
theorem PlSt.ref (h : PlSt w wr a F x R n k L1 L2 B A) : RefAt wr x R n k L2 := St.n2 h
theorem PlSt.third (h : PlSt w wr a F x R n k L1 L2 B A) : A wr := St.n3 h
theorem PlSt.turn (h : PlSt w wr a F x R n k L1 L2 B A) : Turn NoBlock w wr := St.turn h
theorem PlSt.past (h : PlSt w wr a F x R n k L1 L2 B A) (ht : Turn NoBlock wr wr') : PlSt w wr' a F x R n k L1 L2 B A := St.past h ht
theorem PlSt.drew (h : PlSt w wr a F x R n k L1 L2 B A) : PlSt w wr.drew a F x R n k L1 L2 B A := St.drew h
theorem pl_step1 (h : PlSt w wr a F x R n k L1 L2 B A) (hA : ListsAt wr' a F n k L1') (hT : Turn F wr wr') : PlSt w wr' a F x R n k L1' L2 B A :=
  St.step1 h (lists_own a F n k L1') hA hT (fun _ hk => .inl hk)
theorem pl_step2 (h : PlSt w wr a F x R n k L1 L2 B A) (hN : RefNext wr x R n k L2' wr') : ∃ R', PlSt w wr' a F x R' n k L1 L2' B A := by
  obtain ⟨R', h1, h2, h3⟩ := hN
  exact ⟨R', St.step2 h (ref_own x R' n k L2') h1 h2 h3⟩
/-- The call that is done lies in a box of its own. -/
def OpBox (ob : Nat) (o : OpV) (w : World) : Prop := w.heap[ob]? = some (.cells #[.int .i64 o.kind, .int .i64 o.q, .int .i64 o.i] 31 (0, 0))
def OneB (ob : Nat) (j : Nat) : Prop := j = ob
theorem box_own (ob : Nat) (o : OpV) : Own (OneB ob) (OpBox ob o) := ⟨fun w w' G h ht hf => ht.heap h (hf ob rfl), fun w h j hj => by rw [show j = ob from hj]; exact lt_of_block h⟩
theorem OpBox.cells {ob : Nat} {o : OpV} {w : World} (h : OpBox ob o w) : w.cell? ⟨ob, 1, none⟩ = some (.int .i64 o.q) ∧ w.cell? ⟨ob, 2, none⟩ = some (.int .i64 o.i) := by
  constructor
  · simpa using cell_at h 1
  · simpa using cell_at h 2
theorem pl_box {o : OpV} (h : PlSt w wr a F x R n k L1 L2 B A) : PlSt w (wr.alloc (.cells #[.int .i64 o.kind, .int .i64 o.q, .int .i64 o.i] 31)) a F x R n k L1 L2 (OneB wr.heap.size) (OpBox wr.heap.size o) :=
  St.step3 h (box_own _ _) (heap_alloc_new wr _) ((Turn.refl _ _).alloc _) (fun j hj => .inr (by rw [show j = wr.heap.size from hj]; exact Nat.le_refl _))
theorem pl_nobox (h : PlSt w wr a F x R n k L1 L2 B A) : PlSt w wr a F x R n k L1 L2 NoBlock Nothing :=
  St.step3 h own_nothing trivial (Turn.refl _ _) (fun _ hj => hj.elim)
theorem PlSt.apart (h : PlSt w wr a F x R n k L1 L2 B A) : Apart n k L1 := h.lists.apart
end

theorem info41 : (Try.prog.info? 41).map (fun i => (i.zero, i.size, i.bytes)) = some (some (.slice none 0 0), 1, 24) := by kernel_rfl
theorem under27 : Try.prog.underlying 27 = some (.slice 41) := by kernel_rfl

/-- The reference's lists, laid anew. -/
theorem ref_new {w : World} {n k : Nat} {C : Array Value} (hC : ∀ i, i < k → C[i]? = some (.slice none 0 0)) :
    RefAt ((w.alloc (.cells C 41)).alloc (.cells #[.slice (some ⟨w.heap.size, 0, none⟩) k k, .int .i64 n] 29)) (w.heap.size + 1) (RFoot (w.heap.size + 1) w.heap.size k (fun _ => .slice none 0 0)) n k (fun _ => []) ∧
      ∀ j, RFoot (w.heap.size + 1) w.heap.size k (fun _ => .slice none 0 0) j → w.heap.size ≤ j := by
  have s1 := World.size_alloc w (.cells C 41)
  have h2 := heap_alloc_new (w.alloc (.cells C 41)) (.cells #[.slice (some ⟨w.heap.size, 0, none⟩) k k, .int .i64 n] 29)
  rw [s1] at h2
  refine ⟨⟨w.heap.size, fun _ => .slice none 0 0, ⟨h2, ⟨C, ?_, hC⟩, fun q hq => ints_nil _⟩, rfl⟩, fun j hj => ?_⟩
  · rw [Below.heap_alloc _ _ _ (by rw [s1]; omega)]; exact heap_alloc_new w _
  · rcases hj with hj | hj | ⟨q, _, hj⟩
    · omega
    · omega
    · exact (blk_nil j hj).elim

end Go.Proofs.Ytpfoleaampcibaa
