/-
  SpaceGuards: what may be used, as the law's own function tells; making bytes ahead of a write.
-/
import Derived.Test.YtdddmjdlikjedaaLawGu
namespace Go.Proofs.Ytdddmjdlikjedaa
open Go.ChangeShapes Go.WideShapes Go.ChangeAt Go.RowKit

theorem alloc_keep {w : World} {p : Addr} {v : Value} {o : Obj} (h : w.cell? p = some v) : (w.alloc o).cell? p = some v := ((Turn.refl NoBlock w).alloc o).cell h id
theorem drew_keep {w : World} {p : Addr} {v : Value} (h : w.cell? p = some v) : w.drew.cell? p = some v := (Turn.refl NoBlock w).drew.cell h id
theorem cell_newh {w : World} {b : Nat} {v : Value} {t : TypeId} (h : w.heap.size = b) : (w.alloc (.cells #[v] t)).cell? ⟨b, 0, none⟩ = some v := by
  subst h
  have := cell_at (heap_alloc_new w (.cells #[v] t)) 0
  exact this
/-- The four numbers in their boxes. -/
structure Box4 (w : World) (b3 b4 b5 b6 : Nat) (one two x n : Int) : Prop where
  c3 : w.cell? ⟨b3, 0, none⟩ = some (.int .i64 one)
  c4 : w.cell? ⟨b4, 0, none⟩ = some (.int .i64 two)
  c5 : w.cell? ⟨b5, 0, none⟩ = some (.int .i64 x)
  c6 : w.cell? ⟨b6, 0, none⟩ = some (.int .i64 n)
theorem Box4.past {w w' : World} {b3 b4 b5 b6 : Nat} {one two x n : Int} (h : Box4 w b3 b4 b5 b6 one two x n) (t : Turn NoBlock w w') : Box4 w' b3 b4 b5 b6 one two x n :=
  ⟨t.cell h.c3 id, t.cell h.c4 id, t.cell h.c5 id, t.cell h.c6 id⟩
set_option maxRecDepth 20000 in
set_option maxHeartbeats 4000000 in
theorem may_any {w : World} {b3 b4 b5 b6 : Nat} {one two x n bit : Int} (h : Box4 w b3 b4 b5 b6 one two x n) (h1 : 0 ≤ one ∧ one ≤ 3) (h2 : 0 ≤ two ∧ two ≤ 3) (hx : 0 ≤ x ∧ x ≤ 128) (hn : 0 ≤ n ∧ n ≤ 128) (hb : bit = 1 ∨ bit = 2) :
    Calls Try.prog 45 #[.int .i64 bit, .pointer (some ⟨b6, 0, none⟩), .pointer (some ⟨b5, 0, none⟩), .pointer (some ⟨b3, 0, none⟩), .pointer (some ⟨b4, 0, none⟩)] w fun e w' => e = .returned (.bool (mayB one two x n bit)) ∧ w = w' := by
  obtain ⟨c3, c4, c5, c6⟩ := h
  have hw : IntKind.i64.wrap (x + n) = x + n := wrap_fit (by unfold fit; omega)
  have hand : ∀ q : Int, 0 ≤ q ∧ q ≤ 3 → (bits BinOp.and IntKind.i64 q bit != 0) = hasB q bit := fun q hq => by
    have o1 : q = 0 ∨ q = 1 ∨ q = 2 ∨ q = 3 := by omega
    rcases hb with rfl | rfl <;> rcases o1 with rfl | rfl | rfl | rfl <;> rfl
  have e1 := hand one h1
  have e2 := hand two h2
  have HE := Lib.hid (And.intro e1 e2)
  clear hand h1 h2 hx hn hb e1 e2
  by_cases hn0 : n = 0
  · subst hn0
    go_enter Try.func45, Try.ntmps45
    go_wp2
    go_ret
    exact ⟨by unfold mayB; simp, rfl⟩
  · by_cases hx1 : 64 ≤ x <;> by_cases hx2 : x + n ≤ 64
    all_goals
      go_enter Try.func45, Try.ntmps45
      go_wp2
      all_goals
        go_ret
        refine ⟨?_, rfl⟩
        obtain ⟨e1, e2⟩ := HE.out
        have hnb : (n == 0) = false := beq_eq_false_iff_ne.2 hn0
        have hnd : decide (n = 0) = false := decide_eq_false hn0
        unfold mayB
        rw [hnd, ← e1, ← e2]
        first
          | (have q1 : decide (64 ≤ x) = true := decide_eq_true (by omega)
             have q2 : decide (x + n ≤ 64) = true := decide_eq_true (by omega)
             rw [q1, q2]
             clear e1 e2 hnd
             simp_all
             done)
          | (have q1 : decide (64 ≤ x) = true := decide_eq_true (by omega)
             have q2 : decide (x + n ≤ 64) = false := decide_eq_false (by omega)
             rw [q1, q2]
             clear e1 e2 hnd
             simp_all
             done)
          | (have q1 : decide (64 ≤ x) = false := decide_eq_false (by omega)
             have q2 : decide (x + n ≤ 64) = true := decide_eq_true (by omega)
             rw [q1, q2]
             clear e1 e2 hnd
             simp_all
             done)
          | (have q1 : decide (64 ≤ x) = false := decide_eq_false (by omega)
             have q2 : decide (x + n ≤ 64) = false := decide_eq_false (by omega)
             rw [q1, q2]
             simp [hnb]
             done)
          | (have q1 : decide (64 ≤ x) = false := decide_eq_false (by omega)
             have q2 : decide (x + n ≤ 64) = false := decide_eq_false (by omega)
             rw [q1, q2]
             clear e1 e2 hnd
             simp_all
             done)
end Go.Proofs.Ytdddmjdlikjedaa
