/-
  What the small calls of a channel answer: is there such an end, and is it open; the other one; how many messages wait. No conditions but that the channel is one that calls can make.
-/
import Derived.Test.YtcbphfpfdfgehaaCMod
namespace Go.Proofs.Ytcbphfpfdfgehaa
open Go.ChangeShapes Go.WideShapes Go.ChangeAt Go.RowKit

section
variable {w : World} {c depth N : Nat} {S : Nat → Sd} {V : Nat → SV}
theorem right_bad (c : Nat) (e : Int) (w : World) (h0 : e ≠ 0) (h1 : e ≠ 1) :
    Calls Try.prog 48 #[.pointer (some ⟨c, 0, none⟩), .int .i64 e] w fun x w' => x = .returned (.int .i64 (-10)) ∧ w = w' := by
  have b0 : (e != 0) = true := bne_iff_ne.2 h0
  have b1 : (e != 1) = true := bne_iff_ne.2 h1
  go_enter Try.func48, Try.ntmps48
  go_wp2
  go_ret
  exact ⟨rfl, rfl⟩
theorem right_yes (h : CMem w c depth N S V) {e : Nat} (he : e < 2) (ho : (S e).op = true) :
    Calls Try.prog 48 #[.pointer (some ⟨c, 0, none⟩), .int .i64 (e : Int)] w fun x w' => x = .returned (.int .i64 0) ∧ w = w' := by
  have hc := (h.s e he).c0
  rw [ho] at hc
  clear h ho
  have h2 : e = 0 ∨ e = 1 := by omega
  rcases h2 with rfl | rfl
  all_goals
    simp only [plc, Nat.reduceMul, Nat.reduceAdd] at hc
    go_enter Try.func48, Try.ntmps48
    go_wp2
    go_ret
    exact ⟨rfl, rfl⟩
theorem right_no (h : CMem w c depth N S V) {e : Nat} (he : e < 2) (ho : (S e).op = false) :
    Calls Try.prog 48 #[.pointer (some ⟨c, 0, none⟩), .int .i64 (e : Int)] w fun x w' => x = .returned (.int .i64 (-24)) ∧ w = w' := by
  have hc := (h.s e he).c0
  rw [ho] at hc
  clear h ho
  have h2 : e = 0 ∨ e = 1 := by omega
  rcases h2 with rfl | rfl
  all_goals
    simp only [plc, Nat.reduceMul, Nat.reduceAdd] at hc
    go_enter Try.func48, Try.ntmps48
    go_wp2
    go_ret
    exact ⟨rfl, rfl⟩
theorem other_any (e : Nat) (he : e < 2) (w : World) :
    Calls Try.prog 52 #[.int .i64 (e : Int)] w fun x w' => x = .returned (.int .i64 ((oth e : Nat) : Int)) ∧ w = w' := by
  have h2 : e = 0 ∨ e = 1 := by omega
  rcases h2 with rfl | rfl
  all_goals
    go_enter Try.func52, Try.ntmps52
    go_wp2
    go_ret
    exact ⟨rfl, rfl⟩
theorem count_any {o : Nat} {s : Sd} {v : SV} (h : SAt w c o s v) (h1 : s.an.length ≤ 1000000000) (h2 : s.ot.length ≤ 1000000000) :
    Calls Try.prog 51 #[.pointer (some ⟨c, o, none⟩)] w fun x w' => x = .returned (.int .i64 (s.ms.q.length : Nat)) ∧ ∃ n, w' = w.drewN n := by
  obtain ⟨p, pc, hp⟩ := h.rowA.sl
  obtain ⟨q, qc, hq⟩ := h.rowO.sl
  have c1 := h.c1
  have c2 := h.c2
  rw [hp] at c1
  rw [hq] at c2
  have e : ((s.ms.q.length : Nat) : Int) = (s.an.length : Int) + s.ot.length := by simp [Sd.ms, Sd.q]
  rw [e]
  clear h hp hq e
  generalize s.an.length = x at *
  generalize s.ot.length = y at *
  go_enter Try.func51, Try.ntmps51
  go_wp2
  go_quiet (fail)
  go_wp2
  go_ret
  exact ⟨rfl, _, rfl⟩
end
end Go.Proofs.Ytcbphfpfdfgehaa
