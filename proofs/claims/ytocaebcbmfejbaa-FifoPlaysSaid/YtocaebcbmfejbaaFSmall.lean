/-
  What the small calls of a fifo answer. No conditions but that the fifo is one that calls can make.
-/
import Derived.Test.YtocaebcbmfejbaaFTake
namespace Go.Proofs.Ytocaebcbmfejbaa
open Go.ChangeShapes Go.WideShapes Go.ChangeAt Go.RowKit

theorem fright_bad (c : Nat) (e : Int) (w : World) (h0 : e ≠ 0) (h1 : e ≠ 1) :
    Calls Try.prog 81 #[.pointer (some ⟨c, 0, none⟩), .int .i64 e] w fun x w' => x = .returned (.int .i64 (-10)) ∧ w = w' := by
  have b0 : (e != 0) = true := bne_iff_ne.2 h0
  have b1 : (e != 1) = true := bne_iff_ne.2 h1
  go_enter Try.func81, Try.ntmps81
  go_wp2
  go_ret
  exact ⟨rfl, rfl⟩
theorem ffull {w : World} {c r count size g f : Nat} {d bs : List UInt8} (h : FIn w c r count size d g f bs) (n : Nat) (hd : d.length = n * size) (h1 : 1 ≤ size) :
    Calls Try.prog 83 #[.pointer (some ⟨c, r, none⟩)] w fun x w' => x = .returned (.bool (decide (n = count))) ∧ ∃ m, w' = w.drewN m := by
  have c1 := h.hd.c1
  have c5 := h.c5
  rw [hd, Nat.mul_div_cancel _ (show 0 < size by omega)] at c5
  have e1 : ((n : Int) == (count : Int)) = decide (n = count) := by
    by_cases h : n = count
    · subst h; simp
    · have h2 : ¬ (n : Int) = (count : Int) := by omega
      simp [h, h2]
  clear h hd h1
  go_enter Try.func83, Try.ntmps83
  go_wp2
  go_quiet (fail)
  go_wp2
  go_ret
  exact ⟨rfl, _, rfl⟩
section
variable {w : World} {c count size : Nat} {K : Nat → Re} {G : Nat → Nat}
theorem fsize (h : FMem w c count size K G) : Calls Try.prog 46 #[.pointer (some ⟨c, 0, none⟩)] w fun x w' => x = .returned (.int .i64 (size : Int)) ∧ w = w' := by
  have hc := h.c0
  clear h
  go_enter Try.func46, Try.ntmps46
  go_wp2
  go_ret
  exact ⟨rfl, rfl⟩
theorem fright_yes0 (h : FMem w c count size K G) (ho : (K 0).op = true) :
    Calls Try.prog 81 #[.pointer (some ⟨c, 0, none⟩), .int .i64 0] w fun x w' => x = .returned (.int .i64 0) ∧ w = w' := by
  have hc : w.cell? ⟨c, 1, none⟩ = some (.bool (K 0).op) := (h.s 0 (by omega)).c0
  rw [ho] at hc
  clear h ho
  go_enter Try.func81, Try.ntmps81
  go_wp2
  go_ret
  exact ⟨rfl, rfl⟩
theorem fright_no0 (h : FMem w c count size K G) (ho : (K 0).op = false) :
    Calls Try.prog 81 #[.pointer (some ⟨c, 0, none⟩), .int .i64 0] w fun x w' => x = .returned (.int .i64 (-24)) ∧ w = w' := by
  have hc : w.cell? ⟨c, 1, none⟩ = some (.bool (K 0).op) := (h.s 0 (by omega)).c0
  rw [ho] at hc
  clear h ho
  go_enter Try.func81, Try.ntmps81
  go_wp2
  go_ret
  exact ⟨rfl, rfl⟩
theorem fother0 (w : World) : Calls Try.prog 82 #[.int .i64 0] w fun x w' => x = .returned (.int .i64 1) ∧ w = w' := by
  go_enter Try.func82, Try.ntmps82
  go_wp2
  go_ret
  exact ⟨rfl, rfl⟩
theorem flen0 (h : FMem w c count size K G) : Calls Try.prog 47 #[.pointer (some ⟨c, 0, none⟩), .int .i64 0] w fun x w' => x = .returned (.int .i64 (((K 0).d.length / size : Nat) : Int)) ∧ w = w' := by
  cases ho : (K 0).op with
  | false =>
    have HC := Lib.hid (fright_no0 h ho)
    have hd : (K 0).d.length / size = 0 := by rw [(h.ok 0 (by omega)).cl ho]; simp
    rw [hd]
    clear h ho hd
    go_enter Try.func47, Try.ntmps47
    go_wp2_with (go_at_call 81; (with_reducible refine HC.out.mono ?_); rintro x w2 ⟨rfl, rfl⟩)
    go_ret
    exact ⟨rfl, rfl⟩
  | true =>
    have HC := Lib.hid (fright_yes0 h ho)
    obtain ⟨f, bs, hi⟩ := (h.s 0 (by omega)).in' ho
    have c5 : w.cell? ⟨c, 6, none⟩ = some (.int .i64 (((K 0).d.length / size : Nat) : Int)) := hi.c5
    generalize (K 0).d.length / size = n at *
    clear h ho hi
    go_enter Try.func47, Try.ntmps47
    go_wp2_with (go_at_call 81; (with_reducible refine HC.out.mono ?_); rintro x w2 ⟨rfl, rfl⟩)
    go_ret
    exact ⟨rfl, rfl⟩
theorem fopen0 (h : FMem w c count size K G) : Calls Try.prog 48 #[.pointer (some ⟨c, 0, none⟩), .int .i64 0] w fun x w' => x = .returned (.bool (K 0).op) ∧ w = w' := by
  cases ho : (K 0).op with
  | false =>
    have HC := Lib.hid (fright_no0 h ho)
    clear h ho
    go_enter Try.func48, Try.ntmps48
    go_wp2_with (go_at_call 81; (with_reducible refine HC.out.mono ?_); rintro x w2 ⟨rfl, rfl⟩)
    go_ret
    exact ⟨rfl, rfl⟩
  | true =>
    have HC := Lib.hid (fright_yes0 h ho)
    clear h ho
    go_enter Try.func48, Try.ntmps48
    go_wp2_with (go_at_call 81; (with_reducible refine HC.out.mono ?_); rintro x w2 ⟨rfl, rfl⟩)
    go_ret
    exact ⟨rfl, rfl⟩
theorem fright_yes1 (h : FMem w c count size K G) (ho : (K 1).op = true) :
    Calls Try.prog 81 #[.pointer (some ⟨c, 0, none⟩), .int .i64 1] w fun x w' => x = .returned (.int .i64 0) ∧ w = w' := by
  have hc : w.cell? ⟨c, 7, none⟩ = some (.bool (K 1).op) := (h.s 1 (by omega)).c0
  rw [ho] at hc
  clear h ho
  go_enter Try.func81, Try.ntmps81
  go_wp2
  go_ret
  exact ⟨rfl, rfl⟩
theorem fright_no1 (h : FMem w c count size K G) (ho : (K 1).op = false) :
    Calls Try.prog 81 #[.pointer (some ⟨c, 0, none⟩), .int .i64 1] w fun x w' => x = .returned (.int .i64 (-24)) ∧ w = w' := by
  have hc : w.cell? ⟨c, 7, none⟩ = some (.bool (K 1).op) := (h.s 1 (by omega)).c0
  rw [ho] at hc
  clear h ho
  go_enter Try.func81, Try.ntmps81
  go_wp2
  go_ret
  exact ⟨rfl, rfl⟩
theorem fother1 (w : World) : Calls Try.prog 82 #[.int .i64 1] w fun x w' => x = .returned (.int .i64 0) ∧ w = w' := by
  go_enter Try.func82, Try.ntmps82
  go_wp2
  go_ret
  exact ⟨rfl, rfl⟩
theorem flen1 (h : FMem w c count size K G) : Calls Try.prog 47 #[.pointer (some ⟨c, 0, none⟩), .int .i64 1] w fun x w' => x = .returned (.int .i64 (((K 1).d.length / size : Nat) : Int)) ∧ w = w' := by
  cases ho : (K 1).op with
  | false =>
    have HC := Lib.hid (fright_no1 h ho)
    have hd : (K 1).d.length / size = 0 := by rw [(h.ok 1 (by omega)).cl ho]; simp
    rw [hd]
    clear h ho hd
    go_enter Try.func47, Try.ntmps47
    go_wp2_with (go_at_call 81; (with_reducible refine HC.out.mono ?_); rintro x w2 ⟨rfl, rfl⟩)
    go_ret
    exact ⟨rfl, rfl⟩
  | true =>
    have HC := Lib.hid (fright_yes1 h ho)
    obtain ⟨f, bs, hi⟩ := (h.s 1 (by omega)).in' ho
    have c5 : w.cell? ⟨c, 12, none⟩ = some (.int .i64 (((K 1).d.length / size : Nat) : Int)) := hi.c5
    generalize (K 1).d.length / size = n at *
    clear h ho hi
    go_enter Try.func47, Try.ntmps47
    go_wp2_with (go_at_call 81; (with_reducible refine HC.out.mono ?_); rintro x w2 ⟨rfl, rfl⟩)
    go_ret
    exact ⟨rfl, rfl⟩
theorem fopen1 (h : FMem w c count size K G) : Calls Try.prog 48 #[.pointer (some ⟨c, 0, none⟩), .int .i64 1] w fun x w' => x = .returned (.bool (K 1).op) ∧ w = w' := by
  cases ho : (K 1).op with
  | false =>
    have HC := Lib.hid (fright_no1 h ho)
    clear h ho
    go_enter Try.func48, Try.ntmps48
    go_wp2_with (go_at_call 81; (with_reducible refine HC.out.mono ?_); rintro x w2 ⟨rfl, rfl⟩)
    go_ret
    exact ⟨rfl, rfl⟩
  | true =>
    have HC := Lib.hid (fright_yes1 h ho)
    clear h ho
    go_enter Try.func48, Try.ntmps48
    go_wp2_with (go_at_call 81; (with_reducible refine HC.out.mono ?_); rintro x w2 ⟨rfl, rfl⟩)
    go_ret
    exact ⟨rfl, rfl⟩
end
/-- What an end shows. -/
def shF (count size : Nat) (s t : Re) : Nat := if s.op = false then 0 else (if s.d.length = 0 then 0 else 1) + (if t.op = false then 4 else if t.d.length = count * size then 0 else 2)
section
variable {w : World} {c count size : Nat} {K : Nat → Re} {G : Nat → Nat} (e : Int) (h0 : e ≠ 0) (h1 : e ≠ 1)
include h0 h1
theorem flen_bad (c : Nat) (w : World) : Calls Try.prog 47 #[.pointer (some ⟨c, 0, none⟩), .int .i64 e] w fun x w' => x = .returned (.int .i64 0) ∧ w = w' := by
  have HC := Lib.hid (fright_bad c e w h0 h1)
  clear h0 h1
  go_enter Try.func47, Try.ntmps47
  go_wp2_with (go_at_call 81; (with_reducible refine HC.out.mono ?_); rintro x w2 ⟨rfl, rfl⟩)
  go_ret
  exact ⟨rfl, rfl⟩
theorem fopen_bad (c : Nat) (w : World) : Calls Try.prog 48 #[.pointer (some ⟨c, 0, none⟩), .int .i64 e] w fun x w' => x = .returned (.bool false) ∧ w = w' := by
  have HC := Lib.hid (fright_bad c e w h0 h1)
  clear h0 h1
  go_enter Try.func48, Try.ntmps48
  go_wp2_with (go_at_call 81; (with_reducible refine HC.out.mono ?_); rintro x w2 ⟨rfl, rfl⟩)
  go_ret
  exact ⟨rfl, rfl⟩
theorem fshows_bad (c : Nat) (w : World) : Calls Try.prog 49 #[.pointer (some ⟨c, 0, none⟩), .int .i64 e] w fun x w' => x = .returned (.int .i64 0) ∧ w = w' := by
  have HC := Lib.hid (fright_bad c e w h0 h1)
  clear h0 h1
  go_enter Try.func49, Try.ntmps49
  go_wp2_with (go_at_call 81; (with_reducible refine HC.out.mono ?_); rintro x w2 ⟨rfl, rfl⟩)
  go_ret
  exact ⟨rfl, rfl⟩
theorem fclose_bad (c : Nat) (w : World) : Calls Try.prog 45 #[.pointer (some ⟨c, 0, none⟩), .int .i64 e] w fun x w' => x = .returned (.int .i64 (-10)) ∧ w = w' := by
  have HC := Lib.hid (fright_bad c e w h0 h1)
  clear h0 h1
  go_enter Try.func45, Try.ntmps45
  go_wp2_with (go_at_call 81; (with_reducible refine HC.out.mono ?_); rintro x w2 ⟨rfl, rfl⟩)
  go_ret
  exact ⟨rfl, rfl⟩
theorem fread_bad (c : Nat) (n : Int) (w : World) : Calls Try.prog 43 #[.pointer (some ⟨c, 0, none⟩), .int .i64 e, .int .i64 n] w fun x w' => x = .returned (.tuple #[.slice none 0 0, .int .i64 (-10)]) ∧ w = w' := by
  have HC := Lib.hid (fright_bad c e w h0 h1)
  clear h0 h1
  go_enter Try.func43, Try.ntmps43
  go_wp2_with (go_at_call 81; (with_reducible refine HC.out.mono ?_); rintro x w2 ⟨rfl, rfl⟩)
  go_ret2
  exact ⟨rfl, rfl⟩
theorem fwrite_bad (c : Nat) (p : Option Addr) (l ca : Nat) (w : World) : Calls Try.prog 41 #[.pointer (some ⟨c, 0, none⟩), .int .i64 e, .slice p l ca] w fun x w' => x = .returned (.tuple #[.int .i64 0, .int .i64 (-10)]) ∧ w = w' := by
  have HC := Lib.hid (fright_bad c e w h0 h1)
  clear h0 h1
  go_enter Try.func41, Try.ntmps41
  go_wp2_with (go_at_call 81; (with_reducible refine HC.out.mono ?_); rintro x w2 ⟨rfl, rfl⟩)
  go_ret2
  exact ⟨rfl, rfl⟩
end
end Go.Proofs.Ytocaebcbmfejbaa
