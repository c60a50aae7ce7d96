/-
  What multiple, grid, protects, right, total, Size, Mapped of region answer. No conditions but that the numbers are a region's.
-/
import Derived.Test.YtdddmjdlikjedaaGPart
namespace Go.Proofs.Ytdddmjdlikjedaa
open Go.ChangeShapes Go.WideShapes Go.ChangeAt Go.RowKit

def isMul (n : Int) : Prop := 0 ≤ n ∧ n % 64 = 0
instance (n : Int) : Decidable (isMul n) := by unfold isMul; exact inferInstance
def isGrid (a n : Int) : Prop := isMul a ∧ isMul n ∧ 0 < n
instance (a n : Int) : Decidable (isGrid a n) := by unfold isGrid; exact inferInstance
def isProt (p : Int) : Prop := 0 ≤ p ∧ p ≤ 3
instance (p : Int) : Decidable (isProt p) := by unfold isProt; exact inferInstance

theorem mul_any (n : Int) (w : World) : Calls Try.prog 66 #[.int .i64 n] w fun e w' => e = .returned (.bool (decide (isMul n))) ∧ w = w' := by
  by_cases h0 : n < 0
  · rw [show decide (isMul n) = false from decide_eq_false (by unfold isMul; omega)]
    go_enter Try.func66, Try.ntmps66
    go_wp2
    go_ret
    exact ⟨rfl, rfl⟩
  · have h1 : 0 ≤ n := by omega
    have ht : Int.tmod n 64 = n % 64 := Int.tmod_eq_emod_of_nonneg h1
    by_cases h2 : n % 64 = 0
    · rw [show decide (isMul n) = true from decide_eq_true (by unfold isMul; omega)]
      have hb : (n % 64 == 0) = true := by simp [h2]
      clear h2
      go_enter Try.func66, Try.ntmps66
      go_wp2
      go_ret
      exact ⟨ret_bool (by simp_all), rfl⟩
    · rw [show decide (isMul n) = false from decide_eq_false (by unfold isMul; omega)]
      have hb : (n % 64 == 0) = false := by simp [h2]
      clear h2
      go_enter Try.func66, Try.ntmps66
      go_wp2
      go_ret
      exact ⟨ret_bool (by simp_all), rfl⟩
theorem prot_any (n : Int) (w : World) : Calls Try.prog 68 #[.int .i64 n] w fun e w' => e = .returned (.bool (decide (isProt n))) ∧ w = w' := by
  rcases (by omega : n < 0 ∨ (0 ≤ n ∧ n ≤ 3) ∨ (0 ≤ n ∧ 3 < n)) with h | ⟨h, h2⟩ | ⟨h, h2⟩
  · rw [show decide (isProt n) = false from decide_eq_false (by unfold isProt; omega)]
    go_enter Try.func68, Try.ntmps68
    go_wp2
    go_ret
    exact ⟨rfl, rfl⟩
  · rw [show decide (isProt n) = true from decide_eq_true (by unfold isProt; omega)]
    go_enter Try.func68, Try.ntmps68
    go_wp2
    go_ret
    exact ⟨rfl, rfl⟩
  · rw [show decide (isProt n) = false from decide_eq_false (by unfold isProt; omega)]
    go_enter Try.func68, Try.ntmps68
    go_wp2
    go_ret
    exact ⟨ret_bool (by simp; omega), rfl⟩
theorem grid_any (a n : Int) (w : World) : Calls Try.prog 67 #[.int .i64 a, .int .i64 n] w fun e w' => e = .returned (.bool (decide (isGrid a n))) ∧ w = w' := by
  have c1 := mul_any a w
  have c2 := mul_any n w
  by_cases h1 : isMul a
  · rw [show decide (isMul a) = true from decide_eq_true h1] at c1
    by_cases h2 : isMul n
    · rw [show decide (isMul n) = true from decide_eq_true h2] at c2
      by_cases h3 : 0 < n
      · rw [show decide (isGrid a n) = true from decide_eq_true ⟨h1, h2, h3⟩]
        clear h1 h2
        go_enter Try.func67, Try.ntmps67
        go_wp2_with (first | (go_at_call 66; (with_reducible refine c1.mono ?_); rintro e w' ⟨rfl, rfl⟩) | (go_at_call 66; (with_reducible refine c2.mono ?_); rintro e w' ⟨rfl, rfl⟩))
        go_ret
        exact ⟨rfl, rfl⟩
      · rw [show decide (isGrid a n) = false from decide_eq_false (fun h => h3 h.2.2)]
        clear h1 h2
        go_enter Try.func67, Try.ntmps67
        go_wp2_with (first | (go_at_call 66; (with_reducible refine c1.mono ?_); rintro e w' ⟨rfl, rfl⟩) | (go_at_call 66; (with_reducible refine c2.mono ?_); rintro e w' ⟨rfl, rfl⟩))
        go_ret
        exact ⟨ret_bool (by simp; omega), rfl⟩
    · rw [show decide (isMul n) = false from decide_eq_false h2] at c2
      rw [show decide (isGrid a n) = false from decide_eq_false (fun h => h2 h.2.1)]
      clear h1 h2
      go_enter Try.func67, Try.ntmps67
      go_wp2_with (first | (go_at_call 66; (with_reducible refine c1.mono ?_); rintro e w' ⟨rfl, rfl⟩) | (go_at_call 66; (with_reducible refine c2.mono ?_); rintro e w' ⟨rfl, rfl⟩))
      go_ret
      exact ⟨rfl, rfl⟩
  · rw [show decide (isMul a) = false from decide_eq_false h1] at c1
    rw [show decide (isGrid a n) = false from decide_eq_false (fun h => h1 h.1)]
    clear h1 c2
    go_enter Try.func67, Try.ntmps67
    go_wp2_with (go_at_call 66; (with_reducible refine c1.mono ?_); rintro e w' ⟨rfl, rfl⟩)
    go_ret
    exact ⟨rfl, rfl⟩

/-- What Cut and Protect ask of a range. -/
def rightS (size a n : Int) : Int := if isGrid a n then (if a + n ≤ size then 0 else -14) else -10
theorem right_any {w : World} {r : Nat} {size most : Int} {v : Value} {l : List Pc} (h : GMem w r size most v l) (ok : GOK size l) (a n : Int) (ha : fit a) (hn : fit n) :
    Calls Try.prog 71 #[.pointer (some ⟨r, 0, none⟩), .int .i64 a, .int .i64 n] w fun e w' => e = .returned (.int .i64 (rightS size a n)) ∧ w = w' := by
  have c0 := h.c0
  have c1 := grid_any a n w
  have ht := ok.top
  unfold rightS
  by_cases h1 : isGrid a n
  · rw [if_pos h1]
    rw [show decide (isGrid a n) = true from decide_eq_true h1] at c1
    by_cases h2 : a + n ≤ size
    · rw [if_pos h2]
      have c2 := gwithin_yes a n size w (by unfold isGrid isMul at h1; omega) (by omega)
      clear h ok h1 h2
      go_enter Try.func71, Try.ntmps71
      go_wp2_with (first | (go_at_call 67; (with_reducible refine c1.mono ?_); rintro e w' ⟨rfl, rfl⟩) | (go_at_call 52; (with_reducible refine c2.mono ?_); rintro e w' ⟨rfl, rfl⟩))
      go_ret
      exact ⟨rfl, rfl⟩
    · rw [if_neg h2]
      have c2 := gwithin_no a n size w (by omega) ha hn (by unfold fit; omega)
      clear h ok h1 h2
      go_enter Try.func71, Try.ntmps71
      go_wp2_with (first | (go_at_call 67; (with_reducible refine c1.mono ?_); rintro e w' ⟨rfl, rfl⟩) | (go_at_call 52; (with_reducible refine c2.mono ?_); rintro e w' ⟨rfl, rfl⟩))
      go_ret
      exact ⟨rfl, rfl⟩
  · rw [if_neg h1]
    rw [show decide (isGrid a n) = false from decide_eq_false h1] at c1
    clear h ok h1
    go_enter Try.func71, Try.ntmps71
    go_wp2_with (go_at_call 67; (with_reducible refine c1.mono ?_); rintro e w' ⟨rfl, rfl⟩)
    go_ret
    exact ⟨rfl, rfl⟩

def sumP (l : List Pc) : Int := (l.map (·.len)).sum
theorem sumP_take (l : List Pc) {k : Nat} {p : Pc} (h : l[k]? = some p) : sumP (l.take (k + 1)) = sumP (l.take k) + p.len := by
  unfold sumP
  rw [List.take_add_one, h]
  simp
theorem sumP_low {l : List Pc} (h : ∀ p ∈ l, 0 ≤ p.len) (k : Nat) : 0 ≤ sumP (l.take k) ∧ sumP (l.take k) ≤ sumP l := by
  unfold sumP
  induction l generalizing k with
  | nil => simp
  | cons p l ih =>
    have h1 := h p (by simp)
    have h2 := fun k => ih (fun q hq => h q (by simp [hq])) k
    cases k with
    | zero =>
      have := h2 l.length
      rw [List.take_length] at this
      simp
      simp at this
      omega
    | succ k =>
      have := h2 k
      simp at this ⊢
      omega
set_option maxRecDepth 20000 in
theorem total_any {w : World} {v : Value} {l : List Pc} (h : PRow v l w) (hl : ∀ p ∈ l, 0 ≤ p.len) (hs : sumP l ≤ 4611686018427387904) (hn : l.length ≤ 1048576) :
    Calls Try.prog 73 #[v] w fun e w' => e = .returned (.int .i64 (sumP l)) ∧ Turn NoBlock w w' := by
  obtain ⟨p, c, hv⟩ := h.slice
  have HL := Lib.hid (fun k => sumP_low hl k)
  have HR := Lib.hid h
  obtain ⟨n, hnn⟩ : ∃ n, l.length = n := ⟨_, rfl⟩
  rw [hnn] at hv hn
  have HN := Lib.hid (And.intro hnn hv)
  have HS := Lib.hid hs
  subst hv
  clear h hl hs hnn
  go_enter Try.func73, Try.ntmps73
  go_wp2
  go_loopg [3, 8] n (fun g s3 s8 wr => ∃ k : Nat, k ≤ n ∧ g = n - k ∧ s3 = .int .i64 (sumP (l.take k)) ∧ s8 = .int .i64 k ∧ Hid (Turn NoBlock w wr))
  case atStart => exact ⟨0, by omega, by omega, rfl, rfl, Lib.hid (Turn.refl _ _)⟩
  case round =>
    obtain ⟨k, hk, hg, rfl, rfl, HT⟩ := hrel
    by_cases hlt : k < n
    · obtain ⟨q, hq⟩ := gget_some (show k < l.length by rw [HN.out.1]; exact hlt)
      have hr := HR.out.past HT.out
      obtain ⟨g, c', he, -, -⟩ := hr.shape (by rw [HN.out.1]; omega)
      simp only [Value.slice.injEq] at he
      obtain ⟨rfl, -, rfl⟩ := he
      obtain ⟨c0, c1, c2, c3, c4⟩ := hr.five hq
      have e1 := sumP_take l hq
      have b1 := HL.out k
      have b2 := HL.out (k + 1)
      rw [e1] at b2
      have b3 := HS.out
      have E1 := Lib.hid e1
      generalize sumP (l.take k) = s at *
      have hfit : s + q.len ≤ 4611686018427387904 := by omega
      have hfit2 : 0 ≤ s + q.len := by omega
      obtain ⟨qa, ql, qv, qf, qr⟩ := q
      simp only at c0 c1 c2 c3 c4 hfit hfit2 E1
      clear hr hq e1 b1 b2 b3
      go_wp2
      go_roundg (n - (k + 1))
      case measure => omega
      case rel => exact ⟨k + 1, by omega, by omega, by rw [E1.out], by go_num, Lib.hid (HT.out.alloc _)⟩
    · obtain rfl : k = n := by omega
      rw [← HN.out.1, List.take_length] at *
      go_wp2
      go_ret
      exact ⟨rfl, HT.out⟩
end Go.Proofs.Ytdddmjdlikjedaa
