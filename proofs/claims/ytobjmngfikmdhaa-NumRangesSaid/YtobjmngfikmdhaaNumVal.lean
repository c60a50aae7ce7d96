/-
  Plain arithmetic of whole numbers with a sign and digits of the base 65536: what the reference's sums, products and reading give; no run of the program in this text.
-/
import Derived.Test.YtobjmngfikmdhaaNumMath2
namespace Go.Proofs.Ytobjmngfikmdhaa
open Go.RowKit

/-- The size of five digits. -/
def val5 (a : Nat → Int) : Int := a 0 + a 1 * 65536 + a 2 * 4294967296 + a 3 * 281474976710656 + a 4 * 18446744073709551616
/-- A whole number of at most five digits, with its sign. -/
def Num5 (a : Nat → Int) (s : Bool) (v : Int) : Prop := (∀ i, i < 5 → 0 ≤ a i ∧ a i < 65536) ∧ v = (if s then -val5 a else val5 a)

theorem ediv_bd (x : Int) (h : 0 ≤ x) (h2 : x < 131072) : 0 ≤ x / 65536 ∧ x / 65536 ≤ 1 := by omega

theorem all5 (P : Nat → Prop) (h0 : P 0) (h1 : P 1) (h2 : P 2) (h3 : P 3) (h4 : P 4) : ∀ i, i < 5 → P i := by
  intro i hi
  match i, hi with
  | 0, _ => exact h0
  | 1, _ => exact h1
  | 2, _ => exact h2
  | 3, _ => exact h3
  | 4, _ => exact h4

/-! ### Of -/
def quot (n : Int) : Nat → Int
  | 0 => n
  | i + 1 => (quot n i).tdiv 65536
def dig (n : Int) (i : Nat) : Int := if (quot n i).tmod 65536 < 0 then -(quot n i).tmod 65536 else (quot n i).tmod 65536

theorem tdm (n : Int) : n = n.tdiv 65536 * 65536 + n.tmod 65536 ∧ (0 ≤ n → 0 ≤ n.tdiv 65536 ∧ 0 ≤ n.tmod 65536 ∧ n.tmod 65536 < 65536) ∧ (n ≤ 0 → n.tdiv 65536 ≤ 0 ∧ n.tmod 65536 ≤ 0 ∧ -65536 < n.tmod 65536) := by
  rcases Int.le_total 0 n with h | h
  · rw [Int.tdiv_eq_ediv_of_nonneg h, Int.tmod_eq_emod_of_nonneg h]
    omega
  · obtain ⟨m, rfl⟩ : ∃ m, n = -m := ⟨-n, by omega⟩
    have hm : 0 ≤ m := by omega
    rw [Int.neg_tdiv, Int.neg_tmod, Int.tdiv_eq_ediv_of_nonneg hm, Int.tmod_eq_emod_of_nonneg hm]
    omega
theorem step_pos (n : Int) (h : 0 ≤ n) : 0 ≤ n.tdiv 65536 ∧ n.tdiv 65536 ≤ n ∧ n = n.tdiv 65536 * 65536 + n.tmod 65536 ∧ 0 ≤ n.tmod 65536 ∧ n.tmod 65536 < 65536 := by
  rw [Int.tdiv_eq_ediv_of_nonneg h, Int.tmod_eq_emod_of_nonneg h]
  omega
theorem step_neg (n : Int) (h : n ≤ 0) : n.tdiv 65536 ≤ 0 ∧ n ≤ n.tdiv 65536 ∧ n = n.tdiv 65536 * 65536 + n.tmod 65536 ∧ n.tmod 65536 ≤ 0 ∧ -65536 < n.tmod 65536 := by
  obtain ⟨m, rfl⟩ : ∃ m, n = -m := ⟨-n, by omega⟩
  have hm : 0 ≤ m := by omega
  rw [Int.neg_tdiv, Int.neg_tmod, Int.tdiv_eq_ediv_of_nonneg hm, Int.tmod_eq_emod_of_nonneg hm]
  omega
theorem quot_bd (n : Int) (h : fit n) : ∀ i, fit (quot n i) ∧ (0 ≤ n → 0 ≤ quot n i) ∧ (n < 0 → quot n i ≤ 0) := by
  intro i
  induction i with
  | zero => exact ⟨h, fun h => h, fun h => by show n ≤ 0; omega⟩
  | succ i ih =>
    obtain ⟨h1, h2, h3⟩ := ih
    unfold fit at *
    show (-9223372036854775808 ≤ (quot n i).tdiv 65536 ∧ (quot n i).tdiv 65536 ≤ 9223372036854775807) ∧ (0 ≤ n → 0 ≤ (quot n i).tdiv 65536) ∧ (n < 0 → (quot n i).tdiv 65536 ≤ 0)
    rcases Int.lt_or_le n 0 with hn | hn
    · have := step_neg (quot n i) (h3 hn)
      omega
    · have := step_pos (quot n i) (h2 hn)
      omega
theorem dig_cases (n : Int) (i : Nat) (h : fit n) : (0 ≤ (quot n i).tmod 65536 ∧ (quot n i).tmod 65536 = dig n i) ∨ ((quot n i).tmod 65536 < 0 ∧ (quot n i).tmod 65536 = -(dig n i) ∧ dig n i ≤ 65536) := by
  obtain ⟨h1, h2, h3⟩ := quot_bd n h i
  unfold dig
  split
  · rename_i hlt
    rcases Int.lt_or_le n 0 with hn | hn
    · have := step_neg (quot n i) (h3 hn)
      omega
    · have := step_pos (quot n i) (h2 hn)
      omega
  · omega
theorem dig_step (n : Int) (i : Nat) (h : fit n) : 0 ≤ dig n i ∧ dig n i < 65536 ∧ quot n i = quot n (i + 1) * 65536 + (if n < 0 then -(dig n i) else dig n i) := by
  obtain ⟨h1, h2, h3⟩ := quot_bd n h i
  have e : quot n (i + 1) = (quot n i).tdiv 65536 := rfl
  rw [e]
  unfold dig
  rcases Int.lt_or_le n 0 with hn | hn
  · have := step_neg (quot n i) (h3 hn)
    rw [if_pos hn]
    split <;> omega
  · have := step_pos (quot n i) (h2 hn)
    rw [if_neg (by omega)]
    split <;> omega
theorem of_num (n : Int) (h : fit n) : Num5 (dig n) (decide (n < 0)) n := by
  have s0 := dig_step n 0 h
  have s1 := dig_step n 1 h
  have s2 := dig_step n 2 h
  have s3 := dig_step n 3 h
  have s4 := dig_step n 4 h
  have b5 := quot_bd n h 5
  have e0 : quot n 0 = n := rfl
  rw [e0] at s0
  simp only [Nat.reduceAdd] at s0 s1 s2 s3 s4
  refine ⟨all5 _ ⟨s0.1, s0.2.1⟩ ⟨s1.1, s1.2.1⟩ ⟨s2.1, s2.2.1⟩ ⟨s3.1, s3.2.1⟩ ⟨s4.1, s4.2.1⟩, ?_⟩
  unfold val5
  unfold fit at *
  rcases Int.lt_or_le n 0 with hn | hn
  · simp only [if_pos hn, decide_eq_true hn] at *
    obtain ⟨-, -, b5⟩ := b5
    have b5 := b5 hn
    simp only [if_true]
    omega
  · have hn' : ¬ n < 0 := by omega
    simp only [if_neg hn', decide_eq_false hn'] at *
    obtain ⟨-, b5, -⟩ := b5
    have b5 := b5 hn
    simp only [Bool.false_eq_true, if_false]
    omega

/-! ### plus -/
def carry (a b : Nat → Int) : Nat → Int
  | 0 => 0
  | i + 1 => (a i + b i + carry a b i) / 65536
def psum (a b : Nat → Int) (i : Nat) : Int := (a i + b i + carry a b i) % 65536
theorem carry_bd (a b : Nat → Int) (ha : ∀ i, i < 5 → 0 ≤ a i ∧ a i < 65536) (hb : ∀ i, i < 5 → 0 ≤ b i ∧ b i < 65536) : ∀ i, i ≤ 5 → 0 ≤ carry a b i ∧ carry a b i ≤ 1 := by
  intro i
  induction i with
  | zero => intro _; exact ⟨Int.le_refl 0, by show (0 : Int) ≤ 1; omega⟩
  | succ i ih =>
    intro hi
    have h1 := ih (by omega)
    have h2 := ha i (by omega)
    have h3 := hb i (by omega)
    show 0 ≤ (a i + b i + carry a b i) / 65536 ∧ (a i + b i + carry a b i) / 65536 ≤ 1
    omega
theorem psum_step (a b : Nat → Int) (i : Nat) : a i + b i + carry a b i = carry a b (i + 1) * 65536 + psum a b i ∧ 0 ≤ psum a b i ∧ psum a b i < 65536 := by
  unfold psum
  show a i + b i + carry a b i = (a i + b i + carry a b i) / 65536 * 65536 + (a i + b i + carry a b i) % 65536 ∧ _
  omega
theorem plus_val (a b : Nat → Int) (ha : ∀ i, i < 5 → 0 ≤ a i ∧ a i < 65536) (hb : ∀ i, i < 5 → 0 ≤ b i ∧ b i < 65536) (h : val5 a + val5 b < 1208925819614629174706176) :
    carry a b 5 = 0 ∧ val5 (psum a b) = val5 a + val5 b := by
  have s0 := psum_step a b 0
  have s1 := psum_step a b 1
  have s2 := psum_step a b 2
  have s3 := psum_step a b 3
  have s4 := psum_step a b 4
  have c5 := carry_bd a b ha hb 5 (by omega)
  have c0 : carry a b 0 = 0 := rfl
  rw [c0] at s0
  simp only [Nat.reduceAdd] at s0 s1 s2 s3 s4
  unfold val5 at *
  omega

/-! ### minus -/
def borrow (a b : Nat → Int) : Nat → Int
  | 0 => 0
  | i + 1 => if a i - b i - borrow a b i < 0 then 1 else 0
def mdif (a b : Nat → Int) (i : Nat) : Int := if a i - b i - borrow a b i < 0 then a i - b i - borrow a b i + 65536 else a i - b i - borrow a b i
theorem borrow_bd (a b : Nat → Int) : ∀ i, 0 ≤ borrow a b i ∧ borrow a b i ≤ 1 := by
  intro i
  cases i with
  | zero => exact ⟨Int.le_refl 0, by show (0 : Int) ≤ 1; omega⟩
  | succ i =>
    show 0 ≤ (if a i - b i - borrow a b i < 0 then (1 : Int) else 0) ∧ (if a i - b i - borrow a b i < 0 then (1 : Int) else 0) ≤ 1
    split <;> omega
theorem mdif_cases (a b : Nat → Int) (i : Nat) : (a i - b i - borrow a b i < 0 ∧ mdif a b i = a i - b i - borrow a b i + 65536 ∧ borrow a b (i + 1) = 1) ∨ (0 ≤ a i - b i - borrow a b i ∧ mdif a b i = a i - b i - borrow a b i ∧ borrow a b (i + 1) = 0) := by
  have e : borrow a b (i + 1) = if a i - b i - borrow a b i < 0 then 1 else 0 := rfl
  rw [e]
  unfold mdif
  by_cases h : a i - b i - borrow a b i < 0
  · simp only [if_pos h]; exact .inl ⟨h, trivial, trivial⟩
  · simp only [if_neg h]; exact .inr ⟨by omega, trivial, trivial⟩
theorem mdif_bd (a b : Nat → Int) (i : Nat) (ha : 0 ≤ a i ∧ a i < 65536) (hb : 0 ≤ b i ∧ b i < 65536) : 0 ≤ mdif a b i ∧ mdif a b i < 65536 := by
  have h := mdif_cases a b i
  have c := borrow_bd a b i
  omega
theorem minus_val (a b : Nat → Int) (ha : ∀ i, i < 5 → 0 ≤ a i ∧ a i < 65536) (hb : ∀ i, i < 5 → 0 ≤ b i ∧ b i < 65536) (h : val5 b ≤ val5 a) :
    borrow a b 5 = 0 ∧ val5 (mdif a b) = val5 a - val5 b := by
  have s0 := mdif_cases a b 0
  have s1 := mdif_cases a b 1
  have s2 := mdif_cases a b 2
  have s3 := mdif_cases a b 3
  have s4 := mdif_cases a b 4
  have b0 := mdif_bd a b 0 (ha 0 (by omega)) (hb 0 (by omega))
  have b1 := mdif_bd a b 1 (ha 1 (by omega)) (hb 1 (by omega))
  have b2 := mdif_bd a b 2 (ha 2 (by omega)) (hb 2 (by omega))
  have b3 := mdif_bd a b 3 (ha 3 (by omega)) (hb 3 (by omega))
  have b4 := mdif_bd a b 4 (ha 4 (by omega)) (hb 4 (by omega))
  have e0 : mdif a b 0 + b 0 + borrow a b 0 = a 0 + borrow a b 1 * 65536 := by simp only [Nat.reduceAdd] at s0; omega
  have e1 : mdif a b 1 + b 1 + borrow a b 1 = a 1 + borrow a b 2 * 65536 := by simp only [Nat.reduceAdd] at s1; omega
  have e2 : mdif a b 2 + b 2 + borrow a b 2 = a 2 + borrow a b 3 * 65536 := by simp only [Nat.reduceAdd] at s2; omega
  have e3 : mdif a b 3 + b 3 + borrow a b 3 = a 3 + borrow a b 4 * 65536 := by simp only [Nat.reduceAdd] at s3; omega
  have e4 : mdif a b 4 + b 4 + borrow a b 4 = a 4 + borrow a b 5 * 65536 := by simp only [Nat.reduceAdd] at s4; omega
  have c0 : borrow a b 0 = 0 := rfl
  have c5 := borrow_bd a b 5
  clear s0 s1 s2 s3 s4
  rw [c0] at e0
  unfold val5 at *
  omega

/-! ### less -/
theorem less_val (a b : Nat → Int) (j : Nat) (hj : j < 5) (ha : ∀ i, i < 5 → 0 ≤ a i ∧ a i < 65536) (hb : ∀ i, i < 5 → 0 ≤ b i ∧ b i < 65536) (he : ∀ i, j < i → i < 5 → a i = b i) (hn : a j ≠ b j) :
    decide (a j < b j) = decide (val5 a < val5 b) := by
  have a0 := ha 0 (by omega)
  have a1 := ha 1 (by omega)
  have a2 := ha 2 (by omega)
  have a3 := ha 3 (by omega)
  have a4 := ha 4 (by omega)
  have b0 := hb 0 (by omega)
  have b1 := hb 1 (by omega)
  have b2 := hb 2 (by omega)
  have b3 := hb 3 (by omega)
  have b4 := hb 4 (by omega)
  rw [decide_eq_decide]
  unfold val5
  match j, hj with
  | 0, _ =>
    have := he 1 (by omega) (by omega); have := he 2 (by omega) (by omega); have := he 3 (by omega) (by omega); have := he 4 (by omega) (by omega)
    omega
  | 1, _ =>
    have := he 2 (by omega) (by omega); have := he 3 (by omega) (by omega); have := he 4 (by omega) (by omega)
    omega
  | 2, _ =>
    have := he 3 (by omega) (by omega); have := he 4 (by omega) (by omega)
    omega
  | 3, _ =>
    have := he 4 (by omega) (by omega)
    omega
  | 4, _ => omega
theorem val5_bd (a : Nat → Int) (ha : ∀ i, i < 5 → 0 ≤ a i ∧ a i < 65536) : 0 ≤ val5 a := by
  have a0 := ha 0 (by omega)
  have a1 := ha 1 (by omega)
  have a2 := ha 2 (by omega)
  have a3 := ha 3 (by omega)
  have a4 := ha 4 (by omega)
  unfold val5; omega
theorem val5_zero (a : Nat → Int) (ha : ∀ i, i < 5 → 0 ≤ a i ∧ a i < 65536) : val5 a = 0 ↔ a 0 = 0 ∧ a 1 = 0 ∧ a 2 = 0 ∧ a 3 = 0 ∧ a 4 = 0 := by
  have a0 := ha 0 (by omega)
  have a1 := ha 1 (by omega)
  have a2 := ha 2 (by omega)
  have a3 := ha 3 (by omega)
  have a4 := ha 4 (by omega)
  unfold val5; omega
end Go.Proofs.Ytobjmngfikmdhaa
