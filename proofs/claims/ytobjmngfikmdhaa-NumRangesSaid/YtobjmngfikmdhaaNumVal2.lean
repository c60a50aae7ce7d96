/-
  Plain arithmetic of whole numbers: what the school's product gives, and when ten digits are a number of 64 bits; no run of the program in this text.
-/
import Derived.Test.YtobjmngfikmdhaaNumVal
namespace Go.Proofs.Ytobjmngfikmdhaa
open Go.RowKit

def rowc (R : Nat → Int) (d : Int) (b : Nat → Int) : Nat → Int
  | 0 => 0
  | k + 1 => (R (k + 1) + d * b k + rowc R d b k) / 65536
def newrow (R : Nat → Int) (d : Int) (b : Nat → Int) (k : Nat) : Int :=
  if k < 5 then (R (k + 1) + d * b k + rowc R d b k) % 65536 else if k = 5 then rowc R d b 5 else 0
def row (a b : Nat → Int) : Nat → Nat → Int
  | 0 => fun _ => 0
  | i + 1 => newrow (row a b i) (a i) b
def rcar (a b : Nat → Int) (i k : Nat) : Int := rowc (row a b i) (a i) b k

theorem dig_mul (d e : Int) (h1 : 0 ≤ d ∧ d < 65536) (h2 : 0 ≤ e ∧ e < 65536) : 0 ≤ d * e ∧ d * e ≤ 4294836225 := by
  refine ⟨Int.mul_nonneg h1.1 h2.1, ?_⟩
  have : d * e ≤ 65535 * 65535 := Int.mul_le_mul (by omega) (by omega) h2.1 (by omega)
  omega
theorem rowc_bd (R : Nat → Int) (d : Int) (b : Nat → Int) (hR : ∀ k, 0 ≤ R k ∧ R k ≤ 65535) (hd : 0 ≤ d ∧ d < 65536) (hb : ∀ i, 0 ≤ b i ∧ b i < 65536) : ∀ k, 0 ≤ rowc R d b k ∧ rowc R d b k ≤ 65535 := by
  intro k
  induction k with
  | zero => exact ⟨Int.le_refl 0, by show (0 : Int) ≤ 65535; omega⟩
  | succ k ih =>
    have h1 := hR (k + 1)
    have h2 := dig_mul d (b k) hd (hb k)
    show 0 ≤ (R (k + 1) + d * b k + rowc R d b k) / 65536 ∧ (R (k + 1) + d * b k + rowc R d b k) / 65536 ≤ 65535
    omega
theorem newrow_bd (R : Nat → Int) (d : Int) (b : Nat → Int) (hR : ∀ k, 0 ≤ R k ∧ R k ≤ 65535) (hd : 0 ≤ d ∧ d < 65536) (hb : ∀ i, 0 ≤ b i ∧ b i < 65536) : ∀ k, 0 ≤ newrow R d b k ∧ newrow R d b k ≤ 65535 := by
  intro k
  have h := rowc_bd R d b hR hd hb 5
  unfold newrow
  split
  · omega
  · split <;> omega
theorem row_bd (a b : Nat → Int) (ha : ∀ i, 0 ≤ a i ∧ a i < 65536) (hb : ∀ i, 0 ≤ b i ∧ b i < 65536) : ∀ i k, 0 ≤ row a b i k ∧ row a b i k ≤ 65535 := by
  intro i
  induction i with
  | zero => intro k; exact ⟨Int.le_refl 0, by show (0 : Int) ≤ 65535; omega⟩
  | succ i ih => exact newrow_bd _ _ _ ih (ha i) hb
theorem rcar_bd (a b : Nat → Int) (ha : ∀ i, 0 ≤ a i ∧ a i < 65536) (hb : ∀ i, 0 ≤ b i ∧ b i < 65536) (i k : Nat) : 0 ≤ rcar a b i k ∧ rcar a b i k ≤ 65535 :=
  rowc_bd _ _ _ (row_bd a b ha hb i) (ha i) hb k

theorem newrow_step (R : Nat → Int) (d : Int) (b : Nat → Int) (k : Nat) (hk : k < 5) : R (k + 1) + d * b k + rowc R d b k = rowc R d b (k + 1) * 65536 + newrow R d b k := by
  unfold newrow
  rw [if_pos hk]
  show R (k + 1) + d * b k + rowc R d b k = (R (k + 1) + d * b k + rowc R d b k) / 65536 * 65536 + _
  omega
/-- The size of the row's six digits. -/
def val6 (x : Nat → Int) : Int := val5 x + x 5 * 1208925819614629174706176
theorem newrow_val (R : Nat → Int) (d : Int) (b : Nat → Int) (_ : R 6 = 0) :
    val6 (newrow R d b) * 65536 = val6 R - R 0 + d * val5 b * 65536 := by
  have s0 := newrow_step R d b 0 (by omega)
  have s1 := newrow_step R d b 1 (by omega)
  have s2 := newrow_step R d b 2 (by omega)
  have s3 := newrow_step R d b 3 (by omega)
  have s4 := newrow_step R d b 4 (by omega)
  have c0 : rowc R d b 0 = 0 := rfl
  have c5 : newrow R d b 5 = rowc R d b 5 := rfl
  rw [c0] at s0
  simp only [Nat.reduceAdd] at s0 s1 s2 s3 s4
  have e : d * val5 b = d * b 0 + d * b 1 * 65536 + d * b 2 * 4294967296 + d * b 3 * 281474976710656 + d * b 4 * 18446744073709551616 := by
    unfold val5
    simp only [Int.mul_add, ← Int.mul_assoc]
  rw [e]
  unfold val6 val5
  rw [c5]
  generalize d * b 0 = p0 at *
  generalize d * b 1 = p1 at *
  generalize d * b 2 = p2 at *
  generalize d * b 3 = p3 at *
  generalize d * b 4 = p4 at *
  omega
theorem mul_vals (a b : Nat → Int) :
    row a b 1 0 + row a b 2 0 * 65536 + row a b 3 0 * 4294967296 + row a b 4 0 * 281474976710656 + val6 (row a b 5) * 18446744073709551616 = val5 a * val5 b := by
  have r6 : ∀ i, row a b i 6 = 0 := fun i => by cases i <;> rfl
  have s0 := newrow_val (row a b 0) (a 0) b (r6 0)
  have s1 := newrow_val (row a b 1) (a 1) b (r6 1)
  have s2 := newrow_val (row a b 2) (a 2) b (r6 2)
  have s3 := newrow_val (row a b 3) (a 3) b (r6 3)
  have s4 := newrow_val (row a b 4) (a 4) b (r6 4)
  have e0 : newrow (row a b 0) (a 0) b = row a b 1 := rfl
  have e1 : newrow (row a b 1) (a 1) b = row a b 2 := rfl
  have e2 : newrow (row a b 2) (a 2) b = row a b 3 := rfl
  have e3 : newrow (row a b 3) (a 3) b = row a b 4 := rfl
  have e4 : newrow (row a b 4) (a 4) b = row a b 5 := rfl
  have z0 : val6 (row a b 0) = 0 := rfl
  have z1 : row a b 0 0 = 0 := rfl
  rw [e0, z0, z1] at s0
  rw [e1] at s1
  rw [e2] at s2
  rw [e3] at s3
  rw [e4] at s4
  have e : val5 a * val5 b = a 0 * val5 b + a 1 * val5 b * 65536 + a 2 * val5 b * 4294967296 + a 3 * val5 b * 281474976710656 + a 4 * val5 b * 18446744073709551616 := by
    conv => lhs; rw [val5]
    simp only [Int.add_mul, Int.mul_right_comm _ _ (val5 b)]
  rw [e]
  generalize a 0 * val5 b = q0 at *
  generalize a 1 * val5 b = q1 at *
  generalize a 2 * val5 b = q2 at *
  generalize a 3 * val5 b = q3 at *
  generalize a 4 * val5 b = q4 at *
  generalize val6 (row a b 1) = v1 at *
  generalize val6 (row a b 2) = v2 at *
  generalize val6 (row a b 3) = v3 at *
  generalize val6 (row a b 4) = v4 at *
  generalize val6 (row a b 5) = v5 at *
  omega

/-- The size of four digits. -/
def val4 (d : Nat → Int) : Int := d 0 + d 1 * 65536 + d 2 * 4294967296 + d 3 * 281474976710656
def signed (s : Bool) (v : Int) : Int := if s then -v else v
def hor (x : Nat → Int) (i : Nat) : Int :=
  if i = 0 then ((x 3 * 65536 + x 2) * 65536 + x 1) * 65536 + x 0 else if i = 1 then (x 3 * 65536 + x 2) * 65536 + x 1 else if i = 2 then x 3 * 65536 + x 2 else x 3
/-- The product's ten digits. -/
def pdig (a b : Nat → Int) (j : Nat) : Int := if j < 5 then row a b (j + 1) 0 else if j < 10 then row a b 5 (j - 4) else 0
theorem pdig_val (a b : Nat → Int) :
    val4 (pdig a b) + (pdig a b 4 + pdig a b 5 * 65536 + pdig a b 6 * 4294967296 + pdig a b 7 * 281474976710656 + pdig a b 8 * 18446744073709551616 + pdig a b 9 * 1208925819614629174706176) * 18446744073709551616 = val5 a * val5 b := by
  have h := mul_vals a b
  have e : ∀ j, j < 5 → pdig a b j = row a b (j + 1) 0 := fun j hj => if_pos hj
  have f : ∀ j, 5 ≤ j → j < 10 → pdig a b j = row a b 5 (j - 4) := fun j h1 h2 => by unfold pdig; rw [if_neg (by omega), if_pos h2]
  unfold val4
  rw [e 0 (by omega), e 1 (by omega), e 2 (by omega), e 3 (by omega), e 4 (by omega), f 5 (by omega) (by omega), f 6 (by omega) (by omega), f 7 (by omega) (by omega), f 8 (by omega) (by omega), f 9 (by omega) (by omega)]
  simp only [Nat.reduceAdd, Nat.reduceSub]
  unfold val6 val5 at h
  unfold val5
  rw [← h]
theorem pdig_bd (a b : Nat → Int) (ha : ∀ i, 0 ≤ a i ∧ a i < 65536) (hb : ∀ i, 0 ≤ b i ∧ b i < 65536) (j : Nat) : 0 ≤ pdig a b j ∧ pdig a b j < 65536 := by
  unfold pdig
  split
  · have := row_bd a b ha hb (j + 1) 0; omega
  · split
    · have := row_bd a b ha hb 5 (j - 4); omega
    · omega
end Go.Proofs.Ytobjmngfikmdhaa
