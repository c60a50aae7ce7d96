/-
  The names of the bits, the text of a set, and the set of a text, as plain lists. No run of the program in this text.
-/
import Derived.Test.YtlecnhegfacfcaaSCalls
namespace Go.Proofs.Ytlecnhegfacfcaa
open Go.RowKit

/-- The names. -/
def names : List UInt8 := [114, 119, 112, 115, 116, 122, 48, 49, 50, 51, 52, 53, 54, 55]
def nameAt (k : Nat) : UInt8 := names.getD k 0
theorem names_size : (ByteArray.mk names.toArray).size = 14 := rfl
theorem name_get (k : Nat) (h : k < 14) : (ByteArray.mk names.toArray)[k]'(by rw [names_size]; exact h) = nameAt k := by
  have : ∀ j : Nat, (hj : j < 14) → (ByteArray.mk names.toArray)[j]'(by rw [names_size]; exact hj) = nameAt j := by decide +kernel
  exact this k h
theorem name_inj (i j : Nat) (hi : i < 14) (hj : j < 14) (h : nameAt i = nameAt j) : i = j := by
  have : ∀ i, i < 14 → ∀ j, j < 14 → nameAt i = nameAt j → i = j := by decide +kernel
  exact this i hi j hj h
theorem name_45 (i : Nat) (hi : i < 14) : nameAt i ≠ 45 := by
  have : ∀ i, i < 14 → nameAt i ≠ 45 := by decide +kernel
  exact this i hi

/-- The names of the first k bits that are there. -/
def textOf (p : Nat → Bool) : Nat → List UInt8
  | 0 => []
  | k + 1 => textOf p k ++ (if p k then [nameAt k] else [])
/-- The names of n bits from the k-th on. -/
def textFrom (p : Nat → Bool) : Nat → Nat → List UInt8
  | _, 0 => []
  | k, n + 1 => (if p k then [nameAt k] else []) ++ textFrom p (k + 1) n
def textL (p : Nat → Bool) : List UInt8 := if textOf p 14 = [] then [45] else textOf p 14
theorem text_no (p : Nat → Bool) (k : Nat) (h : p k = false) : textOf p (k + 1) = textOf p k := by rw [textOf, h]; simp
theorem text_yes (p : Nat → Bool) (k : Nat) (h : p k = true) : textOf p (k + 1) = textOf p k ++ [nameAt k] := by rw [textOf, h]; simp
theorem text_len (p : Nat → Bool) (k : Nat) : (textOf p k).length ≤ k := by
  induction k with
  | zero => simp [textOf]
  | succ k ih => rw [textOf]; split <;> simp <;> omega
theorem text_split (p : Nat → Bool) (k n : Nat) : textOf p (k + n) = textOf p k ++ textFrom p k n := by
  induction n generalizing k with
  | zero => simp [textFrom]
  | succ n ih =>
    rw [show k + (n + 1) = (k + 1) + n by omega, ih (k + 1), textFrom, textOf, List.append_assoc]
theorem from_mem (p : Nat → Bool) (n k : Nat) (c : UInt8) (h : c ∈ textFrom p k n) : ∃ j, k ≤ j ∧ j < k + n ∧ c = nameAt j ∧ p j = true := by
  induction n generalizing k with
  | zero => simp [textFrom] at h
  | succ n ih =>
    rw [textFrom, List.mem_append] at h
    rcases h with h | h
    · cases hp : p k
      · rw [hp] at h; simp at h
      · rw [hp] at h; exact ⟨k, by omega, by omega, by simpa using h, hp⟩
    · obtain ⟨j, h1, h2, h3⟩ := ih (k + 1) h
      exact ⟨j, by omega, by omega, h3⟩
theorem text_mem (p : Nat → Bool) (n : Nat) (c : UInt8) (h : c ∈ textOf p n) : ∃ j, j < n ∧ c = nameAt j ∧ p j = true := by
  have e := text_split p 0 n
  rw [Nat.zero_add] at e
  rw [e] at h
  obtain ⟨j, _, h2, h3⟩ := from_mem p n 0 c (by simpa [textOf] using h)
  exact ⟨j, by omega, h3⟩
theorem text_congr (p q : Nat → Bool) (k : Nat) (h : ∀ j, j < k → p j = q j) : textOf p k = textOf q k := by
  induction k with
  | zero => rfl
  | succ k ih => rw [textOf, textOf, ih (fun j hj => h j (by omega)), h k (by omega)]
theorem text_mem_of (p : Nat → Bool) (k j : Nat) (hj : j < k) (h : p j = true) : nameAt j ∈ textOf p k := by
  induction k with
  | zero => omega
  | succ k ih =>
    rw [textOf, List.mem_append]
    rcases Nat.lt_succ_iff_lt_or_eq.1 hj with h' | rfl
    · exact .inl (ih h')
    · exact .inr (by rw [h]; simp)
theorem textL_congr (p q : Nat → Bool) (h : ∀ j, j < 14 → p j = q j) : textL p = textL q := by
  unfold textL; rw [text_congr p q 14 h]
theorem textL_len (p : Nat → Bool) : (textL p).length ≤ 14 := by
  unfold textL
  split
  · decide
  · exact text_len p 14

/-- How much of a text is read when k names were gone through. -/
def scanR (t : List UInt8) : Nat → Nat
  | 0 => 0
  | k + 1 => if t[scanR t k]? = some (nameAt k) then scanR t k + 1 else scanR t k
def hit (t : List UInt8) (k : Nat) : Bool := decide (t[scanR t k]? = some (nameAt k))
theorem scan_yes (t : List UInt8) (k : Nat) (h : hit t k = true) : scanR t (k + 1) = scanR t k + 1 := by
  rw [scanR, if_pos (of_decide_eq_true h)]
theorem scan_no (t : List UInt8) (k : Nat) (h : hit t k = false) : scanR t (k + 1) = scanR t k := by
  rw [scanR, if_neg (of_decide_eq_false h)]
theorem scan_le (t : List UInt8) (k : Nat) : scanR t k ≤ t.length := by
  induction k with
  | zero => simp [scanR]
  | succ k ih =>
    cases h : hit t k
    · rw [scan_no t k h]; exact ih
    · rw [scan_yes t k h]
      have := of_decide_eq_true h
      obtain ⟨hl, _⟩ := List.getElem?_eq_some_iff.1 this
      omega
theorem scan_take (t : List UInt8) (k : Nat) : t.take (scanR t k) = textOf (hit t) k := by
  induction k with
  | zero => simp [scanR, textOf]
  | succ k ih =>
    cases h : hit t k
    · rw [scan_no t k h, text_no _ k h]; exact ih
    · rw [scan_yes t k h, text_yes _ k h]
      have := of_decide_eq_true h
      obtain ⟨hl, hg⟩ := List.getElem?_eq_some_iff.1 this
      rw [List.take_succ_eq_append_getElem hl, ih, hg]
/-- A text that was read is read to the end. -/
theorem scan_stay (t : List UInt8) (k n : Nat) (h : scanR t k = t.length) : scanR t (k + n) = t.length ∧ ∀ j, k ≤ j → j < k + n → hit t j = false := by
  induction n with
  | zero => exact ⟨h, fun j h1 h2 => by omega⟩
  | succ n ih =>
    have hn : hit t (k + n) = false := by
      unfold hit; rw [ih.1]; simp
    refine ⟨by rw [← Nat.add_assoc, scan_no t _ hn]; exact ih.1, fun j h1 h2 => ?_⟩
    rcases Nat.lt_succ_iff_lt_or_eq.1 (show j < (k + n) + 1 by omega) with h' | rfl
    · exact ih.2 j h1 h'
    · exact hn
/-- The text of a set is read as that set. -/
theorem scan_text (p : Nat → Bool) (k : Nat) (hk : k ≤ 14) : scanR (textOf p 14) k = (textOf p k).length ∧ ∀ j, j < k → hit (textOf p 14) j = p j := by
  induction k with
  | zero => exact ⟨rfl, fun j hj => by omega⟩
  | succ k ih =>
    obtain ⟨h1, h2⟩ := ih (by omega)
    have hs := text_split p k (14 - k)
    rw [show k + (14 - k) = 14 by omega] at hs
    have hk : hit (textOf p 14) k = p k := by
      unfold hit
      rw [h1]
      conv => lhs; rw [hs]
      rw [List.getElem?_append_right (Nat.le_refl _), Nat.sub_self, show 14 - k = (13 - k) + 1 by omega, textFrom]
      cases hp : p k
      · simp only [Bool.false_eq_true, if_false, List.nil_append, decide_eq_false_iff_not]
        intro e
        have hm : nameAt k ∈ textFrom p (k + 1) (13 - k) := by
          obtain ⟨hl, hg⟩ := List.getElem?_eq_some_iff.1 e
          rw [← hg]; exact List.getElem_mem hl
        obtain ⟨j, g1, g2, g3, _⟩ := from_mem p _ _ _ hm
        have := name_inj k j (by omega) (by omega) g3
        omega
      · simp
    refine ⟨?_, fun j hj => ?_⟩
    · cases hp : p k
      · rw [scan_no _ k (hk.trans hp), text_no p k hp]; exact h1
      · rw [scan_yes _ k (hk.trans hp), text_yes p k hp, h1]; simp
    · rcases Nat.lt_succ_iff_lt_or_eq.1 hj with h' | rfl
      · exact h2 j h'
      · exact hk

/-- The number of a set. -/
def valOf (m : Nat → Bool) : Nat → Nat
  | 0 => 0
  | k + 1 => valOf m k + (if m k then 2 ^ pl k else 0)
theorem pl_lt (j k : Nat) (h : j < k) : pl j < pl k := by unfold pl; split <;> split <;> omega
theorem pl_inj (j k : Nat) (h : pl j = pl k) : j = k := by
  rcases Nat.lt_trichotomy j k with h' | h' | h'
  · have := pl_lt j k h'; omega
  · exact h'
  · have := pl_lt k j h'; omega
theorem pl_16 (k : Nat) (h : k < 14) : pl k < 16 := by unfold pl; split <;> omega
theorem val_lt (m : Nat → Bool) (k : Nat) : valOf m k < 2 ^ pl k := by
  induction k with
  | zero => simp [valOf, pl]
  | succ k ih =>
    rw [valOf]
    have h1 : 2 ^ (pl k + 1) ≤ 2 ^ pl (k + 1) := Nat.pow_le_pow_right (n := 2) (by decide) (pl_lt k (k + 1) (by omega))
    rw [Nat.pow_succ] at h1
    split <;> omega
theorem val_or (m : Nat → Bool) (k : Nat) : valOf m k + 2 ^ pl k = 2 ^ pl k ||| valOf m k := by
  have := Nat.two_pow_add_eq_or_of_lt (val_lt m k) 1
  rw [Nat.mul_one] at this
  omega
theorem val_yes (m : Nat → Bool) (k : Nat) (h : m k = true) : valOf m (k + 1) = valOf m k + 2 ^ pl k := by rw [valOf, h]; simp
theorem val_no (m : Nat → Bool) (k : Nat) (h : m k = false) : valOf m (k + 1) = valOf m k := by rw [valOf, h]; simp
theorem val_bit (m : Nat → Bool) (k i : Nat) : (valOf m k).testBit i = true ↔ ∃ j, j < k ∧ i = pl j ∧ m j = true := by
  induction k with
  | zero => simp [valOf]
  | succ k ih =>
    cases h : m k
    · rw [val_no m k h, ih]
      constructor
      · rintro ⟨j, h1, h2⟩; exact ⟨j, by omega, h2⟩
      · rintro ⟨j, h1, h2, h3⟩
        rcases Nat.lt_succ_iff_lt_or_eq.1 h1 with h' | rfl
        · exact ⟨j, h', h2, h3⟩
        · rw [h] at h3; cases h3
    · rw [val_yes m k h, val_or, Nat.testBit_or, Nat.testBit_two_pow, Bool.or_eq_true, ih, decide_eq_true_iff]
      constructor
      · rintro (h1 | ⟨j, h1, h2⟩)
        · exact ⟨k, by omega, h1.symm, h⟩
        · exact ⟨j, by omega, h2⟩
      · rintro ⟨j, h1, h2, h3⟩
        rcases Nat.lt_succ_iff_lt_or_eq.1 h1 with h' | rfl
        · exact .inr ⟨j, h', h2, h3⟩
        · exact .inl h2.symm
theorem val_small (m : Nat → Bool) (k : Nat) (hk : k ≤ 14) : valOf m k < 65536 := by
  refine Nat.lt_of_lt_of_le (val_lt m k) (Nat.le_trans (Nat.pow_le_pow_right (n := 2) (by decide) (show pl k ≤ 16 by unfold pl; split <;> omega)) (by decide))
theorem bit_nat (n i : Nat) (hi : i < 64) : bitB (n : Int) i = n.testBit i := by
  unfold bitB
  rw [BitVec.ofInt_natCast, BitVec.getLsbD_ofNat]
  simp [hi]
theorem fit_nat (n : Nat) (h : n < 9223372036854775808) : fit (n : Int) := by unfold fit; omega
theorem fit_small (n : Nat) (h : n < 65536) : fit (n : Int) := by unfold fit; omega
/-- One bit more. -/
theorem or_val (m : Nat → Bool) (k : Nat) (hk : k < 14) : bits .or .i64 (valOf m k : Int) (2 ^ pl k) = ((valOf m k + 2 ^ pl k : Nat) : Int) := by
  have hv := val_small m k (by omega)
  have hp : 2 ^ pl k < 65536 := Nat.pow_lt_pow_right (by decide) (pl_16 k hk)
  refine bits_ext _ _ (fit_bits _ _ _) (fit_nat _ (by omega)) fun i hi => ?_
  rw [bit_or, val_or, bit_nat (valOf m k) i hi, bit_nat (2 ^ pl k ||| valOf m k) i hi, Nat.testBit_or, Bool.or_comm]
  congr 1
  have := bit_nat (2 ^ pl k) i hi
  rw [← this]; simp
theorem val_congr (m q : Nat → Bool) (k : Nat) (h : ∀ j, j < k → m j = q j) : valOf m k = valOf q k := by
  induction k with
  | zero => rfl
  | succ k ih => rw [valOf, valOf, ih (fun j hj => h j (by omega)), h k (by omega)]
theorem val_stay (m : Nat → Bool) (k n : Nat) (h : ∀ j, k ≤ j → j < k + n → m j = false) : valOf m (k + n) = valOf m k := by
  induction n with
  | zero => rfl
  | succ n ih =>
    rw [← Nat.add_assoc, val_no m _ (h _ (by omega) (by omega))]
    exact ih fun j h1 h2 => h j h1 (by omega)
/-- The set of a number. -/
def bitsOf (a : Int) (k : Nat) : Bool := bitB a (pl k)
theorem bits_val (m : Nat → Bool) (k : Nat) (hk : k < 14) : bitsOf (valOf m 14 : Int) k = m k := by
  unfold bitsOf
  have := pl_16 k hk
  rw [bit_nat _ _ (by omega), Bool.eq_iff_iff, val_bit]
  constructor
  · rintro ⟨j, _, h2, h3⟩
    rw [pl_inj k j h2]; exact h3
  · intro h; exact ⟨k, hk, rfl, h⟩
theorem val_zero (m : Nat → Bool) : valOf m 14 = 0 ↔ ∀ k, k < 14 → m k = false := by
  constructor
  · intro h k hk
    have := bits_val m k hk
    rw [h] at this
    rw [← this]
    unfold bitsOf
    have h16 := pl_16 k hk
    have hb := bit_nat 0 (pl k) (by omega)
    simpa using hb
  · intro h
    have := val_stay m 0 14 (fun j _ hj => h j (by omega))
    simpa [valOf] using this
theorem text_zero (m : Nat → Bool) : textOf m 14 = [] ↔ ∀ k, k < 14 → m k = false := by
  constructor
  · intro h k hk
    cases hm : m k
    · rfl
    · have := text_mem_of m 14 k hk hm
      rw [h] at this; cases this
  · intro h
    cases ht : textOf m 14 with
    | nil => rfl
    | cons c l =>
      obtain ⟨j, h1, _, h3⟩ := text_mem m 14 c (by rw [ht]; simp)
      rw [h j h1] at h3; cases h3

/-- What Parse tells of a text. -/
def okL (t : List UInt8) : Bool := decide (valOf (hit t) 14 ≠ 0 ∧ scanR t 14 = t.length)
def parV (t : List UInt8) : Int := if t = [45] then 0 else if okL t = true then valOf (hit t) 14 else 0
def parS (t : List UInt8) : Int := if t = [45] then 0 else if okL t = true then 0 else -10
/-- The text of a set is read: what comes of it has the same text, and no bit more. -/
theorem par_text (p : Nat → Bool) : ∃ m, valOf m 14 = (parV (textL p)).toNat ∧ parV (textL p) = (valOf m 14 : Int) ∧ parS (textL p) = 0 ∧ ∀ j, j < 14 → m j = p j := by
  by_cases h0 : textOf p 14 = []
  · have e : textL p = [45] := by unfold textL; rw [if_pos h0]
    have hz : valOf (fun _ => false) 14 = 0 := by rw [val_zero]; exact fun _ _ => rfl
    refine ⟨fun _ => false, ?_, ?_, ?_, fun j hj => ((text_zero p).1 h0 j hj).symm⟩
    · rw [hz, e]; unfold parV; rw [if_pos rfl]; rfl
    · rw [hz, e]; unfold parV; rw [if_pos rfl]; rfl
    · rw [e]; unfold parS; rw [if_pos rfl]
  · have e : textL p = textOf p 14 := by unfold textL; rw [if_neg h0]
    have h45 : textOf p 14 ≠ [45] := by
      intro h
      obtain ⟨j, h1, h2, _⟩ := text_mem p 14 45 (by rw [h]; simp)
      exact name_45 j h1 h2.symm
    obtain ⟨s1, s2⟩ := scan_text p 14 (Nat.le_refl _)
    have hv : valOf (hit (textOf p 14)) 14 ≠ 0 := by
      intro h
      refine h0 ((text_zero p).2 fun k hk => ?_)
      rw [← s2 k hk]
      exact (val_zero _).1 h k hk
    have hok : okL (textOf p 14) = true := decide_eq_true ⟨hv, s1⟩
    have ev : parV (textOf p 14) = (valOf (hit (textOf p 14)) 14 : Int) := by unfold parV; rw [if_neg h45, if_pos hok]
    refine ⟨hit (textOf p 14), ?_, ?_, ?_, s2⟩
    · rw [e, ev]; simp
    · rw [e, ev]
    · rw [e]; unfold parS; rw [if_neg h45, if_pos hok]
theorem par_text_back (a : Int) : textL (bitsOf (parV (textL (bitsOf a)))) = textL (bitsOf a) := by
  obtain ⟨m, _, h2, _, h4⟩ := par_text (bitsOf a)
  rw [h2]
  exact textL_congr _ _ fun j hj => (bits_val m j hj).trans (h4 j hj)
theorem par_text_ok (p : Nat → Bool) : parS (textL p) = 0 := (par_text p).choose_spec.2.2.1
theorem par_fit (t : List UInt8) : fit (parV t) := by
  unfold parV
  have := val_small (hit t) 14 (Nat.le_refl _)
  unfold fit
  split <;> (try split) <;> omega
theorem par_sub (a : Int) (i : Nat) (hi : i < 64) (h : bitB (parV (textL (bitsOf a))) i = true) : bitB a i = true := by
  obtain ⟨m, _, h2, _, h4⟩ := par_text (bitsOf a)
  rw [h2, bit_nat _ i hi] at h
  obtain ⟨j, g1, rfl, g3⟩ := (val_bit m 14 i).1 h
  rw [h4 j g1] at g3
  exact g3
/-- What is read is a text of what comes of it. -/
theorem par_back (t : List UInt8) (h : parS t = 0) : textL (bitsOf (parV t)) = t := by
  by_cases h45 : t = [45]
  · subst h45; decide +kernel
  · unfold parS at h
    rw [if_neg h45] at h
    by_cases hok : okL t = true
    · obtain ⟨hv, hs⟩ := of_decide_eq_true hok
      have ev : parV t = (valOf (hit t) 14 : Int) := by unfold parV; rw [if_neg h45, if_pos hok]
      have ht := scan_take t 14
      rw [hs, List.take_length] at ht
      rw [ev, textL_congr _ (hit t) fun j hj => bits_val _ j hj]
      unfold textL
      rw [if_neg (fun e => hv ((val_zero _).2 ((text_zero _).1 e))), ← ht]
    · rw [if_neg hok] at h; simp at h
theorem par_no (t : List UInt8) (h : parS t ≠ 0) : parS t = -10 ∧ parV t = 0 ∧ ∀ p, textL p ≠ t := by
  by_cases h45 : t = [45]
  · unfold parS at h; rw [if_pos h45] at h; exact absurd rfl h
  · by_cases hok : okL t = true
    · unfold parS at h; rw [if_neg h45, if_pos hok] at h; exact absurd rfl h
    · refine ⟨by unfold parS; rw [if_neg h45, if_neg hok], by unfold parV; rw [if_neg h45, if_neg hok], fun p e => ?_⟩
      exact h (by rw [← e]; exact par_text_ok p)
end Go.Proofs.Ytlecnhegfacfcaa
