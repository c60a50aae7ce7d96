/-
  Elements one behind the other. No walk of the program, no conditions.
-/
import Derived.Test.YtocaebcbmfejbaaLawSz
namespace Go.Proofs.Ytocaebcbmfejbaa
open Go.RowKit

/-- The elements j, j + 1, .. (m of them), one behind the other. -/
def seg (el : Nat → List UInt8) (j m : Nat) : List UInt8 := (List.range' j m).flatMap el
section
variable {el : Nat → List UInt8} {size : Nat}
theorem seg_zero (el : Nat → List UInt8) (j : Nat) : seg el j 0 = [] := rfl
theorem seg_cons (el : Nat → List UInt8) (j m : Nat) : seg el j (m + 1) = el j ++ seg el (j + 1) m := by
  unfold seg
  rw [List.range'_succ, List.flatMap_cons]
theorem seg_app (el : Nat → List UInt8) (j m k : Nat) : seg el j m ++ seg el (j + m) k = seg el j (m + k) := by
  unfold seg
  rw [← List.flatMap_append]
  congr 1
  have := @List.range'_append j m k 1
  rwa [Nat.one_mul] at this
theorem seg_one (el : Nat → List UInt8) (j : Nat) : seg el j 1 = el j := by rw [seg_cons, seg_zero, List.append_nil]
theorem seg_snoc (el : Nat → List UInt8) (j m : Nat) : seg el j (m + 1) = seg el j m ++ el (j + m) := by rw [← seg_app, seg_one]
theorem seg_len (h : ∀ i, (el i).length = size) (j m : Nat) : (seg el j m).length = m * size := by
  induction m generalizing j with
  | zero => simp [seg_zero]
  | succ m ih => rw [seg_cons, List.length_append, h, ih, Nat.add_mul, Nat.one_mul, Nat.add_comm]
theorem seg_take (h : ∀ i, (el i).length = size) (j m k : Nat) (hk : k ≤ m) : (seg el j m).take (k * size) = seg el j k ∧ (seg el j m).drop (k * size) = seg el (j + k) (m - k) := by
  have e : seg el j m = seg el j k ++ seg el (j + k) (m - k) := by rw [seg_app, Nat.add_sub_cancel' hk]
  have hl := seg_len h j k
  constructor
  · rw [e, List.take_append_of_le_length (by omega), List.take_of_length_le (by omega)]
  · rw [e, List.drop_append_of_le_length (by omega), List.drop_eq_nil_of_le (by omega), List.nil_append]
end
theorem updN_twice {A : Type} (f : Nat → A) (e : Nat) (x y : A) : updN (updN f e x) e y = updN f e y := by
  funext i
  unfold updN
  by_cases h : i = e <;> simp [h]
theorem updN_comm {A : Type} (f : Nat → A) {e d : Nat} (x y : A) (h : e ≠ d) : updN (updN f e x) d y = updN (updN f d y) e x := by
  funext i
  unfold updN
  by_cases h1 : i = e <;> by_cases h2 : i = d <;> simp [h1, h2]
  · exact (h (h1.symm.trans h2)).elim
  · intro h3; exact (h h3).elim
  · intro h3; exact (h h3.symm).elim
/-- One end has waiting bytes; nothing waits at the other one. -/
def eK (o : Re) (d : List UInt8) (e : Nat) : Nat → Re := updN (updN (fun _ => ⟨true, []⟩) e o) (oth e) ⟨true, d⟩
/-- What is written, where there is room. -/
theorem wr_room {count size : Nat} {s t : Re} {b : List UInt8} {m k : Nat} (h1 : 1 ≤ size) (hs : s.op = true) (ht : t.op = true) (hd : t.d.length = m * size) (hb : b.length = k * size) (hk : 1 ≤ k) (hm : m < count) :
    wrS count size s t b = 0 ∧ wrN count size s t b = min k (count - m) ∧ wrE count size s t b = { t with d := t.d ++ b.take (min k (count - m) * size) } := by
  have hkp : 0 < k * size := Nat.mul_pos hk h1
  have hlt : m * size < count * size := Nat.mul_lt_mul_of_pos_right hm h1
  have hs0 : wrS count size s t b = 0 := by
    unfold wrS
    rw [if_neg (by rw [hs]; decide), if_neg (by rw [hb, Nat.mul_mod_left]; omega), if_neg (by rw [ht]; decide), if_neg (by omega)]
  obtain ⟨e1, e2⟩ := wrE_def count size s t b (min k (count - m)) hs0 (by rw [hb, hd, Nat.mul_div_cancel _ h1, Nat.mul_div_cancel _ h1])
  exact ⟨hs0, e1, e2⟩
/-- What is read, where something waits. -/
theorem rd_some {size : Nat} {s t : Re} {n : Int} (hs : s.op = true) (hn : 1 ≤ n) (hd : 0 < s.d.length) : rdS s t n = 0 ∧ rdB size s t n = s.d.take (n.toNat * size) ∧ rdE size s t n = { s with d := s.d.drop (n.toNat * size) } := by
  have h0 : rdS s t n = 0 := by
    unfold rdS
    rw [if_neg (by rw [hs]; decide), if_neg (by omega), if_neg (by omega)]
  refine ⟨h0, ?_, ?_⟩
  · unfold rdB; rw [if_pos h0]
  · unfold rdE; rw [if_pos h0]
end Go.Proofs.Ytocaebcbmfejbaa
