/-
  Plain lists under layer 4 (rights): the letters of a set, and how they are read back. No run of the program in this text.
-/
import Derived.Test.YtefcklkepoihkaaDoorRBits
namespace Go.Proofs.YtefcklkepoihkaaDoor

/-- The letters, in their order. -/
def letters : List UInt8 := [68, 84, 82, 87, 83, 80, 65, 73, 77, 75, 71, 89]
def letterAt (k : Nat) : UInt8 := letters.getD k 0
/-- The letters of the k lowest bits. -/
def lettersOf (n : Nat) : Nat → List UInt8
  | 0 => []
  | k + 1 => lettersOf n k ++ (if n.testBit k then [letterAt k] else [])
/-- The text of a set. -/
def textL (n : Nat) : List UInt8 := if lettersOf n 12 = [] then [45] else lettersOf n 12

/-- The first place from k on, of the 'fuel' next ones, at which the letter is c. -/
def seek (c : UInt8) : Nat → Nat → Option Nat
  | _, 0 => none
  | k, f + 1 => if c = letterAt k then some k else seek c (k + 1) f
/-- One letter more: what is read so far (n, read up to the letter f). -/
def pstep (c : UInt8) : Nat × Nat → Option (Nat × Nat)
  | (n, f) => (seek c f (12 - f)).map fun at_ => (n + 2 ^ at_, at_ + 1)
def pfold : List UInt8 → Nat × Nat → Option (Nat × Nat)
  | [], s => some s
  | c :: l, s => (pstep c s).bind (pfold l)
/-- What a text is read as. -/
def parseL (l : List UInt8) : Option Nat :=
  if l = [45] then some 0 else (pfold l (0, 0)).bind fun s => if s.1 = 0 then none else some s.1

theorem all_range {n : Nat} {p : Nat → Bool} (h : (List.range n).all p = true) (k : Nat) (hk : k < n) : p k = true :=
  List.all_eq_true.1 h k (List.mem_range.2 hk)
theorem parse_text_b : (List.range 4096).all (fun n => decide (parseL (textL n) = some n)) = true := by decide +kernel
theorem letters_len_b : (List.range 4096).all (fun n => decide ((lettersOf n 12).length ≤ 12)) = true := by decide +kernel
theorem letters_nil_b : (List.range 4096).all (fun n => decide (lettersOf n 12 = []) == decide (n = 0)) = true := by decide +kernel
theorem letters_step_b : (List.range 13).all (fun f => (List.range (2 ^ f)).all fun n => (List.range (12 - f)).all fun d => decide (lettersOf (n + 2 ^ (f + d)) 12 = lettersOf n 12 ++ [letterAt (f + d)])) = true := by decide +kernel
theorem parse_text (n : Nat) (h : n < 4096) : parseL (textL n) = some n := by simpa using all_range parse_text_b n h
theorem letters_len (n : Nat) (h : n < 4096) : (lettersOf n 12).length ≤ 12 := by simpa using all_range letters_len_b n h
theorem letters_nil (n : Nat) (h : n < 4096) : lettersOf n 12 = [] ↔ n = 0 := by simpa using all_range letters_nil_b n h
theorem letters_step (f : Nat) (hf : f ≤ 12) (n : Nat) (hn : n < 2 ^ f) (d : Nat) (hd : d < 12 - f) : lettersOf (n + 2 ^ (f + d)) 12 = lettersOf n 12 ++ [letterAt (f + d)] :=
  of_decide_eq_true (all_range (all_range (all_range letters_step_b f (by omega)) n hn) d hd)
theorem seek_some {c : UInt8} {k f a : Nat} (h : seek c k f = some a) : k ≤ a ∧ a < k + f ∧ c = letterAt a := by
  induction f generalizing k with
  | zero => cases h
  | succ f ih =>
    unfold seek at h
    split at h
    · next hc => cases h; exact ⟨by omega, by omega, hc⟩
    · have := ih h; exact ⟨by omega, by omega, this.2.2⟩

/-- What is read so far is the set of the letters so far. -/
def PInv (l : List UInt8) (s : Nat × Nat) : Prop := s.2 ≤ 12 ∧ s.1 < 2 ^ s.2 ∧ lettersOf s.1 12 = l
theorem pinv_step {l : List UInt8} {c : UInt8} {s s' : Nat × Nat} (h : PInv l s) (hs : pstep c s = some s') : PInv (l ++ [c]) s' := by
  obtain ⟨n, f⟩ := s
  obtain ⟨h1, h2, h3⟩ := h
  simp only at h1 h2 h3
  unfold pstep at hs
  simp only [Option.map_eq_some_iff] at hs
  obtain ⟨a, ha, rfl⟩ := hs
  obtain ⟨q1, q2, rfl⟩ := seek_some ha
  have e := letters_step f h1 n h2 (a - f) (by omega)
  rw [show f + (a - f) = a by omega] at e
  refine ⟨by simp only; omega, ?_, by simp only; rw [e, h3]⟩
  simp only
  have : 2 ^ f ≤ 2 ^ a := Nat.pow_le_pow_right (by decide) q1
  rw [Nat.pow_succ]; omega
theorem pinv_fold (m : List UInt8) : ∀ (l : List UInt8) (s s' : Nat × Nat), PInv l s → pfold m s = some s' → PInv (l ++ m) s' := by
  induction m with
  | nil => intro l s s' h hs; cases hs; simpa using h
  | cons c m ih =>
    intro l s s' h hs
    unfold pfold at hs
    rw [Option.bind_eq_some_iff] at hs
    obtain ⟨t, ht, hs⟩ := hs
    have := ih (l ++ [c]) t s' (pinv_step h ht) hs
    simpa using this
theorem pow_le_4096 {f : Nat} (h : f ≤ 12) : 2 ^ f ≤ 4096 := Nat.pow_le_pow_right (n := 2) (by decide) h
/-- What is read has that text. -/
theorem text_parse {l : List UInt8} {n : Nat} (h : parseL l = some n) : n < 4096 ∧ textL n = l := by
  unfold parseL at h
  split at h
  · next hl => cases h; subst hl; exact ⟨by decide, by decide⟩
  · rw [Option.bind_eq_some_iff] at h
    obtain ⟨s, hs, h⟩ := h
    split at h
    · cases h
    · next h0 =>
      cases h
      obtain ⟨i1, i2, i3⟩ := pinv_fold l [] (0, 0) s ⟨by decide, by decide, by decide⟩ hs
      have hb : s.1 < 4096 := Nat.lt_of_lt_of_le i2 (pow_le_4096 i1)
      refine ⟨hb, ?_⟩
      have hn : lettersOf s.1 12 ≠ [] := fun e => h0 ((letters_nil _ hb).1 e)
      unfold textL
      rw [if_neg hn, i3]; simp
/-- A text that is not read is no set's text. -/
theorem no_text {l : List UInt8} (h : parseL l = none) (n : Nat) (hn : n < 4096) : textL n ≠ l := by
  intro e
  have := parse_text n hn
  rw [e, h] at this
  cases this
theorem pfold_snoc (m : List UInt8) (c : UInt8) : ∀ s, pfold (m ++ [c]) s = (pfold m s).bind (pstep c) := by
  induction m with
  | nil => intro s; simp [pfold]
  | cons d m ih =>
    intro s
    simp only [List.cons_append, pfold]
    cases pstep d s with
    | none => rfl
    | some t => simpa using ih t
theorem pfold_none_mono (m m' : List UInt8) (s : Nat × Nat) (h : pfold m s = none) : pfold (m ++ m') s = none := by
  induction m generalizing s with
  | nil => cases h
  | cons d m ih =>
    simp only [List.cons_append, pfold] at h ⊢
    cases hp : pstep d s with
    | none => rfl
    | some t => rw [hp] at h; simpa using ih t (by simpa using h)
end Go.Proofs.YtefcklkepoihkaaDoor
