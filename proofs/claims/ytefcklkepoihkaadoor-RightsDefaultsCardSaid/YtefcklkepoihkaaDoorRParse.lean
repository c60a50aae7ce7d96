/-
  The contract of Parse: the set whose text it is, or that there is none. Condition: the text has at most 500 bytes.
-/
import Derived.Test.YtefcklkepoihkaaDoorRCalls
import Derived.Test.YtefcklkepoihkaaDoorRMath
import Derived.Deep.LoopGhost
import Derived.WalkMore
namespace Go.Proofs.YtefcklkepoihkaaDoor
open Go.ChangeShapes Go.WideShapes Go.ChangeAt Go.RowKit

/-- What Parse tells of a text. -/
def parV (l : List UInt8) : Int := match parseL l with
  | some n => n
  | none => 0
def parS (l : List UInt8) : Int := match parseL l with
  | some _ => 0
  | none => -10

theorem seek_no (c : UInt8) (k : Nat) (hk : k < 12) (h : c ≠ letterAt k) : seek c k (12 - k) = seek c (k + 1) (12 - (k + 1)) := by
  rw [show 12 - k = (12 - (k + 1)) + 1 by omega]
  conv => lhs; unfold seek
  rw [if_neg h]
theorem seek_yes (c : UInt8) (k : Nat) (hk : k < 12) (h : c = letterAt k) : seek c k (12 - k) = some k := by
  rw [show 12 - k = (12 - (k + 1)) + 1 by omega]
  unfold seek
  rw [if_pos h]
theorem or_cast_b : (List.range 13).all (fun f => (List.range (2 ^ f)).all fun n => (List.range (12 - f)).all fun d => decide (bits .or .i64 ((n : Nat) : Int) (2 ^ (f + d)) = ((n + 2 ^ (f + d) : Nat) : Int))) = true := by decide +kernel
theorem or_cast (f : Nat) (hf : f ≤ 12) (n : Nat) (hn : n < 2 ^ f) (a : Nat) (h1 : f ≤ a) (h2 : a < 12) : bits .or .i64 ((n : Nat) : Int) (2 ^ a) = ((n + 2 ^ a : Nat) : Int) := by
  have := of_decide_eq_true (all_range (all_range (all_range or_cast_b f (by omega)) n hn) (a - f) (by omega))
  rw [show f + (a - f) = a by omega] at this
  exact this
/-- What is read of the first k letters. -/
def PAt (s : ByteArray) (k n f : Nat) : Prop := pfold (s.data.toList.take k) (0, 0) = some (n, f)
theorem pat_inv {s : ByteArray} {k n f : Nat} (h : PAt s k n f) : f ≤ 12 ∧ n < 2 ^ f ∧ n < 4096 := by
  have := pinv_fold _ [] (0, 0) (n, f) ⟨by decide, by decide, by decide⟩ h
  exact ⟨this.1, this.2.1, Nat.lt_of_lt_of_le this.2.1 (pow_le_4096 this.1)⟩
theorem take_snoc (s : ByteArray) (k : Nat) (h : k < s.size) : s.data.toList.take (k + 1) = s.data.toList.take k ++ [s[k]] := by
  rw [List.take_succ_eq_append_getElem (by simpa using h)]; rfl
theorem pat_next {s : ByteArray} {k n f a : Nat} (hk : k < s.size) (h : PAt s k n f) (ha : seek s[k] f (12 - f) = some a) : PAt s (k + 1) (n + 2 ^ a) (a + 1) := by
  unfold PAt at *
  rw [take_snoc s k hk, pfold_snoc, h]
  simp [pstep, ha]
theorem pat_stop {s : ByteArray} {k n f : Nat} (hk : k < s.size) (h : PAt s k n f) (ha : seek s[k] f (12 - f) = none) : pfold s.data.toList (0, 0) = none := by
  have e : s.data.toList = s.data.toList.take (k + 1) ++ s.data.toList.drop (k + 1) := (List.take_append_drop _ _).symm
  rw [e]
  refine pfold_none_mono _ _ _ ?_
  unfold PAt at h
  rw [take_snoc s k hk, pfold_snoc, h]
  simp [pstep, ha]
theorem par_stop {s : ByteArray} (h1 : s.data.toList ≠ [45]) (h : pfold s.data.toList (0, 0) = none) : parV s.data.toList = 0 ∧ parS s.data.toList = -10 := by
  unfold parV parS parseL
  rw [if_neg h1, h]
  exact ⟨rfl, rfl⟩
theorem par_end {s : ByteArray} {n f : Nat} (h1 : s.data.toList ≠ [45]) (h : PAt s s.size n f) : parV s.data.toList = n ∧ parS s.data.toList = (if n = 0 then -10 else 0) := by
  unfold PAt at h
  rw [List.take_of_length_le (by simp)] at h
  unfold parV parS parseL
  rw [if_neg h1, h]
  by_cases h0 : n = 0
  · simp [h0]
  · simp [h0]
theorem ret_two' {a b c d : Int} (h1 : a = c) (h2 : b = d) : Ending.returned (.tuple #[.int .i64 a, .int .i64 b]) = .returned (.tuple #[.int .i64 c, .int .i64 d]) := by rw [h1, h2]
theorem below_dn {B : Nat} {a w : World} (h : Below B a w) (n : Nat) : Below B a (w.drewN n) := ⟨h.os, h.tape, h.output, h.size, h.block⟩
set_option maxHeartbeats 1000000 in
set_option maxRecDepth 20000 in
theorem parse_any (s : ByteArray) (hs : s.size ≤ 500) (w : World) :
    Calls Tryd.prog 25 #[.string s] w fun e w' => e = .returned (.tuple #[.int .i64 (parV s.data.toList), .int .i64 (parS s.data.toList)]) ∧ Below w.heap.size w w' := by
  by_cases hd : s = ⟨#[45]⟩
  · subst hd
    go_enter Tryd.func25, Tryd.ntmps25
    go_wp2
    go_step3
    go_wp2
    rw [Exit.noGoto_ret]
    go_ret2
    exact ⟨ret_two' (by decide +kernel) (by decide +kernel), Below.refl _ _⟩
  · have hd' : s.data.toList ≠ [45] := fun e => hd (ByteArray.ext (Array.toList_inj.1 (by simpa using e)))
    have HD := Lib.hid hd'
    clear hd'
    have hsb : (s.toList == [45]) = false := by
      rw [ByteArray.toList_eq]; simpa using HD.out
    clear hd
    go_enter Tryd.func25, Tryd.ntmps25
    go_wp2
    go_step3
    go_wp2
    go_step3
    go_wp2
    go_loopg [4, 5, 12] s.size (fun g r f i wr => ∃ k n f' : Nat, k + g = s.size ∧ i = .int .i64 k ∧ r = .int .i64 n ∧ f = .int .i64 f' ∧ Hid (PAt s k n f') ∧ Below w.heap.size w wr)
    case atStart => exact ⟨0, 0, 0, by omega, rfl, rfl, rfl, Lib.hid rfl, Below.refl _ _⟩
    case round =>
      obtain ⟨k, n, f, hkg, rfl, rfl, rfl, HP, hbw⟩ := hrel
      obtain ⟨hf, hn, hn2⟩ := pat_inv HP.out
      cases gk with
      | zero =>
        obtain rfl : k = s.size := by omega
        have HE := Lib.hid (par_end HD.out HP.out)
        by_cases h0 : n = 0
        · subst h0
          go_wp2
          try rw [Exit.noGoto_ret]
          go_ret2
          exact ⟨ret_two' HE.out.1.symm HE.out.2.symm, hbw⟩
        · have h0' : ((n : Int) == 0) = false := by simp; omega
          go_wp2
          try rw [Exit.noGoto_ret]
          go_ret2
          exact ⟨ret_two' HE.out.1.symm (by rw [HE.out.2, if_neg h0]), hbw⟩
      | succ g =>
        have hlt : k < s.size := by omega
        have hlt' : (k : Int) < (s.size : Int) := by omega
        go_wp2
        go_loopg [4, 7] (12 - f) (fun g2 r a wr' => ∃ j : Nat, r = .int .i64 n ∧ f ≤ j ∧ j + g2 = 12 ∧ a = .int .i64 j ∧ Hid (seek s[k] f (12 - f) = seek s[k] j (12 - j)) ∧ Below w.heap.size w wr')
        case atStart => exact ⟨f, rfl, by omega, by omega, rfl, Lib.hid rfl, hbw⟩
        case round =>
          obtain ⟨j, rfl, hfj, hjg, rfl, HS, hbw2⟩ := hrel
          cases gk with
          | zero =>
            obtain rfl : j = 12 := by omega
            have HE := Lib.hid (par_stop HD.out (pat_stop hlt HP.out HS.out))
            go_wp2
            try rw [Exit.noGoto_ret]
            go_ret2
            exact ⟨ret_two' HE.out.1.symm HE.out.2.symm, hbw2⟩
          | succ g2 =>
            have hj : j < 12 := by omega
            have hj' : (j : Int) < 12 := by omega
            have hsl : (⟨#[68, 84, 82, 87, 83, 80, 65, 73, 77, 75, 71, 89]⟩ : ByteArray).size = 12 := rfl
            have el : (⟨#[68, 84, 82, 87, 83, 80, 65, 73, 77, 75, 71, 89]⟩ : ByteArray)[j]'(by rw [hsl]; exact hj) = letterAt j := by
              have : ∀ j : Nat, (hj : j < 12) → (⟨#[68, 84, 82, 87, 83, 80, 65, 73, 77, 75, 71, 89]⟩ : ByteArray)[j]'hj = letterAt j := by decide +kernel
              exact this j hj
            by_cases hc : s[k] = letterAt j
            · have hb : ((s[k].toNat : Int) == (((⟨#[68, 84, 82, 87, 83, 80, 65, 73, 77, 75, 71, 89]⟩ : ByteArray)[j]'(by rw [hsl]; exact hj)).toNat : Int)) = true := by rw [el, hc]; simp
              have HN := Lib.hid (pat_next hlt HP.out (HS.out.trans (seek_yes _ j hj hc)))
              have ho := or_cast f hf n hn j hfj hj
              have hw : wrap64 (2 ^ j) = (2 : Int) ^ j := by
                have : ∀ k, k < 12 → wrap64 (2 ^ k) = (2 : Int) ^ k := by decide +kernel
                exact this j hj
              rw [← hw] at ho
              clear el hc hw
              go_wp2
              go_quiet (fail)
              go_wp2
              go_roundg g
              case measure => omega
              case rel => exact ⟨k + 1, n + 2 ^ j, j + 1, by omega, by go_num, rfl, by go_num, HN, below_dn hbw2 _⟩
            · have hb : ((s[k].toNat : Int) == (((⟨#[68, 84, 82, 87, 83, 80, 65, 73, 77, 75, 71, 89]⟩ : ByteArray)[j]'(by rw [hsl]; exact hj)).toNat : Int)) = false := by
                rw [el]
                simp only [beq_eq_false_iff_ne, ne_eq]
                intro e; exact hc (UInt8.toNat_inj.1 (by omega))
              have HN := Lib.hid (seek_no s[k] j hj hc)
              clear el hc
              go_wp2
              go_quiet (fail)
              go_wp2
              go_roundg g2
              case measure => omega
              case rel => exact ⟨j + 1, rfl, by omega, by omega, by go_num, Lib.hid (HS.out.trans HN.out), below_dn hbw2 _⟩
end Go.Proofs.YtefcklkepoihkaaDoor
