/-
  What the reference's Find, Count, Sub and Reduce answer. No conditions but that the table is one that calls can make, and that the numbers are numbers of 64 bits.
-/
import Derived.Test.YtacdhlhkpdlekaaHRef
import Derived.Deep.LoopGhost
import Derived.BigQuiet
import Derived.RegionTactic
namespace Go.Proofs.Ytacdhlhkpdlekaa
open Go.ChangeShapes Go.WideShapes Go.ChangeAt Go.RowKit

section
variable {w : World} {x cap : Nat} {va ea : Value} {R : List Pl}

theorem valsR_getD {k : Nat} {p : Pl} (h : R[k]? = some p) : (valsR R).getD k 0 = p.value := by
  simp [valsR, List.getD, h]

/-- Find of the reference. -/
theorem rfind_mem (h : RMem w x va ea cap (valsR R) (entsR R)) (ok : ROK cap R) (v : Int) :
    Calls Try.prog 48 #[.pointer (some ⟨x, 0, none⟩), .int .i64 v] w fun e w' => e = .returned (.int .i64 (findI (padL cap R) v)) ∧ w = w' := by
  have c0 := h.c0
  have htop : R.length ≤ 65536 := by have := ok.len; have := ok.top; omega
  obtain ⟨n, hn⟩ : ∃ n, R.length = n := ⟨_, rfl⟩
  have hvl : (valsR R).length = n := by rw [← hn]; simp [valsR]
  rw [hn] at htop
  obtain ⟨z, hz⟩ : ∃ z, findI (padL cap R) v = z := ⟨_, rfl⟩
  have HZ := Lib.hid hz
  have HM := Lib.hid h
  have HO := Lib.hid ok
  have HN := Lib.hid (And.intro hn hvl)
  obtain ⟨pp, cp, hva⟩ := ints_slice h.vals
  rw [hvl] at hva
  subst hva
  rw [hz]
  clear hz h ok hn hvl
  go_enter Try.func48, Try.ntmps48
  go_wp2
  go_loopg [5] n (fun g c wr => ∃ k : Nat, k ≤ n ∧ g = n - k ∧ c = .int .i64 k ∧ wr = w ∧ Hid (v ≠ 0 → ∀ (j : Nat) (p : Pl), j < k → R[j]? = some p → p.value ≠ v))
  case atStart => exact ⟨0, by omega, by omega, rfl, rfl, fun _ j p hj => absurd hj (Nat.not_lt_zero j)⟩
  case round =>
    obtain ⟨k, hk, hgk, rfl, rfl, hno⟩ := hrel
    by_cases hlt : k < n
    · obtain ⟨g, cc, he, hc1, hc2, hxg, -, hcell, hfz⟩ := HM.out.valAt (k := k) (by rw [HN.out.2]; exact hlt)
      rw [HN.out.2] at he hc1
      simp only [Value.slice.injEq] at he
      obtain ⟨rfl, -, rfl⟩ := he
      obtain ⟨p, hp⟩ : ∃ p, R[k]? = some p := ⟨_, List.getElem?_eq_getElem (by rw [HN.out.1]; exact hlt)⟩
      rw [valsR_getD hp] at hcell
      have HP := Lib.hid hp
      clear hp
      by_cases hv0 : v = 0
      · have HN2 := Lib.hid (show v ≠ 0 → ∀ (j : Nat) (p : Pl), j < k + 1 → R[j]? = some p → p.value ≠ v from fun h => absurd hv0 h)
        subst hv0
        go_wp2
        go_roundg (n - (k + 1))
        case measure => omega
        case rel => exact ⟨k + 1, by omega, by omega, by go_num, rfl, HN2⟩
      · have hb0 : (v != 0) = true := by simp [hv0]
        by_cases hpv : p.value = v
        · have hzz : z = (k : Int) := by
            rw [← HZ.out]; unfold findI; rw [rfind_is HO.out HP.out hpv hv0]
          have HZ2 := Lib.hid hzz
          have hb1 : (p.value == v) = true := by simp [hpv]
          generalize p.value = pv at *
          subst hpv
          clear hzz hv0 hb1
          go_wp2
          go_ret
          exact ⟨ret_int HZ2.out.symm, rfl⟩
        · have hb1 : (p.value == v) = false := by simp [hpv]
          have HN2 := Lib.hid (show v ≠ 0 → ∀ (j : Nat) (p : Pl), j < k + 1 → R[j]? = some p → p.value ≠ v from fun h0 j q hj hq => by
            by_cases e : j = k
            · subst e
              rw [HP.out] at hq
              simp at hq
              subst hq; exact hpv
            · exact hno.out h0 j q (by omega) hq)
          generalize p.value = pv at *
          clear hpv hv0
          go_wp2
          go_roundg (n - (k + 1))
          case measure => omega
          case rel => exact ⟨k + 1, by omega, by omega, by go_num, rfl, HN2⟩
    · obtain rfl : k = n := by omega
      have hzz : z = -1 := by
        rw [← HZ.out]; unfold findI
        rw [rfind_no (fun h0 j p hj => hno.out h0 j p (by have := (List.getElem?_eq_some_iff.1 hj).1; rw [HN.out.1] at this; exact this) hj)]
      have HZ2 := Lib.hid hzz
      clear hzz
      go_wp2
      go_ret
      exact ⟨ret_int HZ2.out.symm, rfl⟩

/-- Count of the reference. -/
theorem rcount_mem (h : RMem w x va ea cap (valsR R) (entsR R)) (ok : ROK cap R) :
    Calls Try.prog 47 #[.pointer (some ⟨x, 0, none⟩)] w fun e w' => e = .returned (.int .i64 (takenL R).length) ∧ w = w' := by
  have c0 := h.c0
  have htop : R.length ≤ 65536 := by have := ok.len; have := ok.top; omega
  obtain ⟨n, hn⟩ : ∃ n, R.length = n := ⟨_, rfl⟩
  have hvl : (valsR R).length = n := by rw [← hn]; simp [valsR]
  rw [hn] at htop
  have HM := Lib.hid h
  have HN := Lib.hid (And.intro hn hvl)
  obtain ⟨pp, cp, hva⟩ := ints_slice h.vals
  rw [hvl] at hva
  subst hva
  clear h ok hn hvl
  go_enter Try.func47, Try.ntmps47
  go_wp2
  go_loopg [3, 4] n (fun g s c wr => ∃ k m : Nat, k ≤ n ∧ m ≤ k ∧ g = n - k ∧ c = .int .i64 k ∧ s = .int .i64 m ∧ wr = w ∧ Hid ((takenL (R.take k)).length = m))
  case atStart => exact ⟨0, 0, by omega, by omega, by omega, rfl, rfl, rfl, Lib.hid rfl⟩
  case round =>
    obtain ⟨k, m, hk, hmk, hgk, rfl, rfl, rfl, hm⟩ := hrel
    by_cases hlt : k < n
    · obtain ⟨g, cc, he, hc1, hc2, hxg, -, hcell, hfz⟩ := HM.out.valAt (k := k) (by rw [HN.out.2]; exact hlt)
      rw [HN.out.2] at he hc1
      simp only [Value.slice.injEq] at he
      obtain ⟨rfl, -, rfl⟩ := he
      obtain ⟨p, hp⟩ : ∃ p, R[k]? = some p := ⟨_, List.getElem?_eq_getElem (by rw [HN.out.1]; exact hlt)⟩
      rw [valsR_getD hp] at hcell
      by_cases hv : p.value = 0
      · have HT := Lib.hid (show (takenL (R.take (k + 1))).length = m by rw [taken_no R k p hp hv]; exact hm.out)
        rw [hv] at hcell
        clear hp hv
        go_wp2
        go_roundg (n - (k + 1))
        case measure => omega
        case rel => exact ⟨k + 1, m, by omega, by omega, by omega, by go_num, rfl, rfl, HT⟩
      · have HT := Lib.hid (show (takenL (R.take (k + 1))).length = m + 1 by rw [taken_yes R k p hp hv, List.length_append, hm.out]; rfl)
        have hb : (p.value != 0) = true := by simp [hv]
        generalize p.value = pv at *
        clear hp hv
        go_wp2
        go_roundg (n - (k + 1))
        case measure => omega
        case rel => exact ⟨k + 1, m + 1, by omega, by omega, by omega, by go_num, by go_num, rfl, HT⟩
    · obtain rfl : k = n := by omega
      have HT := Lib.hid (show (takenL R).length = m by have := hm.out; rw [List.take_of_length_le (Nat.le_of_eq HN.out.1)] at this; exact this)
      go_wp2
      go_ret
      exact ⟨ret_int (by rw [HT.out]), rfl⟩
end

/-- Are all bits of the second in the first? -/
theorem rsub_any (a b : Int) (ha : fit a) (hb : fit b) (w : World) :
    Calls Try.prog 49 #[.int .i64 a, .int .i64 b] w fun e w' => e = .returned (.bool (hasB a b)) ∧ w = w' := by
  go_enter Try.func49, Try.ntmps49
  go_wp2
  go_loop [5] (fun i => ∃ k : Nat, k ≤ 64 ∧ i = .int .i64 k ∧ Hid (∀ j, j < k → bitB b j = true → bitB a j = true)) (fun i => 64 - (intOf i).toNat)
  case atStart => exact ⟨0, by omega, rfl, Lib.hid fun j hj => by omega⟩
  case round =>
    obtain ⟨k, hk, rfl, HA⟩ := hrel
    by_cases hlt : k < 64
    · have C1 := Lib.hid (fun w => rhas_any b k hb hlt w)
      have C2 := Lib.hid (fun w => rhas_any a k ha hlt w)
      rcases hbk : bitB b k with _ | _ <;> rcases hak : bitB a k with _ | _
      all_goals
        rw [hbk] at C1; rw [hak] at C2
        have HB : Hid (bitB b k = _) := Lib.hid hbk
        have HK : Hid (bitB a k = _) := Lib.hid hak
        clear hbk hak
        go_wp2_with (first
          | (go_at_call 57; (with_reducible refine (C1.out _).mono ?_); rintro e w' ⟨rfl, rfl⟩)
          | (go_at_call 57; (with_reducible refine (C2.out _).mono ?_); rintro e w' ⟨rfl, rfl⟩))
        first
        | (go_ret
           refine ⟨ret_bool ?_, rfl⟩
           symm
           rw [← Bool.not_eq_true, hasB_iff a b hb]
           intro h
           have := h k hlt HB.out
           rw [HK.out] at this
           cases this)
        | (go_round
           case rel =>
             refine ⟨k + 1, by omega, by go_num, Lib.hid fun j hj h => ?_⟩
             rcases Nat.lt_succ_iff_lt_or_eq.1 hj with h' | rfl
             · exact HA.out j h' h
             · first | exact HK.out | (rw [HB.out] at h; cases h)
           case measure => simp [intOf]; omega)
    · obtain rfl : k = 64 := by omega
      go_wp2
      go_ret
      exact ⟨ret_bool ((hasB_iff a b hb).2 HA.out).symm, rfl⟩

theorem has4095 (b : Int) (hb : fit b) : hasB 4095 b = true ↔ 0 ≤ b ∧ b ≤ 4095 := by
  have h4 : ∀ i, i < 64 → bitB 4095 i = decide (i < 12) := by decide +kernel
  rw [hasB_iff 4095 b hb]
  constructor
  · intro h
    have e : bits .and .i64 b 4095 = b := by
      refine bits_ext _ _ (fit_bits _ _ _) hb fun i hi => ?_
      rw [bit_and, h4 i hi]
      cases hbi : bitB b i with
      | false => rfl
      | true => have := h i hi hbi; rw [h4 i hi] at this; rw [this]; rfl
    have h1 : bits .and .i64 b 4095 = IntKind.i64.wrap ((BitVec.ofInt 64 b &&& 4095#64).toNat : Int) := rfl
    have h2 : (BitVec.ofInt 64 b &&& 4095#64).toNat ≤ 4095 := by rw [BitVec.toNat_and]; exact Nat.and_le_right
    rw [wrap_nat _ (by omega)] at h1
    omega
  · rintro ⟨h1, h2⟩ i hi h
    rw [h4 i hi]
    by_cases hlt : i < 12
    · simp [hlt]
    · exfalso
      obtain ⟨n, rfl⟩ : ∃ n : Nat, b = n := ⟨b.toNat, by omega⟩
      unfold bitB at h
      rw [BitVec.ofInt_natCast, BitVec.getLsbD_ofNat] at h
      have : n < 2 ^ i := by
        have : 2 ^ 12 ≤ 2 ^ i := Nat.pow_le_pow_right (by decide) (by omega)
        omega
      rw [Nat.testBit_lt_two_pow this] at h
      simp at h
theorem rreduce_any (a b : Int) (ha : fit a) (hb : fit b) (w : World) :
    Calls Try.prog 50 #[.int .i64 a, .int .i64 b] w fun e w' => e = .returned (.tuple #[.int .i64 (redV a b), .int .i64 (redS a b)]) ∧ w = w' := by
  have C := Lib.hid (fun w => rsub_any a b ha hb w)
  have HB := Lib.hid (has4095 b hb)
  by_cases h0 : b = 2147483648
  · have H := Lib.hid (show redV a b = a ∧ redS a b = 0 by simp [redV, redS, h0])
    subst h0
    go_enter Try.func50, Try.ntmps50
    go_wp2
    go_ret2
    exact ⟨ret_two H.out.1.symm H.out.2.symm, rfl⟩
  · have hb0 : (b == 2147483648) = false := by simp [h0]
    by_cases h1 : b < 0
    · have H := Lib.hid (show redV a b = 0 ∧ redS a b = -10 by
        have : ¬ hasB 4095 b = true := fun h => by have := HB.out.1 h; omega
        simp [redV, redS, h0, this])
      go_enter Try.func50, Try.ntmps50
      go_wp2
      go_ret2
      exact ⟨ret_two H.out.1.symm H.out.2.symm, rfl⟩
    · by_cases h2 : 4095 < b
      · have H := Lib.hid (show redV a b = 0 ∧ redS a b = -10 by
          have : ¬ hasB 4095 b = true := fun h => by have := HB.out.1 h; omega
          simp [redV, redS, h0, this])
        go_enter Try.func50, Try.ntmps50
        go_wp2
        go_ret2
        exact ⟨ret_two H.out.1.symm H.out.2.symm, rfl⟩
      · have h3 : hasB 4095 b = true := HB.out.2 (by omega)
        rcases h4 : hasB a b with _ | _
        · have H := Lib.hid (show redV a b = 0 ∧ redS a b = -10 by simp [redV, redS, h0, h3, h4])
          rw [h4] at C
          clear h3 h4
          go_enter Try.func50, Try.ntmps50
          go_wp2_with (go_at_call 49; (with_reducible refine (C.out _).mono ?_); rintro e w' ⟨rfl, rfl⟩)
          go_ret2
          exact ⟨ret_two H.out.1.symm H.out.2.symm, rfl⟩
        · have H := Lib.hid (show redV a b = b ∧ redS a b = 0 by simp [redV, redS, h0, h3, h4])
          rw [h4] at C
          clear h3 h4
          go_enter Try.func50, Try.ntmps50
          go_wp2_with (go_at_call 49; (with_reducible refine (C.out _).mono ?_); rintro e w' ⟨rfl, rfl⟩)
          go_ret2
          exact ⟨ret_two H.out.1.symm H.out.2.symm, rfl⟩
end Go.Proofs.Ytacdhlhkpdlekaa
