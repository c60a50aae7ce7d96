/-
  The contract of Parse: the set whose text it is, or that there is none. Condition: the text has at most 500 bytes.
-/
import Derived.Test.YtlecnhegfacfcaaSMath
import Derived.Deep.LoopGhost
import Derived.WalkMore
namespace Go.Proofs.Ytlecnhegfacfcaa
open Go.ChangeShapes Go.WideShapes Go.ChangeAt Go.RowKit

/-- Where the names are gone through, or the text is. -/
theorem par_at (t : List UInt8) (k : Nat) (h45 : t ≠ [45]) (hk : k ≤ 14) (h : k = 14 ∨ scanR t k = t.length) :
    parV t = (if valOf (hit t) k ≠ 0 ∧ scanR t k = t.length then (valOf (hit t) k : Int) else 0) ∧ parS t = (if valOf (hit t) k ≠ 0 ∧ scanR t k = t.length then 0 else -10) := by
  have e : valOf (hit t) 14 = valOf (hit t) k ∧ (scanR t 14 = t.length ↔ scanR t k = t.length) := by
    rcases h with rfl | h
    · exact ⟨rfl, Iff.rfl⟩
    · obtain ⟨s1, s2⟩ := scan_stay t k (14 - k) h
      rw [show k + (14 - k) = 14 by omega] at s1 s2
      have := val_stay (hit t) k (14 - k) (fun j h1 h2 => s2 j h1 (by omega))
      rw [show k + (14 - k) = 14 by omega] at this
      exact ⟨this, by rw [s1, h]⟩
  unfold parV parS okL
  rw [if_neg h45, if_neg h45, e.1]
  simp only [e.2, decide_eq_true_eq]
  trivial
theorem below_dn {B : Nat} {a w : World} (h : Below B a w) (n : Nat) : Below B a (w.drewN n) := ⟨h.os, h.tape, h.output, h.size, h.block⟩
set_option maxHeartbeats 1000000 in
set_option maxRecDepth 20000 in
theorem parse_any (s : ByteArray) (hs : s.size ≤ 500) (w : World) :
    Calls Try.prog 25 #[.string s] w fun e w' => e = .returned (.tuple #[.int .i64 (parV s.data.toList), .int .i64 (parS s.data.toList)]) ∧ Below w.heap.size w w' := by
  by_cases hd : s = ⟨#[45]⟩
  · subst hd
    go_enter Try.func25, Try.ntmps25
    go_wp2
    go_step3
    go_wp2
    try rw [Exit.noGoto_ret]
    go_ret2
    exact ⟨ret_two (by decide +kernel) (by decide +kernel), Below.refl _ _⟩
  · have hd' : s.data.toList ≠ [45] := fun e => hd (ByteArray.ext (Array.toList_inj.1 (by simpa using e)))
    have HD := Lib.hid hd'
    clear hd'
    have hsb : (s.toList == [45]) = false := by
      rw [ByteArray.toList_eq]; simpa using HD.out
    clear hd
    go_enter Try.func25, Try.ntmps25
    go_wp2
    go_step3
    go_wp2
    go_step3
    go_wp2
    go_loopg [4, 5, 9] 14 (fun g a r i wr => ∃ k n f : Nat, k + g = 14 ∧ a = .int .i64 n ∧ r = .int .i64 f ∧ i = .int .i64 k ∧ f ≤ s.size ∧ Hid (n = valOf (hit s.data.toList) k ∧ f = scanR s.data.toList k) ∧ Below w.heap.size w wr)
    case atStart => exact ⟨0, 0, 0, by omega, rfl, rfl, rfl, by omega, Lib.hid ⟨rfl, rfl⟩, Below.refl _ _⟩
    case round =>
      obtain ⟨k, n, f, hkg, rfl, rfl, rfl, hf, HP, hbw⟩ := hrel
      cases gk with
      | zero =>
        obtain rfl : k = 14 := by omega
        have HE := Lib.hid (par_at s.data.toList 14 HD.out (by omega) (.inl rfl))
        by_cases hn : n = 0
        · subst hn
          have HV := Lib.hid (show parV s.data.toList = 0 ∧ parS s.data.toList = -10 by
            rw [HE.out.1, HE.out.2, ← HP.out.1, ← HP.out.2]; simp)
          go_wp2
          try rw [Exit.noGoto_ret]
          go_ret2
          exact ⟨ret_two HV.out.1.symm HV.out.2.symm, hbw⟩
        · have hn' : ((n : Int) == 0) = false := by simp; omega
          by_cases hfs : f = s.size
          · have HV := Lib.hid (show parV s.data.toList = n ∧ parS s.data.toList = 0 by
              rw [HE.out.1, HE.out.2, ← HP.out.1, ← HP.out.2]; simp [hn, hfs])
            have hl : ¬ f < s.size := by omega
            have hl' : ¬ (f : Int) < (s.size : Int) := by omega
            clear hn
            go_wp2
            try rw [Exit.noGoto_ret]
            go_ret2
            exact ⟨ret_two HV.out.1.symm HV.out.2.symm, hbw⟩
          · have HV := Lib.hid (show parV s.data.toList = 0 ∧ parS s.data.toList = -10 by
              rw [HE.out.1, HE.out.2, ← HP.out.1, ← HP.out.2]; simp [hfs])
            have hl : f < s.size := by omega
            have hl' : (f : Int) < (s.size : Int) := by omega
            clear hn
            go_wp2
            try rw [Exit.noGoto_ret]
            go_ret2
            exact ⟨ret_two HV.out.1.symm HV.out.2.symm, hbw⟩
      | succ g =>
        have hk : k < 14 := by omega
        have hk' : (k : Int) < 14 := by omega
        by_cases hfs : f = s.size
        · subst hfs
          have HE := Lib.hid (par_at s.data.toList k HD.out (by omega) (.inr (by rw [← HP.out.2]; rfl)))
          by_cases hn : n = 0
          · subst hn
            have HV := Lib.hid (show parV s.data.toList = 0 ∧ parS s.data.toList = -10 by
              rw [HE.out.1, HE.out.2, ← HP.out.1, ← HP.out.2]; simp)
            go_wp2
            try rw [Exit.noGoto_ret]
            go_ret2
            exact ⟨ret_two HV.out.1.symm HV.out.2.symm, hbw⟩
          · have hn' : ((n : Int) == 0) = false := by simp; omega
            have HV := Lib.hid (show parV s.data.toList = n ∧ parS s.data.toList = 0 by
              rw [HE.out.1, HE.out.2, ← HP.out.1, ← HP.out.2]; simp [hn])
            clear hn
            go_wp2
            try rw [Exit.noGoto_ret]
            go_ret2
            exact ⟨ret_two HV.out.1.symm HV.out.2.symm, hbw⟩
        · have hfl : f < s.size := by omega
          have hfe : ((f : Int) == (s.size : Int)) = false := by simp; omega
          have hfe2 : (f : Int) ≠ (s.size : Int) := by omega
          have hfl' : (f : Int) < (s.size : Int) := by omega
          have hsl : (⟨#[114, 119, 112, 115, 116, 122, 48, 49, 50, 51, 52, 53, 54, 55]⟩ : ByteArray).size = 14 := rfl
          have el : (⟨#[114, 119, 112, 115, 116, 122, 48, 49, 50, 51, 52, 53, 54, 55]⟩ : ByteArray)[k]'(by rw [hsl]; exact hk) = nameAt k := name_get k hk
          have hget : s.data.toList[f]? = some s[f] := by
            rw [List.getElem?_eq_getElem (by simpa using hfl)]; rfl
          by_cases hc : s[f] = nameAt k
          · have hb : ((s[f].toNat : Int) == (((⟨#[114, 119, 112, 115, 116, 122, 48, 49, 50, 51, 52, 53, 54, 55]⟩ : ByteArray)[k]'(by rw [hsl]; exact hk)).toNat : Int)) = true := by rw [el, hc]; simp
            have hh : hit s.data.toList k = true := decide_eq_true (by rw [← HP.out.2, hget, hc])
            have HN := Lib.hid (show n + 2 ^ pl k = valOf (hit s.data.toList) (k + 1) ∧ f + 1 = scanR s.data.toList (k + 1) by
              rw [val_yes _ k hh, scan_yes _ k hh, ← HP.out.1, ← HP.out.2]; exact ⟨rfl, rfl⟩)
            have ho := or_val (hit s.data.toList) k hk
            rw [← HP.out.1] at ho
            have cn := named_any k hk
            clear el hc hh hget
            generalize (2 : Int) ^ pl k = P at cn ho
            generalize n + 2 ^ pl k = n2 at ho HN
            go_wp2
            go_quiet (fail)
            go_wp2_with (go_at_call 28; (with_reducible refine (cn _).mono ?_); rintro e w' ⟨rfl, rfl⟩)
            go_roundg g
            case measure => omega
            case rel => exact ⟨k + 1, n2, f + 1, by omega, rfl, by go_num, by go_num, by omega, HN, below_dn hbw _⟩
          · have hb : ((s[f].toNat : Int) == (((⟨#[114, 119, 112, 115, 116, 122, 48, 49, 50, 51, 52, 53, 54, 55]⟩ : ByteArray)[k]'(by rw [hsl]; exact hk)).toNat : Int)) = false := by
              rw [el]
              simp only [beq_eq_false_iff_ne, ne_eq]
              intro e; exact hc (UInt8.toNat_inj.1 (by omega))
            have hh : hit s.data.toList k = false := decide_eq_false (by rw [← HP.out.2, hget]; intro e; exact hc (Option.some.inj e))
            have HN := Lib.hid (show n = valOf (hit s.data.toList) (k + 1) ∧ f = scanR s.data.toList (k + 1) by
              rw [val_no _ k hh, scan_no _ k hh]; exact HP.out)
            clear el hc hh hget
            go_wp2
            go_quiet (fail)
            go_wp2
            go_roundg g
            case measure => omega
            case rel => exact ⟨k + 1, n, f, by omega, rfl, rfl, by go_num, by omega, HN, below_dn hbw _⟩
end Go.Proofs.Ytlecnhegfacfcaa
