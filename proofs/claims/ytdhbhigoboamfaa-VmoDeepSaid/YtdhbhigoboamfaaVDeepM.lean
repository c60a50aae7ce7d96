/-
  Slices one above the other, as plain data; what is written through the topmost stands in the first. No walk, no conditions.
-/
import Derived.Test.YtdhbhigoboamfaaVView
import Derived.Test.YtdhbhigoboamfaaLawApart
namespace Go.Proofs.Ytdhbhigoboamfaa
open Go.ChangeShapes Go.WideShapes Go.ChangeAt Go.RowKit

def dOb (m k : Nat) : Ob := ⟨1920 - 64 * k, k, if k < m then 1 else 0, if k < m then 1 else 0, k, if k = 0 then 0 else 64, false, fun _ => none, 0⟩
def dO (m : Nat) : Int → Option Ob := fun i => if 1 ≤ i ∧ i ≤ (m : Int) + 1 then some (dOb m (i.toNat - 1)) else none
def DM (m : Nat) : Mod := ⟨40, m + 1, m + 1, dO m, List.replicate 40 Pg.none⟩
theorem dO_at (m k : Nat) (h : k ≤ m) : dO m ((k : Int) + 1) = some (dOb m k) := by
  unfold dO
  rw [if_pos (by omega)]
  rw [show ((k : Int) + 1).toNat - 1 = k by omega]
theorem dO_inv {m : Nat} {i : Int} {o : Ob} (h : dO m i = some o) : ∃ k : Nat, i = (k : Int) + 1 ∧ k ≤ m ∧ o = dOb m k := by
  unfold dO at h
  split at h
  · rename_i hi
    cases h
    exact ⟨i.toNat - 1, by omega, by omega, rfl⟩
  · cases h
theorem d_chain (m : Nat) (hm : m ≤ 16) : Chain (dO m) := by
  refine ⟨fun i o hO hd => ?_, fun i o hO => ?_, fun i o hO hd => ?_⟩
  · obtain ⟨k, rfl, hk, rfl⟩ := dO_inv hO
    have hd' : 0 < k := hd
    refine ⟨dOb m (k - 1), ?_, ?_⟩
    · show dO m (k : Int) = _
      rw [show (k : Int) = ((k - 1 : Nat) : Int) + 1 by omega]
      exact dO_at m (k - 1) (by omega)
    · show k - 1 + 1 = k
      omega
  · obtain ⟨k, rfl, hk, rfl⟩ := dO_inv hO
    refine ⟨?_, ?_, ?_⟩
    · show 1920 - 64 * k ≤ _; omega
    · show (if k = 0 then 0 else 64) ≤ _; split <;> omega
    · show k ≤ 16; omega
  · obtain ⟨k, rfl, hk, rfl⟩ := dO_inv hO
    rfl
theorem d_step (m : Nat) (hm : m < 20) : sliceM (DM m) ((m : Int) + 1) (dOb m m) 64 (((1920 - 64 * m : Nat) : Int) - 64) = DM (m + 1) := by
  unfold sliceM DM addM
  simp only
  congr 1
  funext i
  unfold updI
  by_cases h1 : i = (m : Int) + 1
  · subst h1
    rw [if_pos rfl]
    have := dO_at (m + 1) m (by omega)
    rw [this]
    unfold dOb kidS
    simp
  · rw [if_neg h1]
    by_cases h2 : i = ((m + 1 : Nat) : Int) + 1
    · subst h2
      rw [if_pos rfl, dO_at (m + 1) (m + 1) (Nat.le_refl _)]
      unfold dOb newOb
      simp
      omega
    · rw [if_neg h2]
      unfold dO
      by_cases h3 : 1 ≤ i ∧ i ≤ (m : Int) + 1
      · rw [if_pos h3, if_pos (by omega)]
        unfold dOb
        have e1 : i.toNat - 1 < m := by omega
        have e2 : i.toNat - 1 < m + 1 := by omega
        rw [if_pos e1, if_pos e2]
      · rw [if_neg h3, if_neg (by omega)]
theorem d_root (m : Nat) : ∀ k, k ≤ m → ∀ t, rootI (dO m) k ((k : Int) + 1) t = (1, t + 64 * (k : Int)) := by
  intro k
  induction k with
  | zero => intro _ t; simp [rootI]
  | succ k ih =>
    intro hk t
    rw [rootI_succ (dO_at m (k + 1) hk)]
    show rootI (dO m) k (((k + 1 : Nat)) : Int) (t + ((if k + 1 = 0 then 0 else 64 : Nat) : Int)) = _
    rw [if_neg (by omega)]
    rw [show ((k + 1 : Nat) : Int) = (k : Int) + 1 by omega, ih (by omega)]
    congr 1
    omega
theorem d_held (m : Nat) : Held (DM m) := fun i o q f hO hp => by
  obtain ⟨k, rfl, hk, rfl⟩ := dO_inv hO
  simp [dOb] at hp

/-- What stands behind the write. -/
def DS (m : Nat) (bs : List UInt8) : PL := commitAll ⟨List.replicate 40 Pg.none, fun _ => none, 0⟩ (partsL (64 * m) bs.length)
def DW (m : Nat) (bs : List UInt8) : Mod := setL (setM (DM m) 1 (dOb m 0) (DS m bs)) (wAll (DS m bs) bs (partsL (64 * m) bs.length)).1
theorem dw_empty (m : Nat) : DS m [] = ⟨List.replicate 40 Pg.none, fun _ => none, 0⟩ := by
  unfold DS
  rw [parts_one m _ (by decide)]
  rfl
theorem dw_full (m : Nat) (bs : List UInt8) (h0 : 0 < bs.length) (hl : bs.length ≤ 64) : DS m bs = ⟨⟨1, blank⟩ :: List.replicate 39 Pg.none, updI (fun _ => none) (m : Int) (some 0), 1⟩ := by
  unfold DS
  rw [parts_one m _ hl, if_neg (by omega)]
  unfold commitAll
  simp only [List.foldl_cons, List.foldl_nil]
  unfold commit1 pgL pgV
  simp only [Option.isSome_none, Bool.false_eq_true, if_false]
  have e1 : allocL (List.replicate 40 Pg.none) = ⟨1, blank⟩ :: List.replicate 39 Pg.none := by decide +kernel
  have e2 : allocV (List.replicate 40 Pg.none) = 0 := by decide +kernel
  rw [e1, e2]
theorem dw_write (m : Nat) (bs : List UInt8) (h0 : 0 < bs.length) (hl : bs.length ≤ 64) : (wAll (DS m bs) bs (partsL (64 * m) bs.length)).1 = ⟨1, putB blank 0 bs⟩ :: List.replicate 39 Pg.none := by
  rw [parts_one m _ hl, if_neg (by omega), dw_full m bs h0 hl]
  unfold wAll wstep frameOf
  simp only [List.foldl_cons, List.foldl_nil, updI_same, Option.getD_some, List.take_length]
  have hw : writeS (⟨1, blank⟩ :: List.replicate 39 Pg.none) 0 ((0 : Nat) : Int) bs.length = 0 := by
    have hu : usersL (⟨1, blank⟩ :: List.replicate 39 Pg.none) 0 = 1 := rfl
    unfold writeS withinS
    rw [hu]
    have : inB ((0 : Nat) : Int) bs.length = true := by unfold inB; exact decide_eq_true (by omega)
    rw [this]
    rfl
  unfold writeL
  rw [if_pos hw]
  rfl
theorem dw_read (m : Nat) (bs : List UInt8) (hl : bs.length ≤ 64) : readAll ⟨(DW m bs).L, (DS m bs).g, (DS m bs).c⟩ (64 * m) bs.length = bs := by
  unfold readAll
  rw [parts_one m _ hl]
  by_cases h : bs.length = 0
  · rw [if_pos h]
    simp
    exact List.eq_nil_of_length_eq_zero h
  · rw [if_neg h]
    have e : (DW m bs).L = ⟨1, putB blank 0 bs⟩ :: List.replicate 39 Pg.none := dw_write m bs (by omega) hl
    rw [e, dw_full m bs (by omega) hl]
    simp only [List.flatMap_cons, List.flatMap_nil, List.append_nil]
    unfold byteL
    simp only [updI_same]
    show ((putB blank 0 bs).drop (0 : Nat)).take ((bs.length : Int).toNat) = bs
    rw [List.drop_zero, Int.toNat_natCast]
    have := put_back (l := blank) (bs := bs) (o := 0) (by show 0 + bs.length ≤ 64; omega)
    rwa [List.drop_zero] at this
theorem dw_at (m : Nat) (bs : List UInt8) : (DW m bs).O 1 = some { dOb m 0 with pgs := (DS m bs).g, cnt := (DS m bs).c } := by
  show updI (dO m) 1 _ 1 = _
  rw [updI_same]
  rfl
theorem dw_other (m k : Nat) (bs : List UInt8) (h : k ≤ m) (hk : 0 < k) : (DW m bs).O ((k : Int) + 1) = some (dOb m k) := by
  show updI (dO m) 1 _ ((k : Int) + 1) = _
  unfold updI
  rw [if_neg (by omega)]
  exact dO_at m k h
theorem dw_chain (m : Nat) (bs : List UInt8) (hm : m ≤ 16) : Chain (DW m bs).O :=
  (d_chain m hm).upd (dO_at m 0 (Nat.zero_le _)) rfl rfl rfl rfl (fun h => absurd h (Nat.lt_irrefl 0))
theorem dw_held (m : Nat) (bs : List UInt8) (hl : bs.length ≤ 64) : Held (DW m bs) := fun i o q f hO hp => by
  by_cases hi : i = 1
  · subst hi
    rw [dw_at] at hO
    cases hO
    by_cases h0 : bs.length = 0
    · rw [List.eq_nil_of_length_eq_zero h0, dw_empty] at hp
      cases hp
    · have e : (DW m bs).L = ⟨1, putB blank 0 bs⟩ :: List.replicate 39 Pg.none := dw_write m bs (by omega) hl
      rw [dw_full m bs (by omega) hl] at hp
      unfold updI at hp
      simp only at hp
      split at hp
      · cases hp
        rw [e]
        show (1 : Nat) ≠ 0
        decide
      · cases hp
  · have hO2 : dO m i = some o := by
      have : (DW m bs).O i = dO m i := by
        show updI (dO m) 1 _ i = _
        unfold updI
        rw [if_neg hi]
      rwa [this] at hO
    obtain ⟨k, rfl, hk, rfl⟩ := dO_inv hO2
    simp [dOb] at hp
end Go.Proofs.Ytdhbhigoboamfaa
