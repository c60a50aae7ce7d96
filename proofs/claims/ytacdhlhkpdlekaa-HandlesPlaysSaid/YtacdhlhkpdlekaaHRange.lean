/-
  A table whose lowest places hold a row of entries, as plain data; the low bits of a number. No walk, no conditions.
-/
import Derived.Test.YtacdhlhkpdlekaaHClose
namespace Go.Proofs.Ytacdhlhkpdlekaa
open Go.RowKit

theorem and_low (a : Int) : bits .and .i64 a 65535 = a % 65536 := by
  show IntKind.i64.wrap ((BitVec.ofInt 64 a &&& BitVec.ofInt 64 65535).toNat : Int) = _
  have e : (BitVec.ofInt 64 65535).toNat = 2 ^ 16 - 1 := by decide
  rw [BitVec.toNat_and, e, Nat.and_two_pow_sub_one_eq_mod, BitVec.toNat_ofInt]
  have h1 : (0 : Int) ≤ a % ((2 ^ 64 : Nat) : Int) := Int.emod_nonneg _ (by decide)
  rw [wrap_nat _ (by omega)]
  omega
theorem place_valS (p : Nat) (d : Int) (h : p < 65536) : placeS (valS p d) = p := by
  unfold placeS valS
  have h1 := Int.emod_nonneg d (b := 65536) (by decide)
  have h2 := Int.emod_lt_of_pos d (b := 65536) (by decide)
  rw [if_neg (by omega)]
  omega
theorem valS_fit (p : Nat) (d : Int) (h : p < 65536) : fit (valS p d) := by
  unfold valS fit
  have h1 := Int.emod_nonneg d (b := 65536) (by decide)
  have h2 := Int.emod_lt_of_pos d (b := 65536) (by decide)
  omega
theorem valS_top (p : Nat) (d : Int) (h : p < 65536) : valS p d < 68719476736 := by
  unfold valS
  have h2 := Int.emod_lt_of_pos d (b := 65536) (by decide)
  omega

/-- The lowest n places hold f. -/
def rngL (cap n : Nat) (f : Nat → Pl) : List Pl := padL cap ((List.range n).map f)
section
variable {cap n : Nat} {f : Nat → Pl}
theorem rng_len (h : n ≤ cap) : (rngL cap n f).length = cap := padL_len (by simpa using h)
theorem rng_low (hf : ∀ j, (f j).value ≠ 0) (h : n < cap) : lowOf (rngL cap n f) = n := by
  refine lowOf_is (p := Pl.none) (padL_high (by simp) h) rfl ?_
  intro j q hj hq
  unfold rngL at hq
  rw [padL_low (by simpa using hj)] at hq
  rw [List.getElem?_map, List.getElem?_range hj] at hq
  simp at hq
  subst hq
  exact hf j
theorem rng_set (h : n < cap) : (rngL cap n f).set n (f n) = rngL cap (n + 1) f := by
  have h1 := padL_push (cap := cap) (ps := (List.range n).map f) (f n) (by simpa using h)
  simp only [List.length_map, List.length_range] at h1
  unfold rngL
  rw [← h1]
  congr 1
  rw [List.range_succ, List.map_append, List.set_append_right _ _ (by simp)]
  simp
theorem rng_at {k : Nat} (h : k < n) : (rngL cap n f).getD k Pl.none = f k := by
  unfold rngL
  rw [padL_getD]
  simp [List.getD, h]
theorem rng_zero : rngL cap 0 f = List.replicate cap Pl.none := by simp [rngL, padL]
/-- One more entry goes to the place n. -/
theorem rng_add (hf : ∀ j, (f j).value ≠ 0) (h : n < cap) {e : Ent} {d : Int} (he : f n = ⟨valS n d, e⟩) : addL (rngL cap n f) e d = rngL cap (n + 1) f ∧ addV (rngL cap n f) d = valS n d ∧ addS (rngL cap n f) = 0 := by
  unfold addL addV addS
  rw [rng_low hf h, rng_len (by omega), if_pos h, if_pos h, if_pos h, ← he, rng_set h]
  exact ⟨rfl, rfl, rfl⟩
theorem find_is {L : List Pl} {k : Nat} {d : Int} (hk : k < 65536) (h : (L.getD k Pl.none).value = valS k d) : findL L (valS k d) = some k := by
  unfold findL
  rw [place_valS k d hk, if_pos ⟨by omega, by rw [Int.toNat_natCast]; exact h⟩]
  simp
theorem find_not {L : List Pl} {k : Nat} {d : Int} (hk : k < 65536) (h : (L.getD k Pl.none).value ≠ valS k d) : findL L (valS k d) = none := by
  unfold findL
  rw [place_valS k d hk, if_neg (fun hh => h (by have := hh.2; rw [Int.toNat_natCast] at this; exact this))]
end
end Go.Proofs.Ytacdhlhkpdlekaa
