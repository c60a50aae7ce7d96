/-
  What Duplicate and Replace keep of a table whose entries are all of one object, as plain data. No walk, no conditions.
-/
import Derived.Test.YtacdhlhkpdlekaaHDup
import Derived.Test.YtacdhlhkpdlekaaHVals
import Derived.Test.YtacdhlhkpdlekaaHRange
namespace Go.Proofs.Ytacdhlhkpdlekaa
open Go.RowKit

theorem TableAt.vals {w : World} {a : Nat} {F : Nat → Prop} {L : List Pl} (h : TableAt w a F L) {k : Nat} {p : Pl} (hk : L[k]? = some p) : p = Pl.none ∨ ∃ d : Int, p.value = valS k d := by
  obtain ⟨vs, vf, cap, ps, fr, h1, h2, rfl, rfl⟩ := h
  by_cases hlt : k < ps.length
  · rw [padL_low hlt] at hk
    exact h2.vals k p hk
  · have hc : k < cap := by
      have := (List.getElem?_eq_some_iff.1 hk).1
      rw [padL_len h2.len] at this
      exact this
    rw [padL_high (by omega) hc] at hk
    simp at hk
    exact .inl hk.symm
theorem getD_of {L : List Pl} {k : Nat} {p : Pl} (h : L[k]? = some p) : L.getD k Pl.none = p := by simp [List.getD, h]
/-- A value that is told is found, at its place. -/
theorem told_found {w : World} {a : Nat} {F : Nat → Prop} {L : List Pl} (h : TableAt w a F L) {p : Pl} (hp : p ∈ takenL L) : ∃ k, L[k]? = some p ∧ k < 65536 ∧ findL L p.value = some k ∧ getE L p.value = p.e ∧ getS L p.value = 0 ∧ fit p.value ∧ 3 ≤ p.value := by
  unfold takenL at hp
  rw [List.mem_filter] at hp
  obtain ⟨k, hk⟩ := List.getElem?_of_mem hp.1
  have hlt : k < 65536 := by
    have := (List.getElem?_eq_some_iff.1 hk).1
    have := h.len
    omega
  rcases h.vals hk with rfl | ⟨d, hd⟩
  · have := hp.2; simp [isTaken, Pl.none] at this
  · have hf : findL L p.value = some k := by rw [hd]; exact find_is hlt (by rw [getD_of hk]; exact hd)
    refine ⟨k, hk, hlt, hf, ?_, ?_, ?_, ?_⟩
    · unfold getE entL; rw [hf]; simp only; rw [getD_of hk]
    · unfold getS; rw [hf]
    · rw [hd]; exact valS_fit k d hlt
    · rw [hd]; exact valS_pos k d

theorem hasB_refl (a : Int) (ha : fit a) : hasB a a = true := (hasB_iff a a ha).2 fun _ _ h => h
theorem hasB_trans {a b c : Int} (hb : fit b) (hc : fit c) (h1 : hasB a b = true) (h2 : hasB b c = true) : hasB a c = true :=
  (hasB_iff a c hc).2 fun i hi h => (hasB_iff a b hb).1 h1 i hi ((hasB_iff b c hc).1 h2 i hi h)
theorem red_has {a b : Int} (ha : fit a) (h : redS a b = 0) : hasB a (redV a b) = true := by
  unfold redS at h
  unfold redV
  split at h
  · rename_i h0; rw [if_pos h0]; exact hasB_refl a ha
  · rename_i h0
    rw [if_neg h0]
    split at h
    · rename_i h1; rw [if_pos h1]; exact h1.2
    · simp at h
theorem red_fit {a b : Int} (ha : fit a) (hb : fit b) : fit (redV a b) := by
  unfold redV
  split
  · exact ha
  · split
    · exact hb
    · unfold fit; omega

def EntOK (first : Int) (e : Ent) : Prop := e.o = 1 ∧ e.k = 7 ∧ fit e.r ∧ hasB first e.r = true
def InvR (first : Int) (L : List Pl) : Prop := ∀ (k : Nat) (p : Pl), L[k]? = some p → p = Pl.none ∨ EntOK first p.e
theorem InvR.set {first : Int} {L : List Pl} (h : InvR first L) (k : Nat) (q : Pl) (hq : q = Pl.none ∨ EntOK first q.e) : InvR first (L.set k q) := by
  intro j p hj
  by_cases e : k = j
  · subst e
    rw [List.getElem?_set] at hj
    simp at hj
    rw [← hj.2]; exact hq
  · rw [List.getElem?_set_ne e] at hj
    exact h j p hj
theorem InvR.add {first : Int} {L : List Pl} (h : InvR first L) {e : Ent} (d : Int) (he : EntOK first e) : InvR first (addL L e d) := by
  unfold addL
  split
  · exact h.set _ _ (.inr he)
  · exact h
theorem InvR.close {first : Int} {L : List Pl} (h : InvR first L) (v : Int) : InvR first (closeL L v) := by
  unfold closeL
  split
  · exact h.set _ _ (.inl rfl)
  · exact h
theorem addL_len (L : List Pl) (e : Ent) (d : Int) : (addL L e d).length = L.length := by
  unfold addL
  split
  · simp
  · rfl
theorem closeL_len (L : List Pl) (v : Int) : (closeL L v).length = L.length := by
  unfold closeL
  split
  · simp
  · rfl
/-- What was added is found. -/
theorem added_found {L : List Pl} {e : Ent} {d : Int} (hl : L.length ≤ 65536) (h : addS L = 0) : getE (addL L e d) (addV L d) = e ∧ getS (addL L e d) (addV L d) = 0 ∧ fit (addV L d) := by
  unfold addS at h
  split at h
  · rename_i hlt
    unfold addL addV
    rw [if_pos hlt, if_pos hlt]
    have hg : (L.set (lowOf L) ⟨valS (lowOf L) d, e⟩).getD (lowOf L) Pl.none = ⟨valS (lowOf L) d, e⟩ := by
      simp only [List.getD, List.getElem?_set_self hlt, Option.getD_some]
    have hf := find_is (L := L.set (lowOf L) ⟨valS (lowOf L) d, e⟩) (k := lowOf L) (d := d) (by omega) (by rw [hg])
    refine ⟨?_, ?_, valS_fit _ _ (by omega)⟩
    · unfold getE entL; rw [hf]; simp only; rw [hg]
    · unfold getS; rw [hf]
  · simp at h

/-- What the law asks of a value that was made. -/
structure Made (first was : Int) (L' : List Pl) (V s : Int) : Prop where
  inv : InvR first L'
  good : s = 0 → ∃ R, getE L' V = ⟨1, 7, R⟩ ∧ getS L' V = 0 ∧ fit V ∧ hasB was R = true ∧ hasB first R = true
theorem dup_made {w : World} {a : Nat} {F : Nat → Prop} {first : Int} {L : List Pl} (h : TableAt w a F L) (hi : InvR first L) {p : Pl} (hp : p ∈ takenL L) (want d : Int) (hw : fit want) :
    Made first p.e.r (dupL L p.value want d) (dupV L p.value want d) (dupS L p.value want) ∧ (dupS L p.value want = 0 → hasB p.e.r 1 = true) := by
  obtain ⟨k, hk, hlt, hf, hE, hS, -, h3⟩ := told_found h hp
  have hl := h.len
  have he : EntOK first p.e := by
    rcases hi k p hk with rfl | he
    · simp [Pl.none] at h3
    · exact he
  obtain ⟨e1, e2, e3, e4⟩ := he
  have hent : EntOK first (dupE L p.value want) ∨ redS p.e.r want ≠ 0 := by
    by_cases hr : redS p.e.r want = 0
    · left
      unfold dupE
      rw [hE]
      exact ⟨e1, e2, red_fit e3 hw, hasB_trans e3 (red_fit e3 hw) e4 (red_has e3 hr)⟩
    · exact .inr hr
  have hlook : lookS L p.value 0 1 = 0 → hasB p.e.r 1 = true := by
    intro h0
    unfold lookS at h0
    rw [hf] at h0
    simp only [ne_eq, not_true_eq_false, false_and, if_false] at h0
    have : entL L k = p.e := by unfold entL; rw [getD_of hk]
    rw [this] at h0
    split at h0
    · rename_i hh; exact hh
    · simp at h0
  have hA0 : dupA L p.value want = 0 → lookS L p.value 0 1 = 0 ∧ redS p.e.r want = 0 := by
    intro h0
    unfold dupA at h0
    split at h0
    · rename_i h1; exact absurd h0 h1
    · rename_i h1
      rw [hE] at h0
      exact ⟨by simpa using h1, h0⟩
  refine ⟨⟨?_, fun hs => ?_⟩, fun hs => ?_⟩
  · unfold dupL
    split
    · exact hi
    · rename_i h1
      have h1' : dupA L p.value want = 0 := by simpa using h1
      rcases hent with h2 | h2
      · exact hi.add d h2
      · exact absurd (hA0 h1').2 h2
  · unfold dupS at hs
    split at hs
    · rename_i h1; exact absurd hs h1
    · rename_i h1
      have h1' : dupA L p.value want = 0 := by simpa using h1
      obtain ⟨g1, g2⟩ := hA0 h1'
      unfold dupL dupV
      rw [if_neg h1, if_neg h1]
      obtain ⟨x1, x2, x3⟩ := added_found (e := dupE L p.value want) (d := d) hl hs
      refine ⟨redV p.e.r want, ?_, x2, x3, red_has e3 g2, ?_⟩
      · rw [x1]; unfold dupE; rw [hE, e1, e2]
      · exact hasB_trans e3 (red_fit e3 hw) e4 (red_has e3 g2)
  · unfold dupS at hs
    split at hs
    · rename_i h1; exact absurd hs h1
    · rename_i h1
      have h1' : dupA L p.value want = 0 := by simpa using h1
      exact hlook (hA0 h1').1
theorem rep_made {w : World} {a : Nat} {F : Nat → Prop} {first : Int} {L : List Pl} (h : TableAt w a F L) (hi : InvR first L) {p : Pl} (hp : p ∈ takenL L) (want d : Int) (hw : fit want) :
    Made first p.e.r (repL L p.value want d) (repV L p.value want d) (repS L p.value want) := by
  obtain ⟨k, hk, hlt, hf, hE, hS, -, h3⟩ := told_found h hp
  have hl := h.len
  have he : EntOK first p.e := by
    rcases hi k p hk with rfl | he
    · simp [Pl.none] at h3
    · exact he
  obtain ⟨e1, e2, e3, e4⟩ := he
  by_cases hr : redS p.e.r want = 0
  · have hent : EntOK first (dupE L p.value want) := by
      unfold dupE
      rw [hE]
      exact ⟨e1, e2, red_fit e3 hw, hasB_trans e3 (red_fit e3 hw) e4 (red_has e3 hr)⟩
    unfold repL repV repS
    rw [hE, if_pos ⟨hS, hr⟩, if_pos ⟨hS, hr⟩, if_neg (by simp [hS]), if_neg (by simp [hr])]
    refine ⟨(hi.close _).add d hent, fun hs => ?_⟩
    obtain ⟨x1, x2, x3⟩ := added_found (e := dupE L p.value want) (d := d) (by rw [closeL_len]; exact hl) hs
    refine ⟨redV p.e.r want, ?_, x2, x3, red_has e3 hr, hent.2.2.2 |> fun _ => hasB_trans e3 (red_fit e3 hw) e4 (red_has e3 hr)⟩
    rw [x1]; unfold dupE; rw [hE, e1, e2]
  · unfold repL repS
    rw [hE, if_neg (fun hh => hr hh.2), if_neg (by simp [hS]), if_pos hr]
    exact ⟨hi.close _, fun hs => absurd hs hr⟩
end Go.Proofs.Ytacdhlhkpdlekaa
