/-
  The arena as ArenaLast uses it: so many slots taken, some freed, these taken again from the last one on. No walk, no conditions.
-/
import Derived.Test.YtfpmbbplgdkogaaModelOK
namespace Go.Proofs.Ytfpmbbplgdkogaa
open Go.RowKit

/-- An arena of N slots, slot k being f k. -/
def rngM (C N : Nat) (f : Nat → Slot) (fr : List Nat) : Mod := ⟨C, (List.range N).map f, fr⟩

theorem rng_set {α : Type} (N k : Nat) (f : Nat → α) (s : α) : ((List.range N).map f).set k s = (List.range N).map (fun j => if j = k then s else f j) := by
  apply List.ext_getElem?
  intro i
  rw [List.getElem?_set]
  simp only [List.length_map, List.length_range, List.getElem?_map]
  by_cases hi : i < N
  · rw [List.getElem?_range hi]
    by_cases hk : k = i
    · subst hk; simp [hi]
    · have : ¬ i = k := fun e => hk e.symm
      simp [hk, this]
  · have h1 : (List.range N)[i]? = none := by simp; omega
    rw [h1]
    by_cases hk : k = i
    · subst hk; simp [hi]
    · simp [hk]

theorem rng_ext (C N : Nat) (f g : Nat → Slot) (fr : List Nat) (h : ∀ k, k < N → f k = g k) : rngM C N f fr = rngM C N g fr := by
  unfold rngM
  congr 1
  exact List.map_congr_left (fun k hk => h k (List.mem_range.1 hk))

theorem rng_at (C N : Nat) (f : Nat → Slot) (fr : List Nat) (k : Nat) (h : k < N) : (rngM C N f fr).slots[k]? = some (f k) := by
  simp [rngM, h]

theorem rng_push (C N : Nat) (f : Nat → Slot) (v : Value) (h : N < C) (hf : f N = ⟨1, true, v⟩) : (rngM C N f []).alloc (.int .i64 0) v = some ((65536 : Int) + N, rngM C (N + 1) f []) := by
  have h1 : ¬ N = C := by omega
  simp [rngM, Mod.alloc, Mod.take, Mod.genAt, Mod.put, h1, List.range_succ, hf]

theorem rng_pop (C N : Nat) (f : Nat → Slot) (init : List Nat) (k : Nat) (v : Value) (h : k < N) :
    (rngM C N f (init ++ [k])).alloc (.int .i64 0) v = some ((((f k).gen : Int) + 1) * 65536 + k, rngM C N (fun j => if j = k then ⟨(f k).gen + 1, true, v⟩ else f j) init) := by
  simp [rngM, Mod.alloc, Mod.take, Mod.genAt, Mod.put, h, rng_set]

theorem rng_find (C N : Nat) (f : Nat → Slot) (fr : List Nat) (k : Nat) (h : k < N) (h' : N ≤ 65536) (hg : (f k).gen = 1) (ht : (f k).taken = true) : (rngM C N f fr).find ((65536 : Int) + k) = some k := by
  have := Mod.find_at (m := rngM C N f fr) (rng_at C N f fr k h) ht (by omega)
  rw [hg] at this
  have e : (65536 : Int) + k = ((1 : Nat) : Int) * 65536 + k := by omega
  rw [e]
  exact this

theorem rng_gone (C N : Nat) (f : Nat → Slot) (fr : List Nat) (k : Nat) (h : k < N) (h' : N ≤ 65536) (ht : (f k).taken = false) : (rngM C N f fr).find ((65536 : Int) + k) = none := by
  have h1 : ((65536 : Int) + k) % 65536 = k := by omega
  have h3 : (0 : Int) ≤ (65536 : Int) + k := by omega
  unfold Mod.find
  rw [if_pos h3, h1]
  simp [rngM, h, ht]

theorem rng_free (C N : Nat) (f : Nat → Slot) (fr : List Nat) (k : Nat) (h : k < N) (hg : (f k).gen = 1) :
    (rngM C N f fr).free (.int .i64 0) k = rngM C N (fun j => if j = k then ⟨1, false, .int .i64 0⟩ else f j) (fr ++ [k]) := by
  simp [rngM, Mod.free, Mod.genAt, h, hg, rng_set]

theorem rng_count (C N : Nat) (f : Nat → Slot) (fr : List Nat) (h : ∀ k, k < N → (f k).taken = true) : (rngM C N f fr).count = N := by
  have : ((List.range N).map f).countP (·.taken) = ((List.range N).map f).length := by
    rw [List.countP_eq_length]
    intro s hs
    obtain ⟨k, hk, rfl⟩ := List.mem_map.1 hs
    exact h k (List.mem_range.1 hk)
  simpa [rngM, Mod.count] using this

/-- Slot k behind the second loop, fr being the slots that were freed; and in the third, all but the first i of these being taken again. -/
def lastF (fr : List Nat) (i : Nat) (k : Nat) : Slot := if k ∈ fr.take i then ⟨1, false, .int .i64 0⟩ else if k ∈ fr then ⟨2, true, .int .i64 7⟩ else ⟨1, true, .int .i64 k⟩

theorem lastF_free (fr : List Nat) (k j : Nat) : (if j = k then ⟨1, false, .int .i64 0⟩ else lastF fr fr.length j : Slot) = lastF (fr ++ [k]) (fr ++ [k]).length j := by
  unfold lastF
  rw [List.take_length, List.take_length]
  by_cases hj : j = k
  · simp [hj]
  · by_cases hm : j ∈ fr <;> simp [hj, hm]

theorem lastF_pop (fr : List Nat) (i k j : Nat) (hn : fr.Nodup) (hk : fr[i]? = some k) : (if j = k then ⟨(lastF fr (i + 1) k).gen + 1, true, .int .i64 7⟩ else lastF fr (i + 1) j : Slot) = lastF fr i j := by
  have ht : fr.take (i + 1) = fr.take i ++ [k] := by rw [List.take_add_one, hk]; rfl
  have hmem : k ∈ fr := List.mem_of_getElem? hk
  have hnot : k ∉ fr.take i := by
    intro hm
    have h1 : (fr.take (i + 1)).Nodup := hn.sublist (List.take_sublist _ _)
    rw [ht, List.nodup_append] at h1
    exact h1.2.2 k hm k (by simp) rfl
  unfold lastF
  rw [ht]
  by_cases hj : j = k
  · subst hj
    simp [hnot, hmem]
  · by_cases hm : j ∈ fr.take i <;> simp [hj, hm]

theorem lastF_gen (fr : List Nat) (k : Nat) : (lastF fr fr.length k).gen = 1 := by
  unfold lastF
  rw [List.take_length]
  by_cases hm : k ∈ fr <;> simp [hm]
theorem lastF_taken (fr : List Nat) (k : Nat) : (lastF fr fr.length k).taken = !decide (k ∈ fr) := by
  unfold lastF
  rw [List.take_length]
  by_cases hm : k ∈ fr <;> simp [hm]
theorem lastF_gen2 (fr : List Nat) (i k : Nat) (hk : fr[i]? = some k) : (lastF fr (i + 1) k).gen = 1 := by
  have ht : fr.take (i + 1) = fr.take i ++ [k] := by rw [List.take_add_one, hk]; rfl
  unfold lastF
  rw [ht]
  simp

/-- The ids that Alloc tells first. -/
def firstIds (l : List Nat) : List Int := l.map (fun (k : Nat) => (65536 : Int) + (k : Int))
theorem firstIds_len (l : List Nat) : (firstIds l).length = l.length := by simp [firstIds]
theorem firstIds_push (l : List Nat) (k : Nat) : firstIds (l ++ [k]) = firstIds l ++ [(65536 : Int) + k] := by simp [firstIds]
theorem firstIds_at (l : List Nat) (j k : Nat) (h : l[j]? = some k) : (firstIds l).getD j 0 = 65536 + k := by simp [firstIds, List.getD, h]

end Go.Proofs.Ytfpmbbplgdkogaa
