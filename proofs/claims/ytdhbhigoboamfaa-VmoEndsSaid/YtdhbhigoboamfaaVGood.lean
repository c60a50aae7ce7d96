/-
  Frames and who has them, as plain data: a frame has just as many users as pages have it; what stands in a page. No walk, no conditions.
-/
import Derived.Test.YtdhbhigoboamfaaVCommit2
import Derived.Test.YtdhbhigoboamfaaVRel
namespace Go.Proofs.Ytdhbhigoboamfaa
open Go.ChangeShapes Go.WideShapes Go.ChangeAt Go.RowKit

abbrev Key := Int × Int
def updK (A : Key → Option Int) (k : Key) (v : Option Int) : Key → Option Int := fun j => if j = k then v else A j
theorem updK_same (A : Key → Option Int) (k : Key) (v : Option Int) : updK A k v k = v := by simp [updK]
theorem updK_ne {A : Key → Option Int} {k j : Key} {v : Option Int} (h : j ≠ k) : updK A k v j = A j := by simp [updK, h]

theorem pg_set (L : List Pg) (n : Nat) (q : Pg) (g : Int) : pgAt (L.set n q) g = if g = (n : Int) ∧ n < L.length then q else pgAt L g := by
  unfold pgAt
  rw [List.length_set]
  by_cases hg : 0 ≤ g ∧ g < L.length
  · rw [if_pos hg, if_pos hg, List.getD_eq_getElem?_getD, List.getD_eq_getElem?_getD]
    by_cases e : g = (n : Int)
    · have e2 : g.toNat = n := by omega
      rw [if_pos ⟨e, by omega⟩, e2, List.getElem?_set_self (by omega)]
      rfl
    · rw [if_neg (fun h => e h.1), List.getElem?_set_ne (by omega)]
  · rw [if_neg hg, if_neg hg, if_neg (fun h => hg (by omega))]
theorem users_set (L : List Pg) (n : Nat) (q : Pg) (g : Int) : usersL (L.set n q) g = if g = (n : Int) ∧ n < L.length then q.users else usersL L g := by
  unfold usersL
  rw [pg_set]
  split <;> rfl
theorem low_free {L : List Pg} (h : lowOf L < L.length) : usersL L (lowOf L) = 0 := by
  unfold usersL
  rw [pgAt_nat, List.getD_eq_getElem?_getD, List.getElem?_eq_getElem h]
  have h2 : isFree (L[lowOf L]) = true := List.findIdx_getElem (w := h)
  show (L[lowOf L]).users = 0
  generalize L[lowOf L] = p at h2
  unfold isFree at h2
  simpa using h2
theorem users_range {L : List Pg} {f : Int} (h : usersL L f ≠ 0) : 0 ≤ f ∧ f.toNat < L.length ∧ f = ((f.toNat : Nat) : Int) := by
  unfold usersL pgAt at h
  split at h
  · omega
  · exact absurd rfl h

structure Good (L : List Pg) (A : Key → Option Int) : Prop where
  ex : ∀ f, ∃ ks : List Key, ks.Nodup ∧ (∀ k, k ∈ ks ↔ A k = some f) ∧ ks.length = usersL L f
theorem Good.start (n : Nat) : Good (List.replicate n Pg.none) (fun _ => none) := ⟨fun f => ⟨[], List.nodup_nil, fun k => by simp, by
  unfold usersL pgAt
  split
  · rw [List.getD_eq_getElem?_getD, List.getElem?_replicate]
    split <;> rfl
  · rfl⟩⟩
section
variable {L : List Pg} {A : Key → Option Int}
theorem Good.pos (h : Good L A) {k : Key} {f : Int} (hk : A k = some f) : usersL L f ≠ 0 := by
  obtain ⟨ks, _, h2, h3⟩ := h.ex f
  have := List.length_pos_of_mem ((h2 k).2 hk)
  omega
theorem Good.free (h : Good L A) {f : Int} (hf : usersL L f = 0) (k : Key) : A k ≠ some f := fun hk => h.pos hk hf
theorem Good.alone (h : Good L A) {k k' : Key} {f : Int} (hk : A k = some f) (h1 : usersL L f = 1) (hk' : A k' = some f) : k' = k := by
  obtain ⟨ks, _, h2, h3⟩ := h.ex f
  rw [h1] at h3
  obtain ⟨x, rfl⟩ := List.length_eq_one_iff.1 h3
  have a := (h2 k).2 hk
  have b := (h2 k').2 hk'
  simp at a b
  rw [a, b]
/-- One more key at a frame. -/
theorem Good.add (h : Good L A) {L' : List Pg} {k : Key} {f : Int} (hk : A k = none) (hf : usersL L' f = usersL L f + 1) (ho : ∀ g, g ≠ f → usersL L' g = usersL L g) : Good L' (updK A k (some f)) := by
  refine ⟨fun g => ?_⟩
  obtain ⟨ks, h1, h2, h3⟩ := h.ex g
  by_cases e : g = f
  · subst e
    refine ⟨k :: ks, List.nodup_cons.2 ⟨(fun hm => by rw [(h2 k).1 hm] at hk; cases hk), h1⟩, fun j => ?_, by rw [List.length_cons, h3, hf]⟩
    rw [List.mem_cons]
    by_cases ej : j = k
    · subst ej; simp [updK]
    · rw [updK_ne ej, h2 j]
      simp [ej]
  · refine ⟨ks, h1, fun j => ?_, by rw [h3, ho g e]⟩
    by_cases ej : j = k
    · subst ej
      rw [h2 j, hk, updK_same]
      simp
      omega
    · rw [updK_ne ej, h2 j]
/-- One key less at a frame. -/
theorem Good.sub (h : Good L A) {L' : List Pg} {k : Key} {f : Int} (hk : A k = some f) (hf : usersL L' f + 1 = usersL L f) (ho : ∀ g, g ≠ f → usersL L' g = usersL L g) : Good L' (updK A k none) := by
  refine ⟨fun g => ?_⟩
  obtain ⟨ks, h1, h2, h3⟩ := h.ex g
  by_cases e : g = f
  · subst e
    have hm := (h2 k).2 hk
    refine ⟨ks.erase k, h1.erase _, fun j => ?_, by rw [List.length_erase_of_mem hm, h3]; omega⟩
    rw [h1.mem_erase_iff, h2 j]
    by_cases ej : j = k
    · subst ej; simp [updK]
    · rw [updK_ne ej]
      simp [ej]
  · refine ⟨ks, h1, fun j => ?_, by rw [h3, ho g e]⟩
    by_cases ej : j = k
    · subst ej
      rw [h2 j, hk, updK_same]
      simp
      omega
    · rw [updK_ne ej, h2 j]
theorem Good.same (h : Good L A) {L' : List Pg} (ho : ∀ g, usersL L' g = usersL L g) : Good L' A := ⟨fun g => by
  obtain ⟨ks, h1, h2, h3⟩ := h.ex g
  exact ⟨ks, h1, h2, by rw [h3, ho g]⟩⟩
theorem Good.congr (h : Good L A) {B : Key → Option Int} (e : ∀ k, B k = A k) : Good L B := by
  have : B = A := funext e
  rw [this]; exact h

theorem alloc_users (hl : lowOf L < L.length) (g : Int) : usersL (allocL L) g = if g = (lowOf L : Int) then 1 else usersL L g := by
  unfold allocL
  rw [if_pos hl, users_set]
  by_cases e : g = (lowOf L : Int)
  · rw [if_pos ⟨e, hl⟩, if_pos e]
  · rw [if_neg (fun h => e h.1), if_neg e]
theorem alloc_bytes (hl : lowOf L < L.length) (g : Int) : (pgAt (allocL L) g).bytes = if g = (lowOf L : Int) then blank else (pgAt L g).bytes := by
  unfold allocL
  rw [if_pos hl, pg_set]
  by_cases e : g = (lowOf L : Int)
  · rw [if_pos ⟨e, hl⟩, if_pos e]
  · rw [if_neg (fun h => e h.1), if_neg e]
theorem alloc_val (hl : lowOf L < L.length) : allocV L = (lowOf L : Int) := by unfold allocV; rw [if_pos hl]
theorem Good.alloc (h : Good L A) {k : Key} (hk : A k = none) (hl : lowOf L < L.length) : Good (allocL L) (updK A k (some (allocV L))) := by
  rw [alloc_val hl]
  exact h.add hk (by rw [alloc_users hl, if_pos rfl, low_free hl]) (fun g hg => by rw [alloc_users hl, if_neg hg])
theorem own_users {f : Int} (hu : 1 < usersL L f) (hl : lowOf L < L.length) (g : Int) : usersL (ownL L f) g = if g = f then usersL L f - 1 else if g = (lowOf L : Int) then 1 else usersL L g := by
  obtain ⟨r1, r2, r3⟩ := users_range (show usersL L f ≠ 0 by omega)
  unfold ownL
  rw [if_neg (by omega), if_pos hl, users_set, users_set, List.length_set]
  by_cases e : g = f
  · rw [if_pos ⟨by omega, r2⟩, if_pos e]
  · rw [if_neg (fun h => e (by omega)), if_neg e]
    by_cases e2 : g = (lowOf L : Int)
    · rw [if_pos ⟨e2, hl⟩, if_pos e2]
    · rw [if_neg (fun h => e2 h.1), if_neg e2]
theorem own_bytes {f : Int} (hu : 1 < usersL L f) (hl : lowOf L < L.length) (g : Int) : (pgAt (ownL L f) g).bytes = if g = (lowOf L : Int) then (pgAt L f).bytes else (pgAt L g).bytes := by
  obtain ⟨r1, r2, r3⟩ := users_range (show usersL L f ≠ 0 by omega)
  have hne : f ≠ (lowOf L : Int) := fun e => by have := low_free hl; rw [← e] at this; omega
  unfold ownL
  rw [if_neg (by omega), if_pos hl, pg_set, pg_set, List.length_set]
  by_cases e : g = f
  · rw [if_pos ⟨by omega, r2⟩, e, if_neg hne]
  · rw [if_neg (fun h => e (by omega))]
    by_cases e2 : g = (lowOf L : Int)
    · rw [if_pos ⟨e2, hl⟩, if_pos e2]
    · rw [if_neg (fun h => e2 h.1), if_neg e2]
theorem own_val {f : Int} (hu : 1 < usersL L f) (hl : lowOf L < L.length) : ownV L f = (lowOf L : Int) := by
  unfold ownV
  rw [if_neg (by omega), if_neg (by omega), alloc_val hl]
theorem own_one {f : Int} (hu : usersL L f = 1) : ownV L f = f ∧ ownL L f = L := by
  unfold ownV ownL
  rw [if_neg (by omega), if_pos hu, if_pos (by omega)]
  exact ⟨rfl, rfl⟩
theorem Good.own (h : Good L A) {k : Key} {f : Int} (hk : A k = some f) (hu : 1 < usersL L f) (hl : lowOf L < L.length) : Good (ownL L f) (updK A k (some (ownV L f))) := by
  have hne : f ≠ (lowOf L : Int) := fun e => by have := low_free hl; rw [← e] at this; omega
  rw [own_val hu hl]
  -- first the key is taken off the frame, then put at the free one
  have h1 : Good (L.set f.toNat ⟨usersL L f - 1, (pgAt L f).bytes⟩) (updK A k none) := by
    obtain ⟨r1, r2, r3⟩ := users_range (show usersL L f ≠ 0 by omega)
    refine h.sub hk ?_ (fun g hg => ?_)
    · rw [users_set, if_pos ⟨r3, r2⟩]
      show usersL L f - 1 + 1 = _
      omega
    · rw [users_set, if_neg (fun h => hg (by omega))]
  have h2 := h1.add (L' := ownL L f) (k := k) (f := (lowOf L : Int)) (updK_same _ _ _) (by
    rw [own_users hu hl, if_neg (fun e => hne e.symm), if_pos rfl, users_set]
    obtain ⟨r1, r2, r3⟩ := users_range (show usersL L f ≠ 0 by omega)
    rw [if_neg (fun h => hne (by omega)), low_free hl]) (fun g hg => by
    obtain ⟨r1, r2, r3⟩ := users_range (show usersL L f ≠ 0 by omega)
    rw [own_users hu hl, users_set]
    by_cases e : g = f
    · rw [if_pos e, if_pos ⟨by omega, r2⟩]
    · rw [if_neg e, if_neg hg, if_neg (fun h => e (by omega))])
  refine h2.congr (fun j => ?_)
  unfold updK
  split <;> rfl
theorem rel_users {f : Int} (hu : usersL L f ≠ 0) (g : Int) : usersL (relL L f) g = if g = f then usersL L f - 1 else usersL L g := by
  obtain ⟨r1, r2, r3⟩ := users_range hu
  unfold relL
  rw [if_neg hu]
  by_cases h1 : usersL L f = 1
  · rw [if_pos h1, users_set]
    by_cases e : g = f
    · rw [if_pos ⟨by omega, r2⟩, if_pos e, h1]; rfl
    · rw [if_neg (fun h => e (by omega)), if_neg e]
  · rw [if_neg h1, users_set]
    by_cases e : g = f
    · rw [if_pos ⟨by omega, r2⟩, if_pos e]
    · rw [if_neg (fun h => e (by omega)), if_neg e]
theorem rel_bytes {f : Int} {g : Int} (hg : g ≠ f ∨ 1 < usersL L f) : (pgAt (relL L f) g).bytes = (pgAt L g).bytes := by
  unfold relL
  by_cases hu : usersL L f = 0
  · rw [if_pos hu]
  obtain ⟨r1, r2, r3⟩ := users_range hu
  rw [if_neg hu]
  by_cases h1 : usersL L f = 1
  · rw [if_pos h1, pg_set, if_neg]
    rintro ⟨e, _⟩
    rcases hg with h | h
    · exact h (by omega)
    · omega
  · rw [if_neg h1, pg_set]
    by_cases e : g = f
    · rw [if_pos ⟨by omega, r2⟩, e]
    · rw [if_neg (fun h => e (by omega))]
theorem Good.rel (h : Good L A) {k : Key} {f : Int} (hk : A k = some f) : Good (relL L f) (updK A k none) := by
  have hu := h.pos hk
  exact h.sub hk (by rw [rel_users hu, if_pos rfl]; omega) (fun g hg => by rw [rel_users hu, if_neg hg])
theorem share_users {f : Int} (hu : usersL L f ≠ 0) (g : Int) : usersL (shareL L f) g = if g = f then usersL L f + 1 else usersL L g := by
  obtain ⟨r1, r2, r3⟩ := users_range hu
  unfold shareL
  rw [if_neg hu, users_set]
  by_cases e : g = f
  · rw [if_pos ⟨by omega, r2⟩, if_pos e]
  · rw [if_neg (fun h => e (by omega)), if_neg e]
theorem share_bytes (f g : Int) : (pgAt (shareL L f) g).bytes = (pgAt L g).bytes := by
  unfold shareL
  by_cases hu : usersL L f = 0
  · rw [if_pos hu]
  obtain ⟨r1, r2, r3⟩ := users_range hu
  rw [if_neg hu, pg_set]
  by_cases e : g = f
  · rw [if_pos ⟨by omega, r2⟩, e]
  · rw [if_neg (fun h => e (by omega))]
theorem Good.share (h : Good L A) {k k' : Key} {f : Int} (hk : A k = some f) (hk' : A k' = none) : Good (shareL L f) (updK A k' (some f)) := by
  have hu := h.pos hk
  exact h.add hk' (by rw [share_users hu, if_pos rfl]) (fun g hg => by rw [share_users hu, if_neg hg])
theorem write_users (f b : Int) (bs : List UInt8) (g : Int) : usersL (writeL L f b bs) g = usersL L g := by
  unfold writeL
  split
  · rename_i hs
    have hu : usersL L f ≠ 0 := fun e => by
      unfold writeS withinS at hs
      rw [if_pos e] at hs
      simp at hs
    obtain ⟨r1, r2, r3⟩ := users_range hu
    rw [users_set]
    by_cases e : g = f
    · rw [if_pos ⟨by omega, r2⟩, e]
    · rw [if_neg (fun h => e (by omega))]
  · rfl
theorem write_bytes {f : Int} {b : Nat} {bs : List UInt8} (hu : usersL L f = 1) (hb : b + bs.length ≤ 64) (g : Int) : (pgAt (writeL L f b bs) g).bytes = if g = f then putB (pgAt L f).bytes b bs else (pgAt L g).bytes := by
  obtain ⟨r1, r2, r3⟩ := users_range (show usersL L f ≠ 0 by omega)
  have hs : writeS L f b bs.length = 0 := by
    unfold writeS withinS
    rw [hu]
    have : inB (b : Int) bs.length = true := by unfold inB; exact decide_eq_true (by omega)
    rw [this]
    rfl
  unfold writeL
  rw [if_pos hs, pg_set]
  by_cases e : g = f
  · rw [if_pos ⟨by omega, r2⟩, if_pos e, Int.toNat_natCast]
  · rw [if_neg (fun h => e (by omega)), if_neg e]
end
/-- What stands in a page. -/
def cont (L : List Pg) (x : Option Int) : List UInt8 := match x with | none => blank | some f => (pgAt L f).bytes
theorem cont_some (L : List Pg) (f : Int) : cont L (some f) = (pgAt L f).bytes := rfl
theorem cont_none (L : List Pg) : cont L none = blank := rfl
end Go.Proofs.Ytdhbhigoboamfaa
