/-
  The calls of PagesRoom, each about the frames that are used so far: the first ones, with as many users as a list says. No conditions but that the pool is one that calls can make.
-/
import Derived.Test.YtdhbhigoboamfaaPNums
import Derived.Test.YtdhbhigoboamfaaPRel
import Derived.Test.YtdhbhigoboamfaaPAwake
import Derived.Test.YtdhbhigoboamfaaLawOver
import Derived.Test.YtdhbhigoboamfaaLawShared
namespace Go.Proofs.Ytdhbhigoboamfaa
open Go.ChangeShapes Go.WideShapes Go.ChangeAt Go.RowKit

/-- The pool behind some calls, its frames' users as the list says. -/
structure Rm (w wr : World) (a n : Nat) (us : List Nat) : Prop where
  ex : ∃ F L, OSt w wr a F L ∧ Ro n us L
  few : ∀ u ∈ us, u ≤ 6
  top : us.length ≤ n

theorem Rm.past {w wr w' : World} {a n : Nat} {us : List Nat} (h : Rm w wr a n us) (t : Turn NoBlock wr w') : Rm w w' a n us := by
  obtain ⟨F, L, h1, h2⟩ := h.ex
  exact ⟨⟨F, L, h1.past t, h2⟩, h.few, h.top⟩
theorem Rm.turn {w wr : World} {a n : Nat} {us : List Nat} (h : Rm w wr a n us) : Turn NoBlock w wr := by
  obtain ⟨F, L, h1, h2⟩ := h.ex
  exact h1.turn

theorem ro_alloc {w wr : World} {a n : Nat} {us : List Nat} (h : Rm w wr a n us) (hu : ∀ u ∈ us, u ≠ 0) (hl : us.length < n) :
    Calls Try.prog 32 #[.pointer (some ⟨a, 0, none⟩)] wr fun x w' => x = .returned (.tuple #[.int .i64 us.length, .int .i64 0]) ∧ Rm w w' a n (us ++ [1]) := by
  obtain ⟨F, L, h1, h2⟩ := h.ex
  refine (alloc_any h1.pool).mono ?_
  have hlow := h2.low hu h.top
  have hlen := h2.len
  rintro x w' ⟨rfl, F', p, t, s⟩
  refine ⟨?_, ⟨F', _, h1.step p t s, ?_⟩, fun u hm => ?_, ?_⟩
  · unfold allocV allocS
    rw [hlow, if_pos (by omega), if_pos (by omega)]
  · unfold allocL
    rw [hlow, if_pos (by omega)]
    exact h2.push hl 1 blank (by decide)
  · rcases List.mem_append.1 hm with hm | hm
    · exact h.few u hm
    · simp at hm; omega
  · simp; omega
theorem ro_full {w wr : World} {a n : Nat} {us : List Nat} (h : Rm w wr a n us) (hu : ∀ u ∈ us, u ≠ 0) (hl : us.length = n) :
    Calls Try.prog 32 #[.pointer (some ⟨a, 0, none⟩)] wr fun x w' => x = .returned (.tuple #[.int .i64 0, .int .i64 (-4)]) ∧ Rm w w' a n us := by
  obtain ⟨F, L, h1, h2⟩ := h.ex
  refine (alloc_any h1.pool).mono ?_
  have hlow := h2.low hu h.top
  have hlen := h2.len
  rintro x w' ⟨rfl, F', p, t, s⟩
  refine ⟨?_, ⟨F', _, h1.step p t s, ?_⟩, h.few, h.top⟩
  · unfold allocV allocS
    rw [hlow, if_neg (by omega), if_neg (by omega)]
  · unfold allocL
    rw [hlow, if_neg (by omega)]
    exact h2
theorem usersL_nat {L : List Pg} {k : Nat} {p : Pg} (h : L[k]? = some p) : usersL L k = p.users ∧ pgAt L k = p := by
  have e : pgAt L k = p := by rw [pgAt_nat, List.getD_eq_getElem?_getD, h]; rfl
  exact ⟨by unfold usersL; rw [e], e⟩
theorem ro_write {w wr : World} {a n : Nat} {us : List Nat} (h : Rm w wr a n us) (k : Nat) (hk : us[k]? = some 1) (v : Value) (x : UInt8) (hv : Src wr v [x]) :
    Calls Try.prog 41 #[.pointer (some ⟨a, 0, none⟩), .int .i64 k, .int .i64 0, v] wr fun e w' => e = .returned (.int .i64 0) ∧ Rm w w' a n us := by
  obtain ⟨F, L, h1, h2⟩ := h.ex
  refine (write_any h1.pool k 0 v [x] hv).mono ?_
  obtain ⟨p, hp, hpu, -⟩ := h2.own k 1 hk
  have hkl := (List.getElem?_eq_some_iff.1 hk).1
  have htop := h.top
  obtain ⟨hu, hg⟩ := usersL_nat hp
  have hw : writeS L k 0 ([x] : List UInt8).length = 0 := by
    unfold writeS withinS
    rw [hu, hpu]
    rfl
  rintro e w' ⟨rfl, p', t⟩
  refine ⟨by rw [hw], ⟨F, _, h1.same p' t, ?_⟩, h.few, h.top⟩
  unfold writeL
  rw [if_pos hw, hu, hpu, Int.toNat_natCast]
  have := h2.set k ⟨1, putB (pgAt L k).bytes (0 : Int).toNat [x]⟩ hkl (by omega) (by intro h; simp at h)
  rwa [show us.set k (⟨1, putB (pgAt L k).bytes (0 : Int).toNat [x]⟩ : Pg).users = us from by
    show us.set k 1 = us
    apply List.ext_getElem?
    intro j
    by_cases e : k = j
    · subst e; rw [List.getElem?_set_self hkl, hk]
    · rw [List.getElem?_set_ne e]] at this
theorem ro_share {w wr : World} {a n : Nat} {us : List Nat} (h : Rm w wr a n us) (k u : Nat) (hk : us[k]? = some u) (h0 : 0 < u) (h6 : u < 6) :
    Calls Try.prog 35 #[.pointer (some ⟨a, 0, none⟩), .int .i64 k] wr fun e w' => e = .returned (.int .i64 0) ∧ Rm w w' a n (us.set k (u + 1)) := by
  obtain ⟨F, L, h1, h2⟩ := h.ex
  have hu := h2.users k u hk
  have hkl := (List.getElem?_eq_some_iff.1 hk).1
  have htop := h.top
  refine (share_any h1.pool k (by omega)).mono ?_
  rintro e w' ⟨rfl, p', t⟩
  refine ⟨?_, ⟨F, _, h1.same p' t, ?_⟩, fun v hm => ?_, by simpa using h.top⟩
  · unfold shareS
    rw [if_neg (by omega)]
  · unfold shareL
    rw [if_neg (by omega), hu, Int.toNat_natCast]
    exact h2.set k ⟨u + 1, (pgAt L k).bytes⟩ hkl (by omega) (by intro h; simp at h)
  · rcases List.mem_or_eq_of_mem_set hm with hm | hm
    · exact h.few v hm
    · omega
theorem ro_users {w wr : World} {a n : Nat} {us : List Nat} (h : Rm w wr a n us) (k u : Nat) (hk : us[k]? = some u) :
    Calls Try.prog 43 #[.pointer (some ⟨a, 0, none⟩), .int .i64 k] wr fun e w' => e = .returned (.int .i64 u) ∧ wr = w' := by
  obtain ⟨F, L, h1, h2⟩ := h.ex
  have c := users_any h1.pool k
  rwa [h2.users k u hk] at c
theorem ro_rel {w wr : World} {a n : Nat} {us : List Nat} (h : Rm w wr a n us) (k u : Nat) (hk : us[k]? = some (u + 1)) :
    Calls Try.prog 36 #[.pointer (some ⟨a, 0, none⟩), .int .i64 k] wr fun e w' => e = .returned (.int .i64 0) ∧ Rm w w' a n (us.set k u) := by
  obtain ⟨F, L, h1, h2⟩ := h.ex
  have hu := h2.users k _ hk
  have hkl := (List.getElem?_eq_some_iff.1 hk).1
  have htop := h.top
  have h6 := h.few _ (List.mem_of_getElem? hk)
  refine (rel_any h1.pool k (by omega)).mono ?_
  rintro e w' ⟨rfl, F', p', t, s⟩
  refine ⟨?_, ⟨F', _, h1.step p' t s, ?_⟩, fun v hm => ?_, by simpa using h.top⟩
  · unfold relS
    rw [if_neg (by omega)]
  · unfold relL
    rw [if_neg (by omega), hu, Int.toNat_natCast]
    by_cases e : u = 0
    · subst e
      rw [if_pos rfl]
      exact h2.set k Pg.none hkl (by omega) (fun _ => rfl)
    · rw [if_neg (by omega)]
      exact h2.set k ⟨u + 1 - 1, (pgAt L k).bytes⟩ hkl (by omega) (by intro h; simp at h; omega)
  · rcases List.mem_or_eq_of_mem_set hm with hm | hm
    · exact h.few v hm
    · omega
theorem ro_gone {w wr : World} {a n : Nat} {us : List Nat} (h : Rm w wr a n us) (k : Nat) (hk : us[k]? = some 0) :
    Calls Try.prog 36 #[.pointer (some ⟨a, 0, none⟩), .int .i64 k] wr fun e w' => e = .returned (.int .i64 (-25)) ∧ Rm w w' a n us := by
  obtain ⟨F, L, h1, h2⟩ := h.ex
  have hu := h2.users k _ hk
  refine (rel_any h1.pool k (by omega)).mono ?_
  rintro e w' ⟨rfl, F', p', t, s⟩
  refine ⟨?_, ⟨F', _, h1.step p' t s, ?_⟩, h.few, h.top⟩
  · unfold relS
    rw [if_pos hu]
  · unfold relL
    rw [if_pos hu]
    exact h2
theorem usedN_none (n : Nat) : usedN (List.replicate n Pg.none) = 0 := by
  unfold usedN
  rw [List.length_eq_zero_iff, List.filter_eq_nil_iff]
  intro p hp
  rw [List.eq_of_mem_replicate hp]
  decide
theorem ro_used {w wr : World} {a n : Nat} {us : List Nat} (h : Rm w wr a n us) (h0 : ∀ u ∈ us, u = 0) :
    Calls Try.prog 44 #[.pointer (some ⟨a, 0, none⟩)] wr fun e w' => e = .returned (.int .i64 0) ∧ Rm w w' a n us := by
  obtain ⟨F, L, h1, h2⟩ := h.ex
  refine (used_any h1.pool).mono ?_
  rintro e w' ⟨rfl, m, rfl⟩
  exact ⟨by rw [h2.none h0, usedN_none]; rfl, h.past ((Turn.refl NoBlock _).drewN m)⟩
theorem ro_room {w wr : World} {a n : Nat} {us : List Nat} (h : Rm w wr a n us) (h0 : ∀ u ∈ us, u = 0) :
    Calls Try.prog 46 #[.pointer (some ⟨a, 0, none⟩)] wr fun e w' => e = .returned (.int .i64 n) ∧ Rm w w' a n us := by
  obtain ⟨F, L, h1, h2⟩ := h.ex
  refine (room_any h1.pool).mono ?_
  rintro e w' ⟨rfl, m, rfl⟩
  exact ⟨by rw [h2.none h0, usedN_none]; simp, h.past ((Turn.refl NoBlock _).drewN m)⟩
/-- The frame that is had again. -/
theorem ro_again {w wr : World} {a n : Nat} {us : List Nat} (h : Rm w wr a n us) (h0 : ∀ u ∈ us, u = 0) (hn : 0 < n) :
    Calls Try.prog 32 #[.pointer (some ⟨a, 0, none⟩)] wr fun x w' => x = .returned (.tuple #[.int .i64 0, .int .i64 0]) ∧ ∃ F L, OSt w w' a F L ∧ L[0]? = some ⟨1, blank⟩ := by
  obtain ⟨F, L, h1, h2⟩ := h.ex
  have e := h2.none h0
  subst e
  have hlow : lowOf (List.replicate n Pg.none) = 0 := (Ro.start n).low (fun u hu => by simp at hu) (by simp)
  refine (alloc_any h1.pool).mono ?_
  rintro x w' ⟨rfl, F', p', t, s⟩
  refine ⟨?_, F', _, h1.step p' t s, ?_⟩
  · unfold allocV allocS
    rw [hlow, List.length_replicate, if_pos hn, if_pos hn]
    rfl
  · unfold allocL
    rw [hlow, List.length_replicate, if_pos hn, List.getElem?_set_self (by simpa using hn)]
theorem ro_none {w wr : World} {a : Nat} {us : List Nat} (h : Rm w wr a 0 us) :
    Calls Try.prog 32 #[.pointer (some ⟨a, 0, none⟩)] wr fun x w' => x = .returned (.tuple #[.int .i64 0, .int .i64 (-4)]) ∧ Turn NoBlock w w' := by
  have hl : us.length = 0 := Nat.le_zero.1 h.top
  refine (ro_full h (fun u hm => ?_) hl).mono ?_
  · rw [List.length_eq_zero_iff.1 hl] at hm; simp at hm
  · rintro x w' ⟨rfl, h'⟩
    exact ⟨rfl, h'.turn⟩
theorem ro_read {w wr : World} {a : Nat} {F : Nat → Prop} {L : List Pg} (h : OSt w wr a F L) (hL : L[0]? = some ⟨1, blank⟩) :
    Calls Try.prog 39 #[.pointer (some ⟨a, 0, none⟩), .int .i64 0, .int .i64 0, .int .i64 1] wr fun e w' => ∃ g c, e = .returned (.tuple #[.slice (some ⟨g, 0, none⟩) 1 c, .int .i64 0]) ∧ w'.cell? ⟨g, 0, none⟩ = some (.int .u8 0) ∧ g < w'.heap.size ∧ Turn NoBlock w w' := by
  have c : Calls Try.prog 39 #[.pointer (some ⟨a, 0, none⟩), .int .i64 0, .int .i64 0, .int .i64 1] wr _ := sh_read (k := 0) (l := 1) h.pool hL Nat.one_ne_zero (by decide)
  refine Calls.mono c ?_
  rintro e w' ⟨v, rfl, hB, hN, t⟩
  have hB1 : w'.ownsRow 0 5 1 v 1 [.int .u8 0] := hB
  obtain ⟨g, cp, rfl, -, -⟩ := own_shape hB1 (by decide)
  have hc := hB1.cellAt 0 (by decide)
  have hc2 : w'.cell? ⟨g, 0, none⟩ = some (.int .u8 0) := by simpa using hc
  exact ⟨g, cp, rfl, hc2, block_lt_of_cell hc2, h.turn.trans t (fun _ h => .inl h)⟩
end Go.Proofs.Ytdhbhigoboamfaa
