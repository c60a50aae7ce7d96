/-
  The frames of PagesShared: the first has i users, as many others as were owned have one, the rest none.
-/
import Derived.Test.YtdhbhigoboamfaaLawApart2
namespace Go.Proofs.Ytdhbhigoboamfaa
open Go.ChangeShapes Go.WideShapes Go.ChangeAt Go.RowKit

structure Sh (n i : Nat) (B : List UInt8) (L : List Pg) : Prop where
  len : L.length = 20
  one : L[0]? = some ⟨i, B⟩
  own : ∀ j, 1 ≤ j → j ≤ n - i → ∃ q, L[j]? = some q ∧ q.users = 1
  rest : ∀ j, n - i < j → j < 20 → L[j]? = some Pg.none
theorem sh_start (n : Nat) (B : List UInt8) : Sh n n B (⟨n, B⟩ :: List.replicate 19 Pg.none) := by
  refine ⟨by simp, rfl, fun j h1 h2 => by omega, fun j h1 h2 => ?_⟩
  obtain ⟨k, rfl⟩ : ∃ k, j = k + 1 := ⟨j - 1, by omega⟩
  rw [List.getElem?_cons_succ, List.getElem?_replicate, if_pos (by omega)]
variable {n i : Nat} {B : List UInt8} {L : List Pg}
theorem Sh.at0 (h : Sh n i B L) : pgAt L 0 = ⟨i, B⟩ := by
  have := pgAt_nat L 0
  rw [List.getD_eq_getElem?_getD, h.one] at this
  exact this
theorem Sh.users (h : Sh n i B L) : usersL L 0 = i := by unfold usersL; rw [h.at0]
theorem Sh.low (h : Sh n i B L) (h1 : 1 ≤ i) (h2 : i ≤ n) (h3 : n ≤ 15) : lowOf L = n - i + 1 := by
  refine lowOf_is (h.rest (n - i + 1) (by omega) (by omega)) rfl fun j q hj hq => ?_
  by_cases h0 : j = 0
  · subst h0
    rw [h.one] at hq
    simp only [Option.some.injEq] at hq
    subst hq
    show i ≠ 0
    omega
  · obtain ⟨q', e, hu⟩ := h.own j (by omega) (by omega)
    rw [e] at hq
    simp only [Option.some.injEq] at hq
    subst hq
    omega
theorem Sh.used (h : Sh n i B L) (h1 : 1 ≤ i) (h2 : i ≤ n) (h3 : n ≤ 15) : usedN L = n - i + 1 := by
  have e := (List.take_append_drop (n - i + 1) L).symm
  have hl := h.len
  unfold usedN
  rw [e, List.filter_append, List.filter_eq_self.2 (fun p hp => ?_), List.filter_eq_nil_iff.2 (fun p hp => ?_)]
  · simp; omega
  · obtain ⟨j, hj⟩ := List.mem_iff_getElem?.1 hp
    rw [List.getElem?_drop] at hj
    have hlt := (List.getElem?_eq_some_iff.1 hj).1
    rw [h.rest _ (by omega) (by omega)] at hj
    simp only [Option.some.injEq] at hj
    subst hj
    simp [Pg.none]
  · obtain ⟨j, hj⟩ := List.mem_iff_getElem?.1 hp
    rw [List.getElem?_take] at hj
    split at hj
    · by_cases h0 : j = 0
      · subst h0
        rw [h.one] at hj
        simp only [Option.some.injEq] at hj
        subst hj
        simp; omega
      · obtain ⟨q', e', hu⟩ := h.own j (by omega) (by omega)
        rw [e'] at hj
        simp only [Option.some.injEq] at hj
        subst hj
        simp [hu]
    · cases hj
theorem Sh.step (h : Sh n i B L) (h1 : 2 ≤ i) (h2 : i ≤ n) (h3 : n ≤ 15) (C : List UInt8) : Sh n (i - 1) B (((L.set (n - i + 1) ⟨1, B⟩).set 0 ⟨i - 1, B⟩).set (n - i + 1) ⟨1, C⟩) := by
  have hl := h.len
  refine ⟨by simp [hl], ?_, fun j a b => ?_, fun j a b => ?_⟩
  · rw [List.getElem?_set_ne (by omega), List.getElem?_set_self (by simp; omega)]
  · by_cases hj : j = n - i + 1
    · subst hj
      rw [List.getElem?_set_self (by simp; omega)]
      exact ⟨_, rfl, rfl⟩
    · rw [List.getElem?_set_ne (by omega), List.getElem?_set_ne (by omega), List.getElem?_set_ne (by omega)]
      exact h.own j a (by omega)
  · rw [List.getElem?_set_ne (by omega), List.getElem?_set_ne (by omega), List.getElem?_set_ne (by omega)]
    exact h.rest j (by omega) b

section
variable {w : World} {a : Nat} {F : Nat → Prop}
theorem sh_users (h : PoolAt w a F L) (hs : Sh n i B L) : Calls Try.prog 43 #[.pointer (some ⟨a, 0, none⟩), .int .i64 0] w fun e w' => e = .returned (.int .i64 i) ∧ w = w' := by
  have c := users_any h 0
  rwa [hs.users] at c
theorem sh_no (h : PoolAt w a F L) (hs : Sh n i B L) (h1 : 2 ≤ i) (v : Value) (x : UInt8) (hv : Src w v [x]) :
    Calls Try.prog 41 #[.pointer (some ⟨a, 0, none⟩), .int .i64 0, .int .i64 0, v] w fun e w' => e = .returned (.int .i64 (-20)) ∧ PoolAt w' a F L ∧ Turn F w w' := by
  have c := write_any h 0 0 v [x] hv
  have hw : writeS L 0 0 (([x] : List UInt8).length : Int) = -20 := by
    unfold writeS withinS
    rw [hs.users]
    have : inB 0 (([x] : List UInt8).length : Int) = true := by show inB 0 1 = true; decide
    have e0 : ¬ i = 0 := by omega
    have e1 : 1 < i := by omega
    rw [this, if_neg e0, if_pos rfl, if_pos e1]
    rfl
  have hL : writeL L 0 0 [x] = L := by unfold writeL; rw [hw]; rfl
  rw [hw, hL] at c
  exact c
theorem sh_own (h : PoolAt w a F L) (hs : Sh n i B L) (h1 : 2 ≤ i) (h2 : i ≤ n) (h3 : n ≤ 15) :
    Calls Try.prog 37 #[.pointer (some ⟨a, 0, none⟩), .int .i64 0] w fun e w' => e = .returned (.tuple #[.int .i64 ((n - i + 1 : Nat) : Int), .int .i64 0]) ∧ ∃ F', PoolAt w' a F' ((L.set (n - i + 1) ⟨1, B⟩).set 0 ⟨i - 1, B⟩) ∧ Turn F w w' ∧ ∀ j, F' j → F j ∨ w.heap.size ≤ j := by
  have hl := hs.low (by omega) h2 h3
  have c := own_more h 0 ⟨i, B⟩ hs.one h1 (by show i < _; omega) (by rw [hl, hs.len]; omega)
  rwa [hl] at c
theorem sh_own1 (h : PoolAt w a F L) (hs : Sh n 1 B L) :
    Calls Try.prog 37 #[.pointer (some ⟨a, 0, none⟩), .int .i64 0] w fun e w' => e = .returned (.tuple #[.int .i64 0, .int .i64 0]) ∧ ∃ F', PoolAt w' a F' L ∧ Turn F w w' ∧ ∀ j, F' j → F j ∨ w.heap.size ≤ j := by
  have c := own_any h 0 (by rw [hs.users]; decide)
  unfold ownV ownS ownL at c
  rw [hs.users] at c
  exact c
theorem at_set {j : Nat} {p : Pg} (hl : L[j]? = some p) : pgAt L j = p := by rw [pgAt_nat, List.getD_eq_getElem?_getD, hl]; rfl
theorem sh_read {k l : Nat} {p : Pg} (h : PoolAt w a F L) (hp : L[k]? = some p) (hu : p.users ≠ 0) (hl : l ≤ 64) :
    Calls Try.prog 39 #[.pointer (some ⟨a, 0, none⟩), .int .i64 k, .int .i64 0, .int .i64 l] w fun e w' => ∃ v, e = .returned (.tuple #[v, .int .i64 0]) ∧ Byts v (p.bytes.take l) w' ∧ (∀ j, Blk v j → w.heap.size ≤ j) ∧ Turn NoBlock w w' := by
  have c := read_any h k 0 l (by unfold withinS usersL; rw [at_set hp, if_neg hu, if_pos (by unfold inB; exact decide_eq_true (by omega))])
  rw [show readB L k 0 l = p.bytes.take l from by unfold readB; rw [at_set hp]; simp] at c
  exact c
theorem sh_write {k : Nat} {l : List UInt8} (h : PoolAt w a F L) (hp : L[k]? = some ⟨1, l⟩) (v : Value) (x : UInt8) (hv : Src w v [x]) :
    Calls Try.prog 41 #[.pointer (some ⟨a, 0, none⟩), .int .i64 k, .int .i64 0, v] w fun e w' => e = .returned (.int .i64 0) ∧ PoolAt w' a F (L.set k ⟨1, putB l 0 [x]⟩) ∧ Turn F w w' := by
  have c := write_any h k 0 v [x] hv
  have hu : usersL L k = 1 := by unfold usersL; rw [at_set hp]
  have hw : writeS L k 0 (([x] : List UInt8).length : Int) = 0 := by
    unfold writeS withinS
    rw [hu]
    have : inB 0 (([x] : List UInt8).length : Int) = true := by show inB 0 1 = true; decide
    rw [this]; rfl
  have hL : writeL L k 0 [x] = L.set k ⟨1, putB l 0 [x]⟩ := by unfold writeL; rw [hw, if_pos rfl, hu, at_set hp]; simp
  rw [hw, hL] at c
  exact c
theorem src_byte (w : World) (z : Int) (h0 : 0 ≤ z) (h1 : z < 256) : Src (w.alloc (.cells #[.int .u8 z] 5)) (.slice (some ⟨w.heap.size, 0, none⟩) 1 1) [UInt8.ofNat z.toNat] := by
  refine .inr ⟨_, 0, 1, rfl, fun j hj => ?_⟩
  simp at hj
  subst hj
  simp
  omega
end
end Go.Proofs.Ytdhbhigoboamfaa
