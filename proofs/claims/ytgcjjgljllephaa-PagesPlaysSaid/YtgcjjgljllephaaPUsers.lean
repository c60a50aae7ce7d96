/-
  What Users, within, Share of a pool answer, and what Share makes of its frames; whether a range lies within a size. No conditions but that the pool is one that calls can make, and that numbers are numbers of 64 bits.
-/
import Derived.Test.YtgcjjgljllephaaPTake
namespace Go.Proofs.Ytgcjjgljllephaa
open Go.ChangeShapes Go.WideShapes Go.ChangeAt Go.RowKit

def pgAt (L : List Pg) (f : Int) : Pg := if 0 ≤ f ∧ f < L.length then L.getD f.toNat Pg.none else Pg.none
def usersL (L : List Pg) (f : Int) : Nat := (pgAt L f).users
theorem pgAt_nat (L : List Pg) (k : Nat) : pgAt L (k : Int) = L.getD k Pg.none := by
  unfold pgAt
  by_cases h : k < L.length
  · rw [if_pos ⟨by omega, by omega⟩, Int.toNat_natCast]
  · rw [if_neg (by omega), List.getD_eq_getElem?_getD, List.getElem?_eq_none (by omega)]; rfl
theorem pgAt_neg (L : List Pg) {f : Int} (h : f < 0) : pgAt L f = Pg.none := by unfold pgAt; rw [if_neg (by omega)]
theorem padP_getD {cap : Nat} {ps : List Pg} (k : Nat) : (padP cap ps).getD k Pg.none = ps.getD k Pg.none := by
  unfold padP
  simp only [List.getD_eq_getElem?_getD]
  by_cases h : k < ps.length
  · rw [List.getElem?_append_left h]
  · rw [List.getElem?_append_right (by omega), List.getElem?_replicate, List.getElem?_eq_none (by omega)]
    split <;> rfl
theorem pgAt_pad (cap : Nat) (ps : List Pg) (f : Int) : pgAt (padP cap ps) f = pgAt ps f := by
  by_cases h : f < 0
  · rw [pgAt_neg _ h, pgAt_neg _ h]
  · obtain ⟨k, rfl⟩ : ∃ k : Nat, f = k := ⟨f.toNat, by omega⟩
    rw [pgAt_nat, pgAt_nat, padP_getD]

section
variable {w : World} {a cap : Nat} {vs vf : Value} {ps : List Pg} {fr : List Nat}
theorem users_mem (h : PMem w a vs vf cap ps fr) (f : Int) :
    Calls Try.prog 27 #[.pointer (some ⟨a, 0, none⟩), .int .i64 f] w fun e w' => e = .returned (.int .i64 (usersL ps f)) ∧ w = w' := by
  unfold usersL
  by_cases h0 : f < 0
  · rw [pgAt_neg _ h0]
    clear h
    go_enter Try.func27, Try.ntmps27
    go_wp2
    go_ret
    exact ⟨rfl, rfl⟩
  · obtain ⟨k, rfl⟩ : ∃ k : Nat, f = k := ⟨f.toNat, by omega⟩
    rw [pgAt_nat]
    by_cases hlt : k < ps.length
    · obtain ⟨p, hp⟩ : ∃ p, ps[k]? = some p := ⟨_, List.getElem?_eq_getElem hlt⟩
      obtain ⟨g, c, rfl, g1, g2, g3, g4, g5, g6, -, -, -, g10⟩ := h.page hp
      have d1 := h.c1
      have hg : ps.getD k Pg.none = p := by simp [List.getD, hp]
      rw [hg]
      generalize ps.length = n at *
      clear h hp hg h0
      go_enter Try.func27, Try.ntmps27
      go_wp2
      go_ret
      exact ⟨rfl, rfl⟩
    · have hg : ps.getD k Pg.none = Pg.none := by rw [List.getD_eq_getElem?_getD, List.getElem?_eq_none (by omega)]; rfl
      rw [hg]
      obtain ⟨p, c, rfl⟩ := own_slice h.frames
      have d1 := h.c1
      generalize ps.length = n at *
      clear h hg
      go_enter Try.func27, Try.ntmps27
      go_wp2
      go_ret
      exact ⟨rfl, rfl⟩
end
theorem users_any {w : World} {a : Nat} {F : Nat → Prop} {L : List Pg} (h : PoolAt w a F L) (f : Int) :
    Calls Try.prog 27 #[.pointer (some ⟨a, 0, none⟩), .int .i64 f] w fun e w' => e = .returned (.int .i64 (usersL L f)) ∧ w = w' := by
  obtain ⟨vs, vf, cap, ps, fr, hM, ok, rfl, rfl⟩ := h
  unfold usersL
  rw [pgAt_pad]
  exact users_mem hM f

theorem min_law2 (a b : Int) : ∃ m : Int, (∀ (ts : Array TypeId) (t : TypeId) (w : World), (Builtin.min_ ts t #[.int .i64 a, .int .i64 b]).run Try.prog w = .ok (.int .i64 m) w) ∧ (0 ≤ m ↔ 0 ≤ a ∧ 0 ≤ b) := by
  refine ⟨_, fun ts t w => by simp [Builtin.min_, Builtin.min2]; rfl, ?_⟩
  split <;> omega
/-- Does a range lie within 64? -/
def inB (at' n : Int) : Bool := decide (0 ≤ at' ∧ 0 ≤ n ∧ at' ≤ 64 ∧ n ≤ 64 - at')
theorem within64 (b n : Int) (w : World) :
    Calls Try.prog 46 #[.int .i64 b, .int .i64 n, .int .i64 64] w fun e w' => e = .returned (.bool (inB b n)) ∧ w = w' := by
  obtain ⟨m, hm, hm0⟩ := min_law2 b n
  have hc : (¬ 0 ≤ m ∧ inB b n = false) ∨ (0 ≤ m ∧ 64 < b ∧ inB b n = false) ∨ (0 ≤ m ∧ 0 ≤ b ∧ b ≤ 64 ∧ 64 - b < n ∧ inB b n = false) ∨ (0 ≤ m ∧ 0 ≤ b ∧ b ≤ 64 ∧ n ≤ 64 - b ∧ inB b n = true) := by
    unfold inB
    by_cases h : 0 ≤ m
    · obtain ⟨h1, h2⟩ := hm0.1 h
      by_cases h3 : 64 < b
      · exact .inr (.inl ⟨h, h3, decide_eq_false (by omega)⟩)
      · by_cases h4 : 64 - b < n
        · exact .inr (.inr (.inl ⟨h, h1, by omega, h4, decide_eq_false (by omega)⟩))
        · exact .inr (.inr (.inr ⟨h, h1, by omega, by omega, decide_eq_true (by omega)⟩))
    · exact .inl ⟨h, decide_eq_false (fun hh => h (hm0.2 ⟨hh.1, hh.2.1⟩))⟩
  clear hm0
  rcases hc with ⟨h1, h2⟩ | ⟨h1, h3, h2⟩ | ⟨h1, h3, h4, h5, h2⟩ | ⟨h1, h3, h4, h5, h2⟩
  all_goals
    rw [h2]
    clear h2
    go_enter Try.func46, Try.ntmps46
    go_wp2
    go_ret
    first | exact ⟨rfl, rfl⟩ | exact ⟨ret_bool (decide_eq_false (by omega)), rfl⟩ | exact ⟨ret_bool (decide_eq_true (by omega)), rfl⟩

def withinS (L : List Pg) (f b n : Int) : Int := if usersL L f = 0 then -25 else if inB b n = true then 0 else -14
theorem within_any {w : World} {a : Nat} {F : Nat → Prop} {L : List Pg} (h : PoolAt w a F L) (f b n : Int) :
    Calls Try.prog 42 #[.pointer (some ⟨a, 0, none⟩), .int .i64 f, .int .i64 b, .int .i64 n] w fun e w' => e = .returned (.int .i64 (withinS L f b n)) ∧ w = w' := by
  have c1 := users_any h f
  have c2 := within64 b n
  unfold withinS
  clear h
  by_cases h0 : usersL L f = 0
  · rw [h0] at c1
    rw [if_pos h0]
    clear h0
    go_enter Try.func42, Try.ntmps42
    go_wp2_with (go_at_call 27; (with_reducible refine c1.mono ?_); rintro e w' ⟨rfl, rfl⟩)
    go_ret
    exact ⟨rfl, rfl⟩
  · rw [if_neg h0]
    have hb : (((usersL L f : Nat) : Int) == 0) = false := by simp; omega
    generalize ((usersL L f : Nat) : Int) = u at *
    clear h0
    rcases hi : inB b n with _ | _
    all_goals
      rw [hi] at c2
      clear hi
      go_enter Try.func42, Try.ntmps42
      go_wp2_with (first | (go_at_call 27; (with_reducible refine c1.mono ?_); rintro e w' ⟨rfl, rfl⟩) | (go_at_call 46; (with_reducible refine (c2 _).mono ?_); rintro e w' ⟨rfl, rfl⟩))
      go_ret
      exact ⟨rfl, rfl⟩
end Go.Proofs.Ytgcjjgljllephaa
