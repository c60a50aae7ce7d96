/-
  What a set's small calls answer: New, rounded, find, Count, Room, whole. No conditions but that the set is one that calls can make.
-/
import Derived.Test.YtdhbhigoboamfaaVModel
import Derived.Test.YtdhbhigoboamfaaVNum
namespace Go.Proofs.Ytdhbhigoboamfaa
open Go.ChangeShapes Go.WideShapes Go.ChangeAt Go.RowKit

def M0 (n m : Nat) : Mod := ⟨m, 0, 0, fun _ => none, List.replicate n Pg.none⟩

theorem vnew_no (n m : Int) (w : World) (h : n < 0 ∨ 65536 < n ∨ m < 0 ∨ 65536 < m) :
    Calls Try.prog 14 #[.int .i64 n, .int .i64 m] w fun e w' => e = .returned (.pointer none) ∧ Turn NoBlock w w' := by
  by_cases hn : n < 0 ∨ 65536 < n
  · have c1 := new_no n w hn
    clear h hn
    go_enter Try.func14, Try.ntmps14
    go_wp2_with (go_at_call 30; (with_reducible refine c1.mono ?_); rintro x w1 ⟨rfl, rfl⟩)
    go_ret
    exact ⟨rfl, Turn.refl _ _⟩
  · obtain ⟨k, rfl⟩ : ∃ k : Nat, n = k := ⟨n.toNat, by omega⟩
    have c1 := new_yes k w (by omega)
    have hm : m < 0 ∨ (¬ m < 0 ∧ 65536 < m) := by omega
    clear h hn
    rcases hm with hm | ⟨hm1, hm2⟩
    all_goals
      go_enter Try.func14, Try.ntmps14
      go_wp2_with (go_at_call 30; (with_reducible refine c1.mono ?_); rintro x w1 ⟨rfl, F1, h1, t1, l1⟩; have K1 := Lib.hid t1; clear h1 t1 l1)
      go_ret
      exact ⟨rfl, K1.out⟩

theorem smem_start {w w1 : World} {n m a : Nat} {F : Nat → Prop} (hp : PoolAt w1 a F (List.replicate n Pg.none)) (t : Turn NoBlock w w1) (hf : ∀ k, F k → w.heap.size ≤ k) (ha : w.heap.size = a) (o : Obj)
    (ho : o = .cells #[.pointer (some ⟨a, 0, none⟩), .int .i64 (m : Int), .int .i64 0, .map (some w1.heap.size)] 83) :
    SMem ((w1.alloc (.map #[] 0)).alloc o) (w1.heap.size + 1) ⟨a, w1.heap.size, fun _ => none, fun _ => none, F⟩ (M0 n m) ∧ Turn NoBlock w ((w1.alloc (.map #[] 0)).alloc o) ∧
      ∀ k, SFoot (w1.heap.size + 1) ⟨a, w1.heap.size, fun _ => none, fun _ => none, F⟩ k → w.heap.size ≤ k := by
  have hs := t.size
  have t1 : Turn NoBlock w1 (w1.alloc (.map #[] 0)) := (Turn.refl _ _).alloc _
  have t2 : Turn NoBlock (w1.alloc (.map #[] 0)) ((w1.alloc (.map #[] 0)).alloc o) := (Turn.refl _ _).alloc _
  have e1 : (w1.alloc (.map #[] 0)).heap.size = w1.heap.size + 1 := by simp
  subst ho
  refine ⟨⟨?_, (hp.past t1).past t2, ?_, fun i x h => by simp at h, fun i _ => ⟨rfl, rfl⟩, fun i j x h => by simp at h, fun i j x h => by simp at h, fun i x h => by simp at h, fun i x h => by simp at h, fun hk => ?_, fun hk => ?_, fun i x h => by simp at h, fun i x h => by simp at h⟩,
    (t.trans t1 (fun _ h => .inl h)).trans t2 (fun _ h => .inl h), fun k hk => ?_⟩
  · rw [← e1]
    exact heap_alloc_new _ _
  · have h0 : OMap (w1.alloc (.map #[] 0)) w1.heap.size (fun _ => none) 0 := IMap.made w1
    exact IMap.past h0 t2 (fun h => h)
  · have := hp.lt hk
    omega
  · have := hp.lt hk
    simp at this
  · rcases hk with rfl | rfl | hk | ⟨i, hk⟩ | ⟨i, hk⟩
    · omega
    · exact hs
    · exact hf k hk
    · simp at hk
    · simp at hk

theorem vnew_yes (n m : Nat) (w : World) (hn : n ≤ 65536) (hm : m ≤ 65536) :
    Calls Try.prog 14 #[.int .i64 n, .int .i64 m] w fun e w' => ∃ s r, e = .returned (.pointer (some ⟨s, 0, none⟩)) ∧ SMem w' s r (M0 n m) ∧ Turn NoBlock w w' ∧ ∀ k, SFoot s r k → w.heap.size ≤ k := by
  have c1 := new_yes n w hn
  obtain ⟨a, haw⟩ : ∃ a, w.heap.size = a := ⟨_, rfl⟩
  rw [haw] at c1
  have Haw := Lib.hid haw
  have h0 : ¬ (m : Int) < 0 := by omega
  have h1 : ¬ (65536 : Int) < m := by omega
  have hmm := @run_makeMap Try.prog
  clear hn hm haw
  go_enter Try.func14, Try.ntmps14
  go_wp2_with (go_at_call 30; (with_reducible refine c1.mono ?_); rintro x w1 ⟨rfl, F1, h1, t1, l1⟩; have K1 := Lib.hid (fun o ho => smem_start (m := m) h1 t1 (by rw [Haw.out]; exact l1) Haw.out o ho); clear h1 t1 l1)
  go_ret
  obtain ⟨k1, k2, k3⟩ := K1.out _ rfl
  exact ⟨_, _, by simp, k1, k2, fun k hk => by have e := k3 k hk; have := Haw.out; omega⟩

def upS (n : Int) : Nat := ((n.toNat + 63) / 64) * 64
theorem rounded_neg (n : Int) (w : World) (h : n < 0) : Calls Try.prog 47 #[.int .i64 n] w fun e w' => e = .returned (.tuple #[.int .i64 0, .int .i64 (-10)]) ∧ w = w' := by
  go_enter Try.func47, Try.ntmps47
  go_wp2
  go_ret2
  exact ⟨rfl, rfl⟩
theorem rounded_far (n : Int) (w : World) (h : 4294967296 < n) : Calls Try.prog 47 #[.int .i64 n] w fun e w' => e = .returned (.tuple #[.int .i64 0, .int .i64 (-14)]) ∧ w = w' := by
  have h0 : ¬ n < 0 := by omega
  go_enter Try.func47, Try.ntmps47
  go_wp2
  go_ret2
  exact ⟨rfl, rfl⟩
theorem rounded_yes (n : Int) (w : World) (h0 : 0 ≤ n) (h1 : n ≤ 4294967296) : Calls Try.prog 47 #[.int .i64 n] w fun e w' => e = .returned (.tuple #[.int .i64 (upS n : Nat), .int .i64 0]) ∧ w = w' := by
  have c : ∀ w, Calls Try.prog 65 #[.int .i64 n, .int .i64 64] w fun e w' => e = .returned (.tuple #[.int .i64 (upS n : Nat), .bool true]) ∧ w = w' := fun w => by
    by_cases hz : n % 64 = 0
    · rw [show ((upS n : Nat) : Int) = n by unfold upS; omega]
      exact up_same n 64 w h0 (by omega) (by omega) (by omega) hz
    · have c := up_yes n 64 w h0 (by omega) (by omega) (by omega) hz (by unfold fit; omega)
      rwa [show n - n % 64 + 64 = ((upS n : Nat) : Int) by unfold upS; omega] at c
  go_enter Try.func47, Try.ntmps47
  go_wp2_with (go_at_call 65; (with_reducible refine (c _).mono ?_); rintro x w1 ⟨rfl, rfl⟩)
  go_ret2
  exact ⟨rfl, rfl⟩

section
variable {w : World} {s : Nat} {r : Rep} {M : Mod}
def findS (M : Mod) (i : Int) : Int := match M.O i with | none => -25 | some o => if o.drp then -25 else 0
theorem find_no (h : SMem w s r M) (i : Int) (hi : fit i) (hn : findS M i ≠ 0) :
    Calls Try.prog 49 #[.pointer (some ⟨s, 0, none⟩), .int .i64 i] w fun e w' => e = .returned (.tuple #[.pointer none, .int .i64 (-25)]) ∧ w = w' := by
  have l1 := h.omap.look i hi
  have d3 := h.c3
  cases hO : M.O i with
  | none =>
    rw [h.dead hO] at l1
    unfold ptrOf at l1
    clear h hn hO
    go_enter Try.func49, Try.ntmps49
    go_wp2
    go_ret2
    exact ⟨rfl, rfl⟩
  | some o =>
    obtain ⟨a, pb, ha, hb, hc, hp⟩ := h.live hO
    rw [ha] at l1
    unfold ptrOf at l1
    have hd : o.drp = true := by
      unfold findS at hn
      rw [hO] at hn
      simpa using hn
    have d6 := (ocells hc).c6
    rw [hd] at d6
    clear h hn hO ha hb hc hp hd
    go_enter Try.func49, Try.ntmps49
    go_wp2
    go_ret2
    exact ⟨rfl, rfl⟩
theorem find_yes (h : SMem w s r M) (i : Int) (hi : fit i) {o : Ob} {a : Nat} (hO : M.O i = some o) (hd : o.drp = false) (ha : r.A i = some a) :
    Calls Try.prog 49 #[.pointer (some ⟨s, 0, none⟩), .int .i64 i] w fun e w' => e = .returned (.tuple #[.pointer (some ⟨a, 0, none⟩), .int .i64 0]) ∧ w = w' := by
  have l1 := h.omap.look i hi
  have d3 := h.c3
  obtain ⟨a', pb, ha', hb, hc, hp⟩ := h.live hO
  rw [ha] at ha'
  cases ha'
  rw [ha] at l1
  unfold ptrOf at l1
  have d6 := (ocells hc).c6
  rw [hd] at d6
  clear h hO ha hb hc hp hd
  go_enter Try.func49, Try.ntmps49
  go_wp2
  go_ret2
  exact ⟨rfl, rfl⟩
theorem count_any (h : SMem w s r M) : Calls Try.prog 26 #[.pointer (some ⟨s, 0, none⟩)] w fun e w' => e = .returned (.int .i64 (M.live : Int)) ∧ w = w' := by
  have l1 := fun ty => h.omap.len ty
  have d3 := h.c3
  clear h
  go_enter Try.func26, Try.ntmps26
  go_wp2
  go_ret
  exact ⟨rfl, rfl⟩
theorem vroom_any (h : SMem w s r M) : Calls Try.prog 27 #[.pointer (some ⟨s, 0, none⟩)] w fun e w' => e = .returned (.int .i64 ((M.L.length : Int) - usedN M.L)) ∧ ∃ m, w' = w.drewN m := by
  have c := room_any h.pool
  have d0 := h.c0
  clear h
  go_enter Try.func27, Try.ntmps27
  go_wp2_with (go_at_call 46; (with_reducible refine c.mono ?_); rintro x w1 ⟨rfl, q, rfl⟩)
  go_ret
  exact ⟨rfl, _, rfl⟩
end
theorem tmod64 (a : Int) : (a.tmod 64 = 0) ↔ a % 64 = 0 := ⟨fun h => Int.emod_eq_zero_of_dvd (Int.dvd_of_tmod_eq_zero h), fun h => Int.tmod_eq_zero_of_dvd (Int.dvd_of_emod_eq_zero h)⟩
theorem whole_any (a n : Int) (w : World) : Calls Try.prog 59 #[.int .i64 a, .int .i64 n] w fun e w' => e = .returned (.bool (decide (a % 64 = 0) && decide (n % 64 = 0))) ∧ w = w' := by
  by_cases h1 : a % 64 = 0
  · by_cases h2 : n % 64 = 0
    · have e1 := (tmod64 a).2 h1
      have e2 := (tmod64 n).2 h2
      have H := Lib.hid (And.intro h1 h2)
      clear h1 h2
      go_enter Try.func59, Try.ntmps59
      go_wp2
      all_goals
        go_ret
        exact ⟨ret_bool (by rw [decide_eq_true H.out.1, decide_eq_true H.out.2]; rfl), rfl⟩
    · have e1 := (tmod64 a).2 h1
      have e2 : ¬ n.tmod 64 = 0 := fun e => h2 ((tmod64 n).1 e)
      have e2b : (n.tmod 64 == 0) = false := by simpa using e2
      have H := Lib.hid (And.intro h1 h2)
      clear h1 h2
      go_enter Try.func59, Try.ntmps59
      go_wp2
      all_goals
        go_ret
        exact ⟨ret_bool (by rw [decide_eq_false H.out.2, Bool.and_false]), rfl⟩
  · have e1 : ¬ a.tmod 64 = 0 := fun e => h1 ((tmod64 a).1 e)
    have e1b : (a.tmod 64 == 0) = false := by simpa using e1
    have H := Lib.hid h1
    clear h1
    go_enter Try.func59, Try.ntmps59
    go_wp2
    all_goals
      go_ret
      exact ⟨ret_bool (by rw [decide_eq_false H.out, Bool.false_and]), rfl⟩
end Go.Proofs.Ytdhbhigoboamfaa
