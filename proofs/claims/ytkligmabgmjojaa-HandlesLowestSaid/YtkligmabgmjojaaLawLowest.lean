/-
  The statement HandlesLowest answers true at all numbers of places, places and draws.
-/
import Derived.Test.YtkligmabgmjojaaHRange
import Derived.Test.YtkligmabgmjojaaHAwake
namespace Go.Proofs.Ytkligmabgmjojaa
open Go.ChangeShapes Go.WideShapes Go.ChangeAt Go.RowKit

def lowF (one : Int) (j : Nat) : Pl := ⟨valS j one, j, 0, 0⟩
theorem lowF_ne (one : Int) (j : Nat) : (lowF one j).value ≠ 0 := by have := valS_pos j one; show valS j one ≠ 0; omega
section
variable {w : World} {a : Nat} {F : Nat → Prop}
theorem lw_add {i : Nat} {one : Int} (hi : i < 32) (h : TableAt w a F (rngL 32 i (lowF one))) :
    Calls Try.prog 22 #[.pointer (some ⟨a, 0, none⟩), .agg #[.int .i64 i, .int .i64 0, .int .i64 0], .int .i64 one] w fun x w' => x = .returned (.tuple #[.int .i64 (valS i one), .int .i64 0]) ∧
      ∃ F', TableAt w' a F' (rngL 32 (i + 1) (lowF one)) ∧ Turn F w w' ∧ ∀ j, F' j → F j ∨ w.heap.size ≤ j := by
  obtain ⟨h1, h2, h3⟩ := rng_add (cap := 32) (n := i) (f := lowF one) (e := ⟨i, 0, 0⟩) (d := one) (lowF_ne one) hi rfl
  have := add_any h ⟨i, 0, 0⟩ one
  rw [h1, h2, h3] at this
  exact this
theorem lw_close {n k : Nat} {one : Int} (hn : n ≤ 30) (hk : k < n) (h : TableAt w a F (rngL 32 n (lowF one))) :
    Calls Try.prog 29 #[.pointer (some ⟨a, 0, none⟩), .int .i64 (valS k one)] w fun x w' => x = .returned (.tuple #[.agg #[.int .i64 k, .int .i64 0, .int .i64 0], .int .i64 0]) ∧
      ∃ F', TableAt w' a F' ((rngL 32 n (lowF one)).set k Pl.none) ∧ Turn F w w' ∧ ∀ j, F' j → F j ∨ w.heap.size ≤ j := by
  have hf : findL (rngL 32 n (lowF one)) (valS k one) = some k := find_is (by omega) (by rw [rng_at hk]; rfl)
  have := close_any h (valS k one) (valS_fit k one (by omega))
  unfold getE getS closeL at this
  rw [hf] at this
  simp only at this
  have he : entL (rngL 32 n (lowF one)) k = ⟨k, 0, 0⟩ := by unfold entL; rw [rng_at hk]; rfl
  rw [he] at this
  exact this
theorem lw_again {n k : Nat} {one two : Int} (hn : n ≤ 30) (hk : k < n) (h : TableAt w a F ((rngL 32 n (lowF one)).set k Pl.none)) :
    Calls Try.prog 22 #[.pointer (some ⟨a, 0, none⟩), .agg #[.int .i64 99, .int .i64 0, .int .i64 0], .int .i64 two] w fun x w' => x = .returned (.tuple #[.int .i64 (valS k two), .int .i64 0]) ∧
      ∃ F', TableAt w' a F' ((rngL 32 n (lowF one)).set k ⟨valS k two, 99, 0, 0⟩) ∧ Turn F w w' ∧ ∀ j, F' j → F j ∨ w.heap.size ≤ j := by
  have hlen := rng_len (cap := 32) (n := n) (f := lowF one) (by omega)
  have hlow : lowOf ((rngL 32 n (lowF one)).set k Pl.none) = k := by
    refine lowOf_is (p := Pl.none) (by rw [List.getElem?_set_self (by omega)]) rfl ?_
    intro j q hj hq
    rw [List.getElem?_set_ne (by omega)] at hq
    have h1 := rng_at (cap := 32) (f := lowF one) (show j < n by omega)
    simp only [List.getD, hq, Option.getD_some] at h1
    rw [h1]
    exact lowF_ne one j
  have := add_any h ⟨99, 0, 0⟩ two
  unfold addL addV addS at this
  rw [hlow, List.length_set, hlen, if_pos (by omega), if_pos (by omega), if_pos (by omega), List.set_set] at this
  exact this
theorem lw_get {n k : Nat} {one two : Int} (hn : n ≤ 30) (hk : k < n) (h : TableAt w a F ((rngL 32 n (lowF one)).set k ⟨valS k two, 99, 0, 0⟩)) :
    Calls Try.prog 23 #[.pointer (some ⟨a, 0, none⟩), .int .i64 (valS k one)] w fun x w' => x = .returned (.tuple #[.agg #[.int .i64 (if valS k two = valS k one then 99 else 0), .int .i64 0, .int .i64 0], .int .i64 (if valS k two = valS k one then 0 else -11)]) ∧ Turn NoBlock w w' := by
  have hlen := rng_len (cap := 32) (n := n) (f := lowF one) (by omega)
  have hat : ((rngL 32 n (lowF one)).set k ⟨valS k two, 99, 0, 0⟩).getD k Pl.none = ⟨valS k two, 99, 0, 0⟩ := by
    simp only [List.getD, List.getElem?_set_self (show k < (rngL 32 n (lowF one)).length by omega), Option.getD_some]
  have := get_any h (valS k one) (valS_fit k one (by omega))
  by_cases he : valS k two = valS k one
  · have hf : findL ((rngL 32 n (lowF one)).set k ⟨valS k two, 99, 0, 0⟩) (valS k one) = some k := find_is (by omega) (by rw [hat]; exact he)
    unfold getE getS entL at this
    rw [hf] at this
    simp only [hat] at this
    rw [if_pos he, if_pos he]
    exact this
  · have hf : findL ((rngL 32 n (lowF one)).set k ⟨valS k two, 99, 0, 0⟩) (valS k one) = none := find_not (by omega) (by rw [hat]; exact he)
    unfold getE getS at this
    rw [hf] at this
    rw [if_neg he, if_neg he]
    exact this
end

set_option maxRecDepth 20000 in
set_option maxHeartbeats 2000000 in
theorem lowest_past (n at' one two : Int) (h : n < 1 ∨ (1 ≤ n ∧ 30 < n) ∨ (1 ≤ n ∧ n ≤ 30 ∧ at' < 0) ∨ (1 ≤ n ∧ n ≤ 30 ∧ 0 ≤ at' ∧ n ≤ at')) (w : World) :
    Calls Try.prog 7 #[.agg #[.int .i64 n, .int .i64 at', .int .i64 one, .int .i64 two]] w fun e w' => e = .returned (.bool true) ∧ Turn NoBlock w w' := by
  have c1 : ∀ m, Calls Try.prog 9 #[.int .i64 32] ((w.alloc (.cells #[.int .i64 n, .int .i64 at', .int .i64 one, .int .i64 two] 63)).drewN m) _ := fun m => new_yes 32 _ (by omega)
  have cA := Lib.hid (fun w' => @awake_b w w')
  rcases h with h | ⟨h, h'⟩ | ⟨h, h', h''⟩ | ⟨h, h', h'', h3⟩
  all_goals
    go_enter Try.func7, Try.ntmps7
    go_wp2_with fail
    go_quiet (fail)
    go_wp2_with (first
      | (go_at_call 9; (with_reducible refine (c1 _).mono ?_); rintro x w1 ⟨rfl, F1, h1, t1, l1⟩; have K1 := Lib.hid ((((Turn.refl NoBlock w).alloc _).drewN _).trans t1 (fun _ h => .inl h)); clear h1 t1 l1)
      | (go_at_call 10; (with_reducible refine (cA.out _ K1.out).mono ?_); rintro x w5 ⟨rfl, t8⟩))
    go_ret
    exact ⟨rfl, t8⟩

theorem new_at (n : Nat) (W : World) (b : Nat) (hb : W.heap.size = b) (h' : n ≤ 65536) :
    Calls Try.prog 9 #[.int .i64 n] W fun e w' => e = .returned (.pointer (some ⟨b, 0, none⟩)) ∧ ∃ F, TableAt w' b F (List.replicate n Pl.none) ∧ Turn NoBlock W w' ∧ ∀ k, F k → b ≤ k := by
  subst hb; exact new_yes n W h'
/-- One step of a thing that the call owns. -/
theorem own_step {W w w' : World} {F F' : Nat → Prop} {b : Nat} (t : Turn NoBlock W w) (l : ∀ j, F j → b ≤ j) (hb : b ≤ W.heap.size) (t' : Turn F w w') (l' : ∀ j, F' j → F j ∨ w.heap.size ≤ j) (hW : W.heap.size ≤ b) :
    Turn NoBlock W w' ∧ ∀ j, F' j → b ≤ j := by
  have hs := t.size
  refine ⟨t.trans t' (fun j hj => .inr (by have := l j hj; omega)), fun j hj => ?_⟩
  rcases l' j hj with h | h
  · exact l j h
  · omega

set_option maxRecDepth 20000 in
set_option maxHeartbeats 4000000 in
theorem lowest_walk (n k : Nat) (one two : Int) (h1 : 1 ≤ n) (h2 : n ≤ 30) (hk : k < n) (w : World) :
    Calls Try.prog 7 #[.agg #[.int .i64 n, .int .i64 k, .int .i64 one, .int .i64 two]] w fun e w' => e = .returned (.bool true) ∧ Turn NoBlock w w' := by
  have c1 : ∀ m, Calls Try.prog 9 #[.int .i64 32] ((w.alloc (.cells #[.int .i64 n, .int .i64 k, .int .i64 one, .int .i64 two] 63)).drewN m) _ := fun m => new_at 32 _ (w.heap.size + 1) (by show (w.alloc _).heap.size = _; simp) (by omega)
  have cA := Lib.hid (fun w' => @awake_b w w')
  obtain ⟨W0, hW0⟩ : ∃ W0, w.alloc (.cells #[.int .i64 n, .int .i64 k, .int .i64 one, .int .i64 two] 63) = W0 := ⟨_, rfl⟩
  have HW0 := Lib.hid hW0
  have HS0 := Lib.hid (show W0.heap.size = w.heap.size + 1 by rw [← hW0]; simp)
  have HT0 := Lib.hid (fun m => show Turn NoBlock W0 ((w.alloc (.cells #[.int .i64 n, .int .i64 k, .int .i64 one, .int .i64 two] 63)).drewN m) by rw [hW0]; exact (Turn.refl NoBlock W0).drewN m)
  have HT1 := Lib.hid (show Turn NoBlock w W0 by rw [← hW0]; exact (Turn.refl NoBlock w).alloc _)
  clear hW0
  have HV1 := valS_top k one (by omega)
  have HV2 := valS_top k two (by omega)
  have HP1 := valS_pos k one
  have HP2 := valS_pos k two
  have cV := Lib.hid (fun w => value_yes k one w (by omega))
  have cP := Lib.hid (fun w i (hi : i < n) => by have := place_any (valS i one) w (valS_fit i one (by omega)); rw [place_valS i one (by omega)] at this; exact this)
  have cQ := Lib.hid (fun w => by have := place_any (valS k two) w (valS_fit k two (by omega)); rw [place_valS k two (by omega)] at this; exact this)
  have e1 := and_low one
  have e2 := and_low two
  have hd1 : decide ((n : Int) < 1) = false := by simp; omega
  have hd2 : decide (30 < (n : Int)) = false := by simp; omega
  have hd3 : decide ((k : Int) < 0) = false := by simp
  have hd4 : decide ((n : Int) ≤ (k : Int)) = false := by simp; omega
  have hd5 : decide (n ≤ k) = false := by simp; omega
  have hvv : (valS k two = valS k one) ↔ (one % 65536 = two % 65536) := by unfold valS; omega
  go_enter Try.func7, Try.ntmps7
  go_wp2_with fail
  go_quiet (fail)
  go_wp2_with (go_at_call 9; (with_reducible refine (c1 _).mono ?_); rintro x w1 ⟨rfl, F1, t0, t1, l1⟩; have K1 := Lib.hid (And.intro t0 (And.intro ((HT0.out _).trans t1 (fun _ h => .inl h)) l1)); clear t0 t1 l1)
  have HK := Lib.hid hk
  clear hk
  go_loopg [52] n (fun g s wr => ∃ (i : Nat) (F : Nat → Prop), g = n - i ∧ i ≤ n ∧ s = .int .i64 i ∧ Hid (TableAt wr (w.heap.size + 1) F (rngL 32 i (lowF one)) ∧ Turn NoBlock W0 wr ∧ ∀ j, F j → w.heap.size + 1 ≤ j))
  case atStart => exact ⟨0, F1, by omega, by omega, rfl, by rw [rng_zero]; exact K1.out⟩
  case round =>
    obtain ⟨i, F, hg, hi, rfl, HA⟩ := hrel
    by_cases hlt : i < n
    · have HVi := valS_top i one (by omega)
      have HPi := valS_pos i one
      have c2 := lw_add (by omega) HA.out.1
      have c3 := cP.out
      go_wp2_with (first
        | (go_at_call 22; (with_reducible refine c2.mono ?_); rintro x w2 ⟨rfl, F2, t2, t3, l2⟩; have K2 := Lib.hid (And.intro t2 (own_step HA.out.2.1 HA.out.2.2 (Nat.le_of_eq (Hid.out HS0).symm) t3 l2 (Nat.le_of_eq (Hid.out HS0)))); clear t2 t3 l2)
        | (go_at_call 21; (with_reducible refine (c3 _ i hlt).mono ?_); rintro x w3 ⟨rfl, rfl⟩))
      go_roundg (n - (i + 1))
      case measure => omega
      case rel => exact ⟨i + 1, F2, rfl, by omega, by go_num, K2.out⟩
    · obtain rfl : i = n := by omega
      have c2 := lw_close h2 HK.out HA.out.1
      have hs1 := (HA.out.2.1).size
      have c3 := Lib.hid (fun (w : World) (a : Nat) (F : Nat → Prop) => @lw_again w a F i k one two h2 HK.out)
      clear hg hlt K1 c1 HT0 cP
      by_cases heq : valS k two = valS k one
      · have hm := hvv.1 heq
        have c4 := Lib.hid (fun (w : World) (a : Nat) (F : Nat → Prop) h => by have := @lw_get w a F i k one two h2 HK.out h; rw [if_pos heq, if_pos heq] at this; exact this)
        clear hvv
        rw [heq] at HV2 HP2 cQ c3 c4
        rw [← hm] at e2
        clear heq hm
        generalize valS k one = V1 at *
        go_wp2_with (first
          | (go_at_call 19; (with_reducible refine (cV.out _).mono ?_); rintro x w2 ⟨rfl, rfl⟩)
          | (go_at_call 29; (with_reducible refine c2.mono ?_); rintro x w3 ⟨rfl, F2, t2, t3, l2⟩; have K2 := Lib.hid (And.intro t2 (own_step HA.out.2.1 HA.out.2.2 (Nat.le_of_eq (Hid.out HS0).symm) t3 l2 (Nat.le_of_eq (Hid.out HS0)))); clear t2 t3 l2)
          | (go_at_call 22; (with_reducible refine (c3.out _ _ _ (K2.out.1.past ((Turn.refl NoBlock _).alloc _))).mono ?_); rintro x w4 ⟨rfl, F4, t4, t5, l4⟩; have K4 := Lib.hid (And.intro t4 (own_step (K2.out.2.1.trans ((Turn.refl NoBlock _).alloc _) (fun _ h => .inl h)) K2.out.2.2 (Nat.le_of_eq (Hid.out HS0).symm) t5 l4 (Nat.le_of_eq (Hid.out HS0)))); clear t4 t5 l4)
          | (go_at_call 21; (with_reducible refine (cQ.out _).mono ?_); rintro x w5 ⟨rfl, rfl⟩)
          | (go_at_call 23; (with_reducible refine (c4.out _ _ _ K4.out.1).mono ?_); rintro x w6 ⟨rfl, t6⟩; have K6 := Lib.hid (K4.out.2.1.trans t6 (fun _ h => .inl h)); clear t6)
          | (go_at_call 10; (with_reducible refine (cA.out _ (HT1.out.trans (K6.out.alloc _) (fun _ h => .inl h))).mono ?_); rintro x w7 ⟨rfl, t8⟩))
        go_ret
        exact ⟨rfl, t8⟩
      · have hm : (one % 65536 == two % 65536) = false := by simp; exact fun e => heq (hvv.2 e)
        have hb : (valS k two == valS k one) = false := by simpa using heq
        have c4 := Lib.hid (fun (w : World) (a : Nat) (F : Nat → Prop) h => by have := @lw_get w a F i k one two h2 HK.out h; rw [if_neg heq, if_neg heq] at this; exact this)
        clear hvv heq
        generalize valS k one = V1 at *
        generalize valS k two = V2 at *
        go_wp2_with (first
          | (go_at_call 19; (with_reducible refine (cV.out _).mono ?_); rintro x w2 ⟨rfl, rfl⟩)
          | (go_at_call 29; (with_reducible refine c2.mono ?_); rintro x w3 ⟨rfl, F2, t2, t3, l2⟩; have K2 := Lib.hid (And.intro t2 (own_step HA.out.2.1 HA.out.2.2 (Nat.le_of_eq (Hid.out HS0).symm) t3 l2 (Nat.le_of_eq (Hid.out HS0)))); clear t2 t3 l2)
          | (go_at_call 22; (with_reducible refine (c3.out _ _ _ (K2.out.1.past ((Turn.refl NoBlock _).alloc _))).mono ?_); rintro x w4 ⟨rfl, F4, t4, t5, l4⟩; have K4 := Lib.hid (And.intro t4 (own_step (K2.out.2.1.trans ((Turn.refl NoBlock _).alloc _) (fun _ h => .inl h)) K2.out.2.2 (Nat.le_of_eq (Hid.out HS0).symm) t5 l4 (Nat.le_of_eq (Hid.out HS0)))); clear t4 t5 l4)
          | (go_at_call 21; (with_reducible refine (cQ.out _).mono ?_); rintro x w5 ⟨rfl, rfl⟩)
          | (go_at_call 23; (with_reducible refine (c4.out _ _ _ K4.out.1).mono ?_); rintro x w6 ⟨rfl, t6⟩; have K6 := Lib.hid (K4.out.2.1.trans t6 (fun _ h => .inl h)); clear t6)
          | (go_at_call 10; (with_reducible refine (cA.out _ (HT1.out.trans (K6.out.alloc _) (fun _ h => .inl h))).mono ?_); rintro x w7 ⟨rfl, t8⟩))
        go_ret
        exact ⟨rfl, t8⟩
end Go.Proofs.Ytkligmabgmjojaa
