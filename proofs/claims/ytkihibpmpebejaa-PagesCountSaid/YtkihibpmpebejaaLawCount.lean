/-
  The statement PagesCount answers true at all numbers and all scripts.
-/
import Derived.Test.YtkihibpmpebejaaPCount
import Derived.Test.YtkihibpmpebejaaPOps
import Derived.Test.YtkihibpmpebejaaPAwake
import Derived.Test.YtkihibpmpebejaaLawOver
namespace Go.Proofs.Ytkihibpmpebejaa
open Go.ChangeShapes Go.WideShapes Go.ChangeAt Go.RowKit

set_option maxRecDepth 20000 in
set_option maxHeartbeats 4000000 in
theorem count_past (n : Int) (p : Option Addr) (len cap : Nat) (w : World) (h : n < 0 ∨ 65536 < n ∨ 120 < len) :
    Calls Try.prog 8 #[.int .i64 n, .slice p len cap] w fun e w' => e = .returned (.bool true) ∧ Turn NoBlock w w' := by
  by_cases hn : n < 0 ∨ 65536 < n
  · have c1 := new_no n w hn
    clear h
    rcases hn with hn | hn
    · go_enter Try.func8, Try.ntmps8
      go_wp2_with (first
        | (go_at_call 9; (with_reducible refine c1.mono ?_); rintro x w1 ⟨rfl, rfl⟩)
        | (go_at_call 10; (with_reducible refine (awake_b (Turn.refl NoBlock _)).mono ?_); rintro x w2 ⟨rfl, t2⟩; have K2 := Lib.hid t2; clear t2))
      go_ret
      exact ⟨rfl, K2.out⟩
    · have hn0 : ¬ n < 0 := by omega
      go_enter Try.func8, Try.ntmps8
      go_wp2_with (first
        | (go_at_call 9; (with_reducible refine c1.mono ?_); rintro x w1 ⟨rfl, rfl⟩)
        | (go_at_call 10; (with_reducible refine (awake_b (Turn.refl NoBlock _)).mono ?_); rintro x w2 ⟨rfl, t2⟩; have K2 := Lib.hid t2; clear t2))
      go_ret
      exact ⟨rfl, K2.out⟩
  · obtain ⟨m, rfl⟩ : ∃ m : Nat, n = m := ⟨n.toNat, by omega⟩
    have c1 := new_yes m w (by omega)
    have hl : (120 : Int) < len := by omega
    clear h hn
    go_enter Try.func8, Try.ntmps8
    go_wp2_with (first
      | (go_at_call 9; (with_reducible refine c1.mono ?_); rintro x w1 ⟨rfl, F1, h1, t1, l1⟩; have K1 := Lib.hid t1; clear h1 t1 l1)
      | (go_at_call 10; (with_reducible refine (awake_b K1.out).mono ?_); rintro x w2 ⟨rfl, t2⟩; have K2 := Lib.hid t2; clear t2))
    go_ret
    exact ⟨rfl, K2.out⟩

/-- What the loop holds. -/
structure CSt (w wr : World) (a n i : Nat) (F : Nat → Prop) (L : List Pg) : Prop where
  st : OSt w wr a F L
  inv : Inv i L
  len : L.length = n

theorem Inv.bound {i : Nat} {L : List Pg} (h : Inv i L) (hi : i ≤ 120) (f : Int) : usersL L f < 4611686018427387904 := by
  by_cases hu : usersL L f = 0
  · omega
  · have := h.used hu; omega
theorem CSt.boxed {w wr : World} {a n i : Nat} {F : Nat → Prop} {L : List Pg} (h : CSt w wr a n i F L) (o : Obj) : CSt w (wr.alloc o) a n i F L := ⟨h.st.past ((Turn.refl NoBlock wr).alloc o), h.inv, h.len⟩
theorem CSt.drewN {w wr : World} {a n i : Nat} {F : Nat → Prop} {L : List Pg} (h : CSt w wr a n i F L) (m : Nat) : CSt w (wr.drewN m) a n i F L := ⟨h.st.past ((Turn.refl NoBlock wr).drewN m), h.inv, h.len⟩
theorem c_users {w wr : World} {a n i : Nat} {F : Nat → Prop} {L : List Pg} (h : CSt w wr a n i F L) (f : Int) : Calls Try.prog 24 #[.pointer (some ⟨a, 0, none⟩), .int .i64 f] wr fun e w' => e = .returned (.int .i64 (usersL L f)) ∧ wr = w' := users_any h.st.pool f
theorem c_neg {w wr : World} {a n i : Nat} {F : Nat → Prop} {L : List Pg} (h : CSt w wr a n i F L) : Calls Try.prog 24 #[.pointer (some ⟨a, 0, none⟩), .int .i64 (-1)] wr fun e w' => e = .returned (.int .i64 0) ∧ wr = w' := by
  have c := users_any h.st.pool (-1)
  rwa [users_neg] at c
theorem c_end {w wr : World} {a n i : Nat} {F : Nat → Prop} {L : List Pg} (h : CSt w wr a n i F L) : Calls Try.prog 24 #[.pointer (some ⟨a, 0, none⟩), .int .i64 n] wr fun e w' => e = .returned (.int .i64 0) ∧ wr = w' := by
  have c := users_any h.st.pool n
  rw [← h.len, users_end, h.len] at c
  exact c
theorem c_room {w wr : World} {a n i : Nat} {F : Nat → Prop} {L : List Pg} (h : CSt w wr a n i F L) : Calls Try.prog 27 #[.pointer (some ⟨a, 0, none⟩)] wr fun e w' => e = .returned (.int .i64 ((n : Int) - usedN L)) ∧ ∃ m, w' = wr.drewN m := by
  have c := room_any h.st.pool
  rwa [h.len] at c

set_option maxRecDepth 20000 in
set_option maxHeartbeats 8000000 in
theorem count_walk (n : Nat) (p : Option Addr) (len cap : Nat) (os : Nat → OpW) (w : World) (hn : n ≤ 65536) (hlen : len ≤ 120) (hos : OpsAt w p len os) :
    Calls Try.prog 8 #[.int .i64 n, .slice p len cap] w fun e w' => e = .returned (.bool true) ∧ Turn NoBlock w w' := by
  have c1 := new_yes n w (by omega)
  obtain ⟨a, haw⟩ : ∃ a, w.heap.size = a := ⟨_, rfl⟩
  rw [haw] at c1
  have Haw := Lib.hid haw
  have HO := Lib.hid (fun wr (t : Turn NoBlock w wr) j (hj : j < len) => by
    obtain ⟨b, off, hp, ho⟩ := hos (by omega)
    exact (⟨b, off, hp, fun i hi => by
      have h := ho j hj i hi
      obtain ⟨v, hv⟩ : ∃ v, (os j).cells[i]? = some v := ⟨_, List.getElem?_eq_getElem (by simp [OpW.cells]; omega)⟩
      rw [hv] at h
      exact (t.cell h (fun h => h)).trans hv.symm⟩ : ∃ b off, p = some ⟨b, off, none⟩ ∧ ∀ i, i < 5 → wr.cell? ⟨b, off + j * 5 + i, none⟩ = (os j).cells[i]?))
  clear haw hos
  have Hn := Lib.hid hn
  go_enter Try.func8, Try.ntmps8
  go_wp2_with (first
    | (go_at_call 9; (with_reducible refine c1.mono ?_); rintro x w1 ⟨rfl, F1, h1, t1, l1⟩; have K1 := Lib.hid (show CSt w w1 a n 0 F1 (List.replicate n Pg.none) from ⟨⟨h1, t1, fun j hj => by have := l1 j hj; have := Haw.out; omega⟩, Inv.start n, by simp⟩); clear h1 t1 l1))
  go_loopg [34] len (fun g s wr => ∃ (i : Nat) (F : Nat → Prop) (L : List Pg), g = len - i ∧ i ≤ len ∧ s = .int .i64 i ∧ Hid (CSt w wr a n i F L))
  case atStart => exact ⟨0, F1, _, by omega, by omega, rfl, K1⟩
  case round =>
    obtain ⟨i, F, L, hg, hi, rfl, HA⟩ := hrel
    by_cases hlt : i < len
    · obtain ⟨b, off, rfl, hcs⟩ := HO.out wr HA.out.st.turn i hlt
      have d0 := hcs 0 (by omega)
      have d1 := hcs 1 (by omega)
      have d2 := hcs 2 (by omega)
      have d3 := hcs 3 (by omega)
      have d4 := hcs 4 (by omega)
      clear hcs
      generalize os i = o at *
      obtain ⟨kd, kf, ka, kn, lp, ll, lc, bs⟩ := o
      simp only [OpW.cells, List.getElem?_cons_zero, List.getElem?_cons_succ, Nat.add_zero] at d0 d1 d2 d3 d4
      have HB := Lib.hid (fun ob => HA.out.boxed ob)
      have HU := Lib.hid (fun f => HA.out.inv.bound (by omega) f)
      have hk : kd = 1 ∨ kd = 2 ∨ kd = 3 ∨ kd = 4 ∨ ((kd == 1) = false ∧ (kd == 2) = false ∧ (kd == 3) = false ∧ (kd == 4) = false) := by
        simp only [beq_eq_false_iff_ne, ne_eq]
        omega
      rcases hk with rfl | rfl | rfl | rfl | ⟨k1, k2, k3, k4⟩
      all_goals go_wp2_with (first
        | (go_at_call 11; (with_reducible refine (alloc_any (HB.out _).st.pool).mono ?_); rintro x w4 ⟨rfl, F4, h4, t4, l4⟩; have KX := Lib.hid (show ∃ F' L', CSt w w4 a n (i + 1) F' L' from ⟨F4, _, (HB.out _).st.step h4 t4 l4, HA.out.inv.alloc, by rw [alloc_len]; exact HA.out.len⟩); clear h4 t4 l4)
        | (go_at_call 14; (with_reducible refine (share_any (HB.out _).st.pool _ (HU.out _)).mono ?_); rintro x w4 ⟨rfl, h4, t4⟩; have KX := Lib.hid (show ∃ F' L', CSt w w4 a n (i + 1) F' L' from ⟨F, _, (HB.out _).st.same h4 t4, HA.out.inv.share _, by rw [share_len]; exact HA.out.len⟩); clear h4 t4)
        | (go_at_call 15; (with_reducible refine (rel_any (HB.out _).st.pool _ (HU.out _)).mono ?_); rintro x w4 ⟨rfl, F4, h4, t4, l4⟩; have KX := Lib.hid (show ∃ F' L', CSt w w4 a n (i + 1) F' L' from ⟨F4, _, (HB.out _).st.step h4 t4 l4, HA.out.inv.rel _, by rw [rel_len]; exact HA.out.len⟩); clear h4 t4 l4)
        | (go_at_call 16; (with_reducible refine (own_any (HB.out _).st.pool _ (HU.out _)).mono ?_); rintro x w4 ⟨rfl, F4, h4, t4, l4⟩; have KX := Lib.hid (show ∃ F' L', CSt w w4 a n (i + 1) F' L' from ⟨F4, _, (HB.out _).st.step h4 t4 l4, HA.out.inv.own _, by rw [own_len]; exact HA.out.len⟩); clear h4 t4 l4))
      all_goals
        first
        | (obtain ⟨F5, L5, hK5⟩ := KX.out; clear KX)
        | (have hK5 : CSt w (wr.alloc (.cells #[.int .i64 kd, .int .i64 kf, .int .i64 ka, .int .i64 kn, .slice lp ll lc] 33)) a n (i + 1) F L := ⟨(HB.out _).st, HA.out.inv.mono, HA.out.len⟩; obtain ⟨F5, hF5⟩ : ∃ F5, F = F5 := ⟨_, rfl⟩; obtain ⟨L5, hL5⟩ : ∃ L5, L = L5 := ⟨_, rfl⟩; rw [hF5, hL5] at hK5)
        have K5 := Lib.hid hK5
        clear hK5
        go_loopg [8, 62] 130 (fun g s8 s62 wx => ∃ (k : Nat), g = 130 - k ∧ k ≤ 130 ∧ s8 = .int .i64 (cntP L5 k) ∧ s62 = .int .i64 k ∧ Hid (CSt w wx a n (i + 1) F5 L5))
        case atStart => exact ⟨0, by omega, by omega, rfl, rfl, K5⟩
        case round =>
          obtain ⟨k, hg2, hk, rfl, rfl, HI⟩ := hrel
          by_cases hk2 : k < 130
          · have c24 := c_users HI.out k
            have hc := cnt_succ L5 k
            by_cases hu : 0 < usersL L5 k
            · rw [if_pos hu] at hc
              have hu2 : (0 : Int) < (usersL L5 k : Int) := by omega
              have hle := cnt_le L5 k
              have HC := Lib.hid hc
              clear hc hu
              generalize usersL L5 k = u at *
              generalize cntP L5 k = q at *
              have hle2 : (q : Int) ≤ 130 := by omega
              go_wp2_with (go_at_call 24; (with_reducible refine c24.mono ?_); rintro x w5 ⟨rfl, rfl⟩)
              go_roundg (130 - (k + 1))
              case measure => omega
              case rel => exact ⟨k + 1, rfl, by omega, by rw [HC.out]; go_num, by go_num, HI⟩
            · rw [if_neg hu] at hc
              have hu3 : usersL L5 k = 0 := by omega
              rw [hu3] at c24
              have HC := Lib.hid hc
              clear hc hu hu3
              generalize cntP L5 k = q at *
              go_wp2_with (go_at_call 24; (with_reducible refine c24.mono ?_); rintro x w5 ⟨rfl, rfl⟩)
              go_roundg (130 - (k + 1))
              case measure => omega
              case rel => exact ⟨k + 1, rfl, by omega, by rw [HC.out], by go_num, HI⟩
          · obtain rfl : k = 130 := by omega
            have e := cnt_all HI.out.inv 130 (by omega)
            rw [e]
            have hul := used_len L5
            rw [HI.out.len] at hul
            have c25 := Lib.hid (used_any HI.out.st.pool)
            have c27 := Lib.hid (fun m => c_room (HI.out.drewN m))
            generalize usedN L5 = q at *
            have hqn : (q : Int) ≤ (n : Int) := by omega
            have hnn : (n : Int) ≤ 65536 := by have := Hn.out; omega
            clear e hul
            go_wp2_with (first
              | (go_at_call 25; (with_reducible refine c25.out.mono ?_); rintro x w6 ⟨rfl, d6, rfl⟩)
              | (go_at_call 27; (with_reducible refine (c27.out _).mono ?_); rintro x w7 ⟨rfl, d7, rfl⟩; have K7 := Lib.hid (HI.out.drewN (d6 + d7)))
              | (go_at_call 24; (with_reducible refine (c_neg K7.out).mono ?_); rintro x w8 ⟨rfl, rfl⟩)
              | (go_at_call 24; (with_reducible refine (c_end K7.out).mono ?_); rintro x w8 ⟨rfl, rfl⟩))
            go_roundg (len - (i + 1))
            case measure => omega
            case rel => exact ⟨i + 1, F5, L5, rfl, by omega, by go_num, K7⟩
    · obtain rfl : i = len := by omega
      go_wp2_with (go_at_call 10; (with_reducible refine (awake_b HA.out.st.turn).mono ?_); rintro x w9 ⟨rfl, t9⟩; have K9 := Lib.hid t9; clear t9)
      go_ret
      exact ⟨rfl, K9.out⟩
end Go.Proofs.Ytkihibpmpebejaa
