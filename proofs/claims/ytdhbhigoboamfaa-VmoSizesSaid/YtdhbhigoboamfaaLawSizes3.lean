/-
  VmoSizes where both sizes are right and what is written is within.
-/
import Derived.Test.YtdhbhigoboamfaaLawSizes2
namespace Go.Proofs.Ytdhbhigoboamfaa
open Go.ChangeShapes Go.WideShapes Go.ChangeAt Go.RowKit

section
variable {w : World} {s : Nat} {r : Rep} {M : Mod} {U : Nat} {C : Nat → UInt8} {o : Ob}
theorem sz_read1 (h : SMem w s r M) (z : Sz M U C o) {N : Nat} (hN : N ≤ 200) (hNU : N ≤ U) (hU : U ≤ 4294967296) (bs : List UInt8) (hbs : ((List.range N).map fun j => C j) = bs.take N ∧ (bs.take N).length = N) :
    Calls Try.prog 18 #[.pointer (some ⟨s, 0, none⟩), .int .i64 1, .int .i64 0, .int .i64 N] w fun e w' => ∃ p c, e = .returned (.tuple #[.slice p N c, .int .i64 0]) ∧ Src w' (.slice p N c) (bs.take N) ∧ Turn NoBlock w w' := by
  have c : Calls Try.prog 18 #[.pointer (some ⟨s, 0, none⟩), .int .i64 1, .int .i64 0, .int .i64 N] w _ := sz_read h z 0 N (by omega) (by omega) hU
  refine Calls.mono c ?_
  rintro e w' ⟨u, rfl, hB, t⟩
  rw [show ((List.range N).map fun j => C (0 + j)) = bs.take N from by rw [← hbs.1]; exact List.map_congr_left (fun j _ => by rw [Nat.zero_add])] at hB
  obtain ⟨p, c, rfl⟩ := own_slice hB
  have hs := hB.src
  rw [hbs.2] at hs ⊢
  exact ⟨p, c, rfl, hs, t⟩
theorem sz_big (h : SMem w s r M) (z : Sz M U C o) : Calls Try.prog 28 #[.pointer (some ⟨s, 0, none⟩), .int .i64 1, .int .i64 1048576] w fun e w' => e = .returned (.int .i64 0) ∧ ∃ r' M' o', (SMem w' s r' M' ∧ Sz M' 1048576 (fun x => if x < 1048576 then C x else 0) o') ∧ VNext w s r w' r' :=
  sz_resize h z 1048576 (by omega) (by omega)
theorem sz_read2 (h : SMem w s r M) (z : Sz M 1048576 (fun x => if x < 1048576 then C x else 0) o) (N : Nat) (hN : N ≤ 200) (hC : ∀ j, C (N + j) = 0) :
    Calls Try.prog 18 #[.pointer (some ⟨s, 0, none⟩), .int .i64 1, .int .i64 N, .int .i64 10] w fun e w' => ∃ g c, e = .returned (.tuple #[.slice (some ⟨g, 0, none⟩) 10 c, .int .i64 0]) ∧ (∀ j, j < 10 → w'.cell? ⟨g, j, none⟩ = some (.int .u8 0)) ∧ Turn NoBlock w w' := by
  have c : Calls Try.prog 18 #[.pointer (some ⟨s, 0, none⟩), .int .i64 1, .int .i64 N, .int .i64 10] w _ := sz_read h z N 10 (by omega) (by omega) (by decide)
  refine Calls.mono c ?_
  rintro e w' ⟨u, rfl, hB, t⟩
  have hz : ((List.range 10).map fun j => (if N + j < 1048576 then C (N + j) else 0)) = List.replicate 10 (0 : UInt8) := by
    apply List.ext_getElem?
    intro j
    by_cases hj : j < 10
    · rw [List.getElem?_map, List.getElem?_range hj, List.getElem?_replicate, if_pos hj]
      simp only [Option.map_some]
      rw [hC]
      split <;> rfl
    · rw [List.getElem?_eq_none (by simp; omega), List.getElem?_eq_none (by simp; omega)]
  rw [hz] at hB
  obtain ⟨g, c, rfl, -, -⟩ := own_shape hB (by decide)
  refine ⟨g, c, rfl, fun j hj => ?_, t⟩
  have hj2 := hB
  unfold Byts at hj2
  rw [hj2.cellAt j (by simpa using hj)]
  unfold bcells
  rw [List.getElem?_map, List.getElem?_replicate, if_pos hj]
  rfl
end
theorem cS_read (bs : List UInt8) (U2 N : Nat) (h1 : N ≤ bs.length) (h2 : N ≤ U2) : ((List.range N).map fun j => (if j < U2 then (if j < bs.length then bs.getD j 0 else 0) else 0)) = bs.take N ∧ (bs.take N).length = N := by
  refine ⟨?_, by rw [List.length_take]; omega⟩
  rw [← bs_take bs N h1]
  apply List.map_congr_left
  intro j hj
  have := List.mem_range.1 hj
  rw [if_pos (by omega), if_pos (by omega)]
theorem cS_zero (bs : List UInt8) (U2 N : Nat) (h : N = bs.length ∨ N = U2) (j : Nat) : (if N + j < U2 then (if N + j < bs.length then bs.getD (N + j) 0 else 0) else 0) = (0 : UInt8) := by
  rcases h with h | h
  · rw [if_neg (show ¬ N + j < bs.length by omega)]
    split <;> rfl
  · rw [if_neg (by omega)]

set_option maxRecDepth 20000 in
set_option maxHeartbeats 8000000 in
theorem sizes_ok (n m : Nat) (p : Option Addr) (len cap : Nat) (bs : List UInt8) (w : World) (hl : bs.length = len) (h : bs.length ≤ 200) (hn : n ≤ 4294967296) (hin : bs.length ≤ upS n) (hD : ArgB w (.slice p bs.length cap) bs) (hm : m ≤ 4294967296) :
    Calls Try.prog 5 #[.int .i64 n, .int .i64 m, .slice p len cap] w fun e w' => e = .returned (.bool true) ∧ Turn NoBlock w w' := by
  have c1 : Calls Try.prog 14 #[.int .i64 100, .int .i64 2] w _ := vnew_yes 100 2 w (by omega) (by omega)
  subst hl
  have h1 : ¬ (200 : Int) < (bs.length : Int) := by omega
  have g1 : ¬ (n : Int) < 0 := by omega
  have g2 : ¬ (4294967296 : Int) < n := by omega
  have hU : upS n ≤ 4294967296 := by unfold upS; omega
  have HZ := Lib.hid (z0_sz (upS n) hU)
  have HC := Lib.hid (fun (w' : World) s r (hm : SMem w' s r (M0 100 2)) => sz_create hm (n : Int) (by omega) (by omega))
  have HW := Lib.hid (fun (w' : World) s r (k : VSt w w' s r (Z0 (upS n))) => sz_write k.mem HZ.out (.slice p bs.length cap) bs (hD.srcF k) h hin (show 10 ≤ roomN (List.replicate 100 Pg.none) by decide +kernel) (Nat.zero_le _))
  have e1 : ((n : Int) + 63).tdiv 64 = ((((n + 63) / 64 : Nat)) : Int) := by rw [Int.tdiv_eq_ediv_of_nonneg (by omega)]; omega
  have e2 : ((n : Int) + 63) / 64 = ((((n + 63) / 64 : Nat)) : Int) := by omega
  have e3 : ((((n + 63) / 64 : Nat)) : Int) * 64 = (upS n : Int) := by rw [upS_eq]; omega
  have w1' : IntKind.i64.wrap ((n : Int) + 63) = (n : Int) + 63 := wrap_nat (n + 63) (by omega)
  have hUI : (upS n : Int) ≤ 4294967296 := by omega
  have ho : (bs.length : Int) ≤ (upS n : Int) := by omega
  generalize hq : (n + 63) / 64 = Q at *
  have hQ : (Q : Int) ≤ 67108864 := by omega
  have hnI : (n : Int) ≤ 4294967296 := by omega
  generalize upS (n : Int) = U at *
  have HD := Lib.hid (And.intro hD h)
  have hV : upS m ≤ 4294967296 := by unfold upS; omega
  have HR := Lib.hid (fun (w' : World) s r M o C (hmm : SMem w' s r M) (z : Sz M U C o) => sz_resize hmm z (m : Int) (by omega) (by omega))
  have j1 : ((m : Int) + 63).tdiv 64 = ((((m + 63) / 64 : Nat)) : Int) := by rw [Int.tdiv_eq_ediv_of_nonneg (by omega)]; omega
  have j2 : ((m : Int) + 63) / 64 = ((((m + 63) / 64 : Nat)) : Int) := by omega
  have j3 : ((((m + 63) / 64 : Nat)) : Int) * 64 = (upS m : Int) := by rw [upS_eq]; omega
  have k1 : ¬ (m : Int) < 0 := by omega
  have k2 : ¬ (4294967296 : Int) < (m : Int) := by omega
  have hVI : (upS m : Int) ≤ 4294967296 := by omega
  generalize hq2 : (m + 63) / 64 = Q2 at *
  have hQ2 : (Q2 : Int) ≤ 67108864 := by omega
  have hmI : (m : Int) ≤ 4294967296 := by omega
  generalize upS (m : Int) = V at *
  rcases Nat.lt_or_ge V bs.length with hc | hc
  · have hcI : (V : Int) < (bs.length : Int) := by omega
    obtain ⟨u, z1, z2⟩ := arg_cut hD V (by omega)
    have HU := Lib.hid z2
    have HB := Lib.hid (show V ≤ 200 ∧ V ≤ V ∧ V ≤ 4294967296 by omega)
    have HBS := Lib.hid (cS_read bs V V (by omega) (Nat.le_refl _))
    have HZE := Lib.hid (cS_zero bs V V (.inr rfl))
    clear h hin hU hq hn hD hm hV hq2 hc z2
    go_enter Try.func5, Try.ntmps5
    go_wp2_with (first
        | (go_at_call 14; (with_reducible refine c1.mono ?_); rintro x w1 ⟨s, r, rfl, m1, t1, f1⟩; have K1 := Lib.hid (show VSt w w1 s r (M0 100 2) from ⟨m1, t1, f1⟩); clear m1 t1 f1)
        | (go_at_call 16; (with_reducible refine (HC.out _ _ _ K1.out.mem).mono ?_); rintro x w2 ⟨rfl, r2, m2, k2⟩; have K2 := Lib.hid (K1.out.next m2 k2); clear m2 k2)
        | (go_at_call 25; (with_reducible refine (sz_info K2.out.mem).mono ?_); rintro x w3 ⟨rfl, t3⟩; have K3 := Lib.hid ((K2.out.past t3).past ((Turn.refl NoBlock _).alloc (.cells #[.int .i64 (U : Int), .int .i64 0, .int .i64 0, .int .i64 0, .bool false, .bool false] 45))); clear t3)
        | (go_at_call 17; (with_reducible refine (HW.out _ _ _ K3.out).mono ?_); rintro x w4 ⟨rfl, r4, M4, o4, ⟨m4, z4⟩, k4⟩; have K4 := Lib.hid (K3.out.next m4 k4); have Z4 := Lib.hid z4; clear m4 k4 z4)
        | (go_at_call 28; (with_reducible refine (HR.out _ _ _ _ _ _ K4.out.mem Z4.out).mono ?_); rintro x w5 ⟨rfl, r5, M5, o5, ⟨m5, z5⟩, k5⟩; have K5 := Lib.hid (K4.out.next m5 k5); have Z5 := Lib.hid z5; clear m5 k5 z5)
        | (go_at_call 18; (with_reducible refine (sz_read1 K5.out.mem Z5.out (N := V) HB.out.1 HB.out.2.1 HB.out.2.2 bs HBS.out).mono ?_); rintro x w6 ⟨p6, c6, rfl, b6, t6⟩; have K6 := Lib.hid (K5.out.past t6); have S6 := Lib.hid b6; clear b6 t6)
        | (go_at_call 21; (with_reducible refine (same_any _ _ _ _ S6.out (HU.out _ K6.out.turn)).mono ?_); rintro x w6' ⟨rfl, rfl⟩)
        | (go_at_call 28; (with_reducible refine (sz_big K6.out.mem Z5.out).mono ?_); rintro x w7 ⟨rfl, r7, M7, o7, ⟨m7, z7⟩, k7⟩; have K7 := Lib.hid (K6.out.next m7 k7); have Z7 := Lib.hid z7; clear m7 k7 z7)
        | (go_at_call 18; (with_reducible refine (sz_read2 K7.out.mem Z7.out V HB.out.1 HZE.out).mono ?_); rintro x w8 ⟨g8, c8, rfl, y8, t8⟩; have K8 := Lib.hid (K7.out.past t8); have Y8 := Lib.hid y8; clear t8 y8))
    go_loopg [159] 10 (fun g s159 wr => ∃ (k : Nat), g = 10 - k ∧ k ≤ 10 ∧ s159 = .int .i64 k ∧ w8 = wr)
    case atStart => exact ⟨0, rfl, by omega, rfl, rfl⟩
    case round =>
      obtain ⟨k, hg, hk, rfl, rfl⟩ := hrel
      by_cases hlt : k < 10
      · have d := Y8.out k hlt
        have hkI : (k : Int) < 10 := by omega
        have hkN : (0 : Int) ≤ (k : Int) := by omega
        have q1 : ¬ (V : Int) + (k : Int) < (V : Int) := by omega
        have hbV : (V : Int) ≤ 200 := by have := HB.out.1; omega
        rcases Nat.lt_or_ge k 10 with _ | _
        all_goals
          go_wp2
          go_roundg (10 - (k + 1))
          case measure => omega
          case rel => exact ⟨k + 1, rfl, by omega, by go_num, rfl⟩
      · obtain rfl : k = 10 := by omega
        go_wp2_with (go_at_call 15; (with_reducible refine (awake8 _).mono ?_); rintro x w9 ⟨rfl, t9⟩; have K9 := Lib.hid (K8.out.turn.trans t9 (fun _ h => .inl h)); clear t9)
        go_ret
        exact ⟨rfl, K9.out⟩
  · have hcI : (bs.length : Int) ≤ (V : Int) := by omega
    obtain ⟨u, z1, z2⟩ := arg_cut hD bs.length (Nat.le_refl _)
    have HU := Lib.hid z2
    have HB := Lib.hid (show bs.length ≤ 200 ∧ bs.length ≤ V ∧ V ≤ 4294967296 by omega)
    have HBS := Lib.hid (cS_read bs V bs.length (Nat.le_refl _) hc)
    have HZE := Lib.hid (cS_zero bs V bs.length (.inl rfl))
    clear h hin hU hq hn hD hm hV hq2 hc z2
    go_enter Try.func5, Try.ntmps5
    go_wp2_with (first
        | (go_at_call 14; (with_reducible refine c1.mono ?_); rintro x w1 ⟨s, r, rfl, m1, t1, f1⟩; have K1 := Lib.hid (show VSt w w1 s r (M0 100 2) from ⟨m1, t1, f1⟩); clear m1 t1 f1)
        | (go_at_call 16; (with_reducible refine (HC.out _ _ _ K1.out.mem).mono ?_); rintro x w2 ⟨rfl, r2, m2, k2⟩; have K2 := Lib.hid (K1.out.next m2 k2); clear m2 k2)
        | (go_at_call 25; (with_reducible refine (sz_info K2.out.mem).mono ?_); rintro x w3 ⟨rfl, t3⟩; have K3 := Lib.hid ((K2.out.past t3).past ((Turn.refl NoBlock _).alloc (.cells #[.int .i64 (U : Int), .int .i64 0, .int .i64 0, .int .i64 0, .bool false, .bool false] 45))); clear t3)
        | (go_at_call 17; (with_reducible refine (HW.out _ _ _ K3.out).mono ?_); rintro x w4 ⟨rfl, r4, M4, o4, ⟨m4, z4⟩, k4⟩; have K4 := Lib.hid (K3.out.next m4 k4); have Z4 := Lib.hid z4; clear m4 k4 z4)
        | (go_at_call 28; (with_reducible refine (HR.out _ _ _ _ _ _ K4.out.mem Z4.out).mono ?_); rintro x w5 ⟨rfl, r5, M5, o5, ⟨m5, z5⟩, k5⟩; have K5 := Lib.hid (K4.out.next m5 k5); have Z5 := Lib.hid z5; clear m5 k5 z5)
        | (go_at_call 18; (with_reducible refine (sz_read1 K5.out.mem Z5.out (N := bs.length) HB.out.1 HB.out.2.1 HB.out.2.2 bs HBS.out).mono ?_); rintro x w6 ⟨p6, c6, rfl, b6, t6⟩; have K6 := Lib.hid (K5.out.past t6); have S6 := Lib.hid b6; clear b6 t6)
        | (go_at_call 21; (with_reducible refine (same_any _ _ _ _ S6.out (HU.out _ K6.out.turn)).mono ?_); rintro x w6' ⟨rfl, rfl⟩)
        | (go_at_call 28; (with_reducible refine (sz_big K6.out.mem Z5.out).mono ?_); rintro x w7 ⟨rfl, r7, M7, o7, ⟨m7, z7⟩, k7⟩; have K7 := Lib.hid (K6.out.next m7 k7); have Z7 := Lib.hid z7; clear m7 k7 z7)
        | (go_at_call 18; (with_reducible refine (sz_read2 K7.out.mem Z7.out bs.length HB.out.1 HZE.out).mono ?_); rintro x w8 ⟨g8, c8, rfl, y8, t8⟩; have K8 := Lib.hid (K7.out.past t8); have Y8 := Lib.hid y8; clear t8 y8))
    go_loopg [159] 10 (fun g s159 wr => ∃ (k : Nat), g = 10 - k ∧ k ≤ 10 ∧ s159 = .int .i64 k ∧ w8 = wr)
    case atStart => exact ⟨0, rfl, by omega, rfl, rfl⟩
    case round =>
      obtain ⟨k, hg, hk, rfl, rfl⟩ := hrel
      by_cases hlt : k < 10
      · have d := Y8.out k hlt
        have hkI : (k : Int) < 10 := by omega
        have hkN : (0 : Int) ≤ (k : Int) := by omega
        have hbl : (bs.length : Int) ≤ 200 := by have := HB.out.1; omega
        have q2 : ¬ (bs.length : Int) + (k : Int) < (bs.length : Int) := by omega
        by_cases q3 : (bs.length : Int) + (k : Int) < (V : Int)
        all_goals
          go_wp2
          go_roundg (10 - (k + 1))
          case measure => omega
          case rel => exact ⟨k + 1, rfl, by omega, by go_num, rfl⟩
      · obtain rfl : k = 10 := by omega
        go_wp2_with (go_at_call 15; (with_reducible refine (awake8 _).mono ?_); rintro x w9 ⟨rfl, t9⟩; have K9 := Lib.hid (K8.out.turn.trans t9 (fun _ h => .inl h)); clear t9)
        go_ret
        exact ⟨rfl, K9.out⟩
end Go.Proofs.Ytdhbhigoboamfaa
