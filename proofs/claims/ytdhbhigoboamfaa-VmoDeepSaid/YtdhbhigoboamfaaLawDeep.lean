/-
  The statement VmoDeep answers true at all numbers and all bytes.
-/
import Derived.Test.YtdhbhigoboamfaaVDeepM
namespace Go.Proofs.Ytdhbhigoboamfaa
open Go.ChangeShapes Go.WideShapes Go.ChangeAt Go.RowKit

section
variable {w : World} {s : Nat} {r : Rep}
theorem dp_create (h : SMem w s r (M0 40 40)) : Calls Try.prog 16 #[.pointer (some ⟨s, 0, none⟩), .int .i64 1920] w fun e w' => e = .returned (.tuple #[.int .i64 1, .int .i64 0]) ∧ ∃ r', SMem w' s r' (DM 0) ∧ VNext w s r w' r' := by
  have c := create_yes h 1920 (by decide) (by decide) (by decide)
  have e : addM (M0 40 40) (newOb (upS 1920) 0 0 0) = DM 0 := by
    unfold addM DM M0
    congr 1
    funext i
    unfold updI dO
    by_cases h : i = 1
    · subst h; rfl
    · rw [if_neg (by simpa using h), if_neg (by omega)]
  rw [e] at c
  exact c
theorem dk_fit {k : Nat} (hk : k ≤ 16) : fit ((k : Int) + 1) := by unfold fit; omega
theorem dp_info {k : Nat} (h : SMem w s r (DM k)) (hk : k ≤ 16) : Calls Try.prog 25 #[.pointer (some ⟨s, 0, none⟩), .int .i64 ((k : Int) + 1)] w fun e w' => e = .returned (.tuple #[.agg #[.int .i64 ((1920 - 64 * k : Nat) : Int), .int .i64 (k : Int), .int .i64 0, .int .i64 0, .bool (decide (0 < k)), .bool false], .bool true]) ∧ Turn NoBlock w w' := by
  have c := info_yes h ((k : Int) + 1) (dk_fit hk) (dO_at k k (Nat.le_refl _))
  unfold InfoOf dOb at c
  simp only [Nat.lt_irrefl, if_false] at c
  exact c
theorem d_win {k : Nat} (M : Mod) (n : Int) (hO : M.O ((k : Int) + 1) = some (dOb k k)) (t : Int) (ht : t % 64 = 0) (h0 : 0 ≤ t) (hn : n % 64 = 0) (hn0 : 0 ≤ n) (hs : t + n ≤ ((1920 - 64 * k : Nat) : Int)) : winS M ((k : Int) + 1) t n = 0 := by
  unfold winS
  rw [if_neg (fun e => e (find_of hO rfl)), if_neg (by omega), hO]
  show (if t + n ≤ ((1920 - 64 * k : Nat) : Int) then (0 : Int) else -14) = 0
  rw [if_pos hs]
theorem dp_slice {k : Nat} (h : SMem w s r (DM k)) (hk : k < 16) (z : Int) (hz : z = ((1920 - 64 * k : Nat) : Int) - 64) : Calls Try.prog 20 #[.pointer (some ⟨s, 0, none⟩), .int .i64 ((k : Int) + 1), .int .i64 64, .int .i64 z] w fun e w' => e = .returned (.tuple #[.int .i64 ((k : Int) + 1 + 1), .int .i64 0]) ∧ ∃ r', SMem w' s r' (DM (k + 1)) ∧ VNext w s r w' r' := by
  have hO : (DM k).O ((k : Int) + 1) = some (dOb k k) := dO_at k k (Nat.le_refl _)
  have hw := d_win (DM k) z hO 64 (by decide) (by decide) (by omega) (by omega) (by omega)
  have hs : sliceS (DM k) ((k : Int) + 1) 64 z = 0 := by
    unfold sliceS
    rw [if_neg (fun e => e hw), hO]
    show (if k = 16 then (-2 : Int) else if 40 ≤ k + 1 then -4 else 0) = 0
    rw [if_neg (by omega), if_neg (by omega)]
  have c := slice_yes h (d_chain k (by omega)) ((k : Int) + 1) 64 z (dk_fit (by omega)) hO hs (show 40 ≤ 65536 by decide) (show k + 1 < 4611686018427387904 by omega) (by unfold dOb; simp) (by unfold dOb; simp)
  rw [hz, d_step k (by omega)] at c
  rw [hz]
  exact c
theorem dp_deep {k : Nat} (h : SMem w s r (DM k)) (hk : k = 16) (z : Int) (hz : z = ((1920 - 64 * k : Nat) : Int) - 64) : Calls Try.prog 20 #[.pointer (some ⟨s, 0, none⟩), .int .i64 ((k : Int) + 1), .int .i64 64, .int .i64 z] w fun e w' => e = .returned (.tuple #[.int .i64 0, .int .i64 (-2)]) ∧ Turn NoBlock w w' := by
  have hO : (DM k).O ((k : Int) + 1) = some (dOb k k) := dO_at k k (Nat.le_refl _)
  have hw := d_win (DM k) z hO 64 (by decide) (by decide) (by omega) (by omega) (by omega)
  have hs : sliceS (DM k) ((k : Int) + 1) 64 z = -2 := by
    unfold sliceS
    rw [if_neg (fun e => e hw), hO]
    show (if k = 16 then (-2 : Int) else if 40 ≤ k + 1 then -4 else 0) = -2
    rw [if_pos hk]
  have c := slice_no h (d_chain k (by omega)) ((k : Int) + 1) 64 z (dk_fit (by omega)) (by unfold fit; omega) (by unfold fit; omega) (by rw [hs]; decide)
  rwa [hs] at c
theorem dp_write {k : Nat} (h : SMem w s r (DM k)) (hk : k ≤ 16) (v : Value) (bs : List UInt8) (hv : SrcF w s r v bs) (hl : bs.length ≤ 64) : Calls Try.prog 17 #[.pointer (some ⟨s, 0, none⟩), .int .i64 ((k : Int) + 1), .int .i64 0, v] w fun e w' => e = .returned (.int .i64 0) ∧ ∃ r', SMem w' s r' (DW k bs) ∧ VNext w s r w' r' := by
  have hO : (DM k).O ((k : Int) + 1) = some (dOb k k) := dO_at k k (Nat.le_refl _)
  have c := write8_ok h (d_chain k hk) (show k + 1 < 4611686018427387904 by omega) (dk_fit hk) hO rfl 0 v bs hv (by omega) (show 0 + bs.length ≤ 1920 - 64 * k by omega) (j := 1) (q := dOb k 0) (t' := 64 * k)
    (show rootI (dO k) k ((k : Int) + 1) ((0 : Nat) : Int) = _ from by rw [d_root k k (Nat.le_refl _)]; congr 1; omega) (dO_at k 0 (Nat.zero_le _)) (by omega) (few_start 40) (show 0 ≤ 1152921504606846976 by omega) (by
      have h1 : lackN ⟨(DM k).L, (dOb k 0).pgs, (dOb k 0).cnt⟩ (partsL (64 * k) bs.length) ≤ 1 := by
        refine Nat.le_trans (lackN_le _ _) ?_
        rw [parts_one k _ hl]
        split <;> simp
      have h2 : roomN (DM k).L = 40 := by show roomN (List.replicate 40 Pg.none) = 40; decide +kernel
      omega)
  exact c
theorem dp_read {k : Nat} {bs : List UInt8} (h : SMem w s r (DW k bs)) (hk : k ≤ 16) (hl : bs.length ≤ 64) : Calls Try.prog 18 #[.pointer (some ⟨s, 0, none⟩), .int .i64 1, .int .i64 (64 * (k : Int)), .int .i64 (bs.length : Int)] w fun e w' => ∃ p c, e = .returned (.tuple #[.slice p bs.length c, .int .i64 0]) ∧ Src w' (.slice p bs.length c) bs ∧ Turn NoBlock w w' := by
  have c := read8_ok h (dw_chain k bs hk) (dw_held k bs hl) (show k + 1 < 4611686018427387904 by omega) (i := 1) (by unfold fit; omega) (dw_at k bs) rfl (64 * k) bs.length (by omega) (show 64 * k + bs.length ≤ 1920 - 64 * 0 by omega) (j := 1) (t' := 64 * k) rfl (dw_at k bs) (by omega)
  refine Calls.mono c ?_
  rintro e w' ⟨u, rfl, hB, hf, t⟩
  rw [show (⟨(DW k bs).L, ({ dOb k 0 with pgs := (DS k bs).g, cnt := (DS k bs).c } : Ob).pgs, ({ dOb k 0 with pgs := (DS k bs).g, cnt := (DS k bs).c } : Ob).cnt⟩ : PL) = ⟨(DW k bs).L, (DS k bs).g, (DS k bs).c⟩ from rfl, dw_read k bs hl] at hB
  obtain ⟨p, c, rfl⟩ := own_slice hB
  exact ⟨p, c, rfl, hB.src, t⟩
theorem dp_snap {k : Nat} {bs : List UInt8} (h : SMem w s r (DW k bs)) (hk : k ≤ 16) (h0 : 0 < k) : Calls Try.prog 19 #[.pointer (some ⟨s, 0, none⟩), .int .i64 ((k : Int) + 1), .int .i64 0, .int .i64 64] w fun e w' => e = .returned (.tuple #[.int .i64 0, .int .i64 (-2)]) ∧ w = w' :=
  snap_slice h (dw_chain k bs hk) ((k : Int) + 1) 0 64 (dk_fit hk) (dw_other k k bs (Nat.le_refl _) h0) (d_win (DW k bs) 64 (dw_other k k bs (Nat.le_refl _) h0) 0 (by decide) (by decide) (by decide) (by decide) (by omega)) h0
end

set_option maxRecDepth 20000 in
set_option maxHeartbeats 4000000 in
theorem deep_past (d : Int) (p : Option Addr) (len cap : Nat) (w : World) (h : d < 1 ∨ 20 < d ∨ 64 < len) :
    Calls Try.prog 7 #[.int .i64 d, .slice p len cap] w fun e w' => e = .returned (.bool true) ∧ Turn NoBlock w w' := by
  have c1 : Calls Try.prog 14 #[.int .i64 40, .int .i64 40] w _ := vnew_yes 40 40 w (by omega) (by omega)
  have hcs : d < 1 ∨ (¬ d < 1 ∧ 20 < d) ∨ (¬ d < 1 ∧ ¬ 20 < d ∧ (64 : Int) < len) := by omega
  clear h
  rcases hcs with h1 | ⟨h1, h2⟩ | ⟨h1, h2, h3⟩
  all_goals
    go_enter Try.func7, Try.ntmps7
    go_wp2_with (first
      | (go_at_call 14; (with_reducible refine c1.mono ?_); rintro x w1 ⟨s, r, rfl, m1, t1, f1⟩; have K1 := Lib.hid t1; clear m1 t1 f1)
      | (go_at_call 15; (with_reducible refine (awake8 _).mono ?_); rintro x w2 ⟨rfl, t2⟩; have K2 := Lib.hid (K1.out.trans t2 (fun _ h => .inl h)); clear t2))
    go_ret
    exact ⟨rfl, K2.out⟩

set_option maxRecDepth 20000 in
set_option maxHeartbeats 8000000 in
theorem deep_walk (m : Nat) (p : Option Addr) (len cap : Nat) (bs : List UInt8) (w : World) (h1 : 1 ≤ m) (h2 : m ≤ 20) (hl : bs.length = len) (h64 : len ≤ 64) (hD : ArgB w (.slice p len cap) bs) :
    Calls Try.prog 7 #[.int .i64 m, .slice p len cap] w fun e w' => e = .returned (.bool true) ∧ Turn NoBlock w w' := by
  have c1 : Calls Try.prog 14 #[.int .i64 40, .int .i64 40] w _ := vnew_yes 40 40 w (by omega) (by omega)
  subst hl
  have HD := Lib.hid hD
  have HBl := Lib.hid h64
  have g1 : ¬ (m : Int) < 1 := by omega
  have g2 : ¬ (20 : Int) < (m : Int) := by omega
  have g3 : ¬ (64 : Int) < (bs.length : Int) := by omega
  have HM := Lib.hid (And.intro h1 h2)
  clear hD
  go_enter Try.func7, Try.ntmps7
  go_wp2_with (first
    | (go_at_call 14; (with_reducible refine c1.mono ?_); rintro x w1 ⟨s, r, rfl, m1, t1, f1⟩; have K1 := Lib.hid (show VSt w w1 s r (M0 40 40) from ⟨m1, t1, f1⟩); clear m1 t1 f1)
    | (go_at_call 16; (with_reducible refine (dp_create K1.out.mem).mono ?_); rintro x w2 ⟨rfl, r2, m2, k2⟩; have K2 := Lib.hid (K1.out.next m2 k2); clear m2 k2))
  go_loopg [8, 9, 48] m (fun g s8 s9 s48 wr => ∃ (k : Nat) (r : Rep), g = m - k ∧ k ≤ m ∧ k ≤ 16 ∧ s8 = .int .i64 ((k : Int) + 1) ∧ s9 = .int .i64 k ∧ s48 = .int .i64 k ∧ Hid (VSt w wr s r (DM k)))
  case atStart => exact ⟨0, r2, rfl, by omega, by omega, rfl, rfl, rfl, K2.out⟩
  case round =>
    obtain ⟨k, r3, hg, hk, hk16, rfl, rfl, rfl, HA⟩ := hrel
    have HK := Lib.hid hk16
    by_cases hlt : k < m
    · have hkI : (k : Int) < (m : Int) := by omega
      obtain ⟨z, hz⟩ : ∃ z : Nat, z = 1920 - 64 * k := ⟨_, rfl⟩
      have hz1 : (64 : Int) ≤ (z : Int) := by omega
      have hz2 : (z : Int) ≤ 1920 := by omega
      have ci := dp_info HA.out.mem hk16
      rw [← hz] at ci
      have HZ := Lib.hid (show (z : Int) - 64 = ((1920 - 64 * k : Nat) : Int) - 64 by omega)
      have hzw : IntKind.i64.wrap ((z : Int) - 64) = (z : Int) - 64 := by
        rw [show (z : Int) - 64 = ((z - 64 : Nat) : Int) by omega]
        exact wrap_nat _ (by omega)
      clear hz
      by_cases he : k = 16
      · have HE := Lib.hid he
        have hb : ((k : Int) == 16) = true := by simp [he]
        clear he
        go_wp2_with (first
          | (go_at_call 25; (with_reducible refine ci.mono ?_); rintro x w4 ⟨rfl, t4⟩; have K4 := Lib.hid ((HA.out.past t4).past ((Turn.refl NoBlock _).alloc (.cells #[.int .i64 (z : Int), .int .i64 (k : Int), .int .i64 0, .int .i64 0, .bool (decide (0 < k)), .bool false] 45))); clear t4)
          | (go_at_call 20; (with_reducible refine (dp_deep K4.out.mem HE.out _ HZ.out).mono ?_); rintro x w5 ⟨rfl, t5⟩; have K5 := Lib.hid (K4.out.past t5); clear t5))
        have HK2 := Lib.hid (And.intro HK.out (show 0 < k by have := HE.out; omega))
        have hkJ : (k : Int) ≤ 16 := by have := HE.out; omega
        go_wp2_with (first
          | (go_at_call 15; (with_reducible refine (awake8 _).mono ?_); rintro x w9 ⟨rfl, t9⟩; have K9 := Lib.hid (K8.out.turn.trans t9 (fun _ h => .inl h)); clear t9)
          | (go_at_call 21; (with_reducible refine (same_any _ _ _ _ S7.out (HD.out.src K8.out.turn)).mono ?_); rintro x w8 ⟨rfl, rfl⟩)
          | (go_at_call 19; (with_reducible refine (dp_snap K7.out.mem HK2.out.1 HK2.out.2).mono ?_); rintro x w8' ⟨rfl, rfl⟩; have K8 := Lib.hid K7.out)
          | (go_at_call 18; (with_reducible refine (dp_read K6.out.mem HK.out HBl.out).mono ?_); rintro x w7 ⟨p7, c7, rfl, b7, t7⟩; have K7 := Lib.hid (K6.out.past t7); have S7 := Lib.hid b7; clear b7 t7)
          | (go_at_call 17; (with_reducible refine (dp_write K5.out.mem HK.out _ bs (HD.out.srcF K5.out) HBl.out).mono ?_); rintro x w6 ⟨rfl, r6, m6, k6⟩; have K6 := Lib.hid (K5.out.next m6 k6); clear m6 k6))
        go_ret
        exact ⟨rfl, K9.out⟩
      · have HE := Lib.hid (show k < 16 by omega)
        have hb : ((k : Int) == 16) = false := by simp; omega
        clear he
        go_wp2_with (first
          | (go_at_call 25; (with_reducible refine ci.mono ?_); rintro x w4 ⟨rfl, t4⟩; have K4 := Lib.hid ((HA.out.past t4).past ((Turn.refl NoBlock _).alloc (.cells #[.int .i64 (z : Int), .int .i64 (k : Int), .int .i64 0, .int .i64 0, .bool (decide (0 < k)), .bool false] 45))); clear t4)
          | (go_at_call 20; (with_reducible refine (dp_slice K4.out.mem HE.out _ HZ.out).mono ?_); rintro x w5 ⟨rfl, r5, m5, k5⟩; have K5 := Lib.hid (K4.out.next m5 k5); clear m5 k5))
        go_roundg (m - (k + 1))
        case measure => omega
        case rel => exact ⟨k + 1, r5, rfl, by omega, by have := HE.out; omega, rfl, by go_num, by go_num, K5.out⟩
    · obtain rfl : k = m := by omega
      have HK2 := Lib.hid (And.intro hk16 (show 0 < k by have := HM.out.1; omega))
      have hkI : (k : Int) ≤ 16 := by omega
      clear hlt
      go_wp2_with (first
        | (go_at_call 15; (with_reducible refine (awake8 _).mono ?_); rintro x w9 ⟨rfl, t9⟩; have K9 := Lib.hid (K8.out.turn.trans t9 (fun _ h => .inl h)); clear t9)
        | (go_at_call 21; (with_reducible refine (same_any _ _ _ _ S7.out (HD.out.src K8.out.turn)).mono ?_); rintro x w8 ⟨rfl, rfl⟩)
        | (go_at_call 19; (with_reducible refine (dp_snap K7.out.mem HK2.out.1 HK2.out.2).mono ?_); rintro x w8' ⟨rfl, rfl⟩; have K8 := Lib.hid K7.out)
        | (go_at_call 18; (with_reducible refine (dp_read K6.out.mem HK.out HBl.out).mono ?_); rintro x w7 ⟨p7, c7, rfl, b7, t7⟩; have K7 := Lib.hid (K6.out.past t7); have S7 := Lib.hid b7; clear b7 t7)
        | (go_at_call 17; (with_reducible refine (dp_write HA.out.mem HK.out _ bs (HD.out.srcF HA.out) HBl.out).mono ?_); rintro x w6 ⟨rfl, r6, m6, k6⟩; have K6 := Lib.hid (HA.out.next m6 k6); clear m6 k6))
      go_ret
      exact ⟨rfl, K9.out⟩
end Go.Proofs.Ytdhbhigoboamfaa
