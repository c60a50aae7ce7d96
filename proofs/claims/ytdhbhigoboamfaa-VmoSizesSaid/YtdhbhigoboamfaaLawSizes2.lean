/-
  The statement VmoSizes answers true at all numbers and all bytes.
-/
import Derived.Test.YtdhbhigoboamfaaLawSizes
namespace Go.Proofs.Ytdhbhigoboamfaa
open Go.ChangeShapes Go.WideShapes Go.ChangeAt Go.RowKit

set_option maxRecDepth 20000 in
set_option maxHeartbeats 4000000 in
theorem sizes_past (a b : Int) (p : Option Addr) (len cap : Nat) (w : World) (h : 200 < len) :
    Calls Try.prog 5 #[.int .i64 a, .int .i64 b, .slice p len cap] w fun e w' => e = .returned (.bool true) ∧ Turn NoBlock w w' := by
  have c1 : Calls Try.prog 14 #[.int .i64 100, .int .i64 2] w _ := vnew_yes 100 2 w (by omega) (by omega)
  have h1 : (200 : Int) < len := by omega
  clear h
  go_enter Try.func5, Try.ntmps5
  go_wp2_with (first
    | (go_at_call 14; (with_reducible refine c1.mono ?_); rintro x w1 ⟨s, r, rfl, m1, t1, f1⟩; have K1 := Lib.hid t1; clear m1 t1 f1)
    | (go_at_call 15; (with_reducible refine (awake8 _).mono ?_); rintro x w2 ⟨rfl, t2⟩; have K2 := Lib.hid (K1.out.trans t2 (fun _ h => .inl h)); clear t2))
  go_ret
  exact ⟨rfl, K2.out⟩

theorem count_0 {w : World} {s : Nat} {r : Rep} (h : SMem w s r (M0 100 2)) : Calls Try.prog 26 #[.pointer (some ⟨s, 0, none⟩)] w fun e w' => e = .returned (.int .i64 0) ∧ w = w' := count_any h
set_option maxRecDepth 20000 in
set_option maxHeartbeats 4000000 in
theorem sizes_none (a b : Int) (p : Option Addr) (len cap : Nat) (w : World) (h : len ≤ 200) (ha : a < 0 ∨ 4294967296 < a) :
    Calls Try.prog 5 #[.int .i64 a, .int .i64 b, .slice p len cap] w fun e w' => e = .returned (.bool true) ∧ Turn NoBlock w w' := by
  have c1 : Calls Try.prog 14 #[.int .i64 100, .int .i64 2] w _ := vnew_yes 100 2 w (by omega) (by omega)
  have h1 : ¬ (200 : Int) < len := by omega
  have hcs : a < 0 ∨ (¬ a < 0 ∧ 4294967296 < a) := by omega
  clear h ha
  rcases hcs with g1 | ⟨g1, g2⟩
  · have HC := Lib.hid (fun (w' : World) s r (hm : SMem w' s r (M0 100 2)) => sz_create_neg hm a g1)
    go_enter Try.func5, Try.ntmps5
    go_wp2_with (first
      | (go_at_call 14; (with_reducible refine c1.mono ?_); rintro x w1 ⟨s, r, rfl, m1, t1, f1⟩; have K1 := Lib.hid (show VSt w w1 s r (M0 100 2) from ⟨m1, t1, f1⟩); clear m1 t1 f1)
      | (go_at_call 16; (with_reducible refine (HC.out _ _ _ K1.out.mem).mono ?_); rintro x w2 ⟨rfl, m2, t2⟩; have K2 := Lib.hid (K1.out.past t2); clear m2 t2)
      | (go_at_call 26; (with_reducible refine (count_0 K2.out.mem).mono ?_); rintro x w3 ⟨rfl, rfl⟩)
      | (go_at_call 15; (with_reducible refine (awake8 _).mono ?_); rintro x w4 ⟨rfl, t4⟩; have K4 := Lib.hid (K2.out.turn.trans t4 (fun _ h => .inl h)); clear t4))
    go_ret
    exact ⟨rfl, K4.out⟩
  · have HC := Lib.hid (fun (w' : World) s r (hm : SMem w' s r (M0 100 2)) => sz_create_far hm a g2)
    go_enter Try.func5, Try.ntmps5
    go_wp2_with (first
      | (go_at_call 14; (with_reducible refine c1.mono ?_); rintro x w1 ⟨s, r, rfl, m1, t1, f1⟩; have K1 := Lib.hid (show VSt w w1 s r (M0 100 2) from ⟨m1, t1, f1⟩); clear m1 t1 f1)
      | (go_at_call 16; (with_reducible refine (HC.out _ _ _ K1.out.mem).mono ?_); rintro x w2 ⟨rfl, m2, t2⟩; have K2 := Lib.hid (K1.out.past t2); clear m2 t2)
      | (go_at_call 26; (with_reducible refine (count_0 K2.out.mem).mono ?_); rintro x w3 ⟨rfl, rfl⟩)
      | (go_at_call 15; (with_reducible refine (awake8 _).mono ?_); rintro x w4 ⟨rfl, t4⟩; have K4 := Lib.hid (K2.out.turn.trans t4 (fun _ h => .inl h)); clear t4))
    go_ret
    exact ⟨rfl, K4.out⟩

theorem bs_take (bs : List UInt8) (n : Nat) (hn : n ≤ bs.length) : ((List.range n).map fun j => bs.getD j 0) = bs.take n := by
  have := cut_map bs 0 n (by omega)
  rw [List.drop_zero] at this
  rw [this]
  apply List.map_congr_left
  intro j _
  rw [Nat.zero_add]
/-- What stands there behind the calls. -/
def cS (bs : List UInt8) (U2 : Nat) (x : Nat) : UInt8 := if x < U2 then (if x < bs.length then bs.getD x 0 else 0) else 0
theorem upS_eq (n : Nat) : upS (n : Int) = (n + 63) / 64 * 64 := by unfold upS; rw [Int.toNat_natCast]

set_option maxRecDepth 20000 in
set_option maxHeartbeats 8000000 in
/-- What was written is not within. -/
theorem sizes_out (n : Nat) (b : Int) (p : Option Addr) (len cap : Nat) (bs : List UInt8) (w : World) (hl : bs.length = len) (h : len ≤ 200) (hn : n ≤ 4294967296) (hout : upS n < len) :
    Calls Try.prog 5 #[.int .i64 n, .int .i64 b, .slice p len cap] w fun e w' => e = .returned (.bool true) ∧ Turn NoBlock w w' := by
  have c1 : Calls Try.prog 14 #[.int .i64 100, .int .i64 2] w _ := vnew_yes 100 2 w (by omega) (by omega)
  have h1 : ¬ (200 : Int) < len := by omega
  have g1 : ¬ (n : Int) < 0 := by omega
  have g2 : ¬ (4294967296 : Int) < n := by omega
  have hU : upS n ≤ 4294967296 := by unfold upS; omega
  have z0 := z0_sz (upS n) hU
  have HZ := Lib.hid z0
  have HC := Lib.hid (fun (w' : World) s r (hm : SMem w' s r (M0 100 2)) => sz_create hm (n : Int) (by omega) (by omega))
  have HW := Lib.hid (fun (w' : World) s r (hm : SMem w' s r (Z0 (upS n))) => write8_out hm (i := 1) (by unfold fit; omega) z0.at1 z0.drp 0 (by unfold fit; omega) p len cap (by omega) (by rw [z0.size]; exact hU) (by rw [z0.size]; omega))
  have e1 : ((n : Int) + 63).tdiv 64 = ((((n + 63) / 64 : Nat)) : Int) := by rw [Int.tdiv_eq_ediv_of_nonneg (by omega)]; omega
  have e2 : ((n : Int) + 63) / 64 = ((((n + 63) / 64 : Nat)) : Int) := by omega
  have e3 : ((((n + 63) / 64 : Nat)) : Int) * 64 = (upS n : Int) := by rw [upS_eq]; omega
  have w1' : IntKind.i64.wrap ((n : Int) + 63) = (n : Int) + 63 := wrap_nat (n + 63) (by omega)
  have w2' : IntKind.i64.wrap ((((n + 63) / 64 : Nat)) : Int) = ((((n + 63) / 64 : Nat)) : Int) := wrap_nat _ (by omega)
  have hUI : (upS n : Int) ≤ 4294967296 := by omega
  have ho : ¬ (len : Int) ≤ (upS n : Int) := by omega
  generalize hq : (n + 63) / 64 = Q at *
  have hQ : (Q : Int) ≤ 67108864 := by omega
  have hnI : (n : Int) ≤ 4294967296 := by omega
  generalize upS (n : Int) = U at *
  clear h hout hU z0 hl hq
  by_cases hb1 : b < 0 ∨ 4294967296 < b
  · have hcs : (b < 0 ∧ ¬ 0 ≤ b) ∨ (¬ b < 0 ∧ 4294967296 < b ∧ 0 ≤ b ∧ ¬ b ≤ 4294967296) := by omega
    clear hb1
    rcases hcs with ⟨k1, k2⟩ | ⟨k1, k2, k3, k4⟩
    · have HR := Lib.hid (fun (w' : World) s r (hm : SMem w' s r (Z0 U)) => sz_resize_neg hm HZ.out b k1)
      go_enter Try.func5, Try.ntmps5
      go_wp2_with (first
        | (go_at_call 14; (with_reducible refine c1.mono ?_); rintro x w1 ⟨s, r, rfl, m1, t1, f1⟩; have K1 := Lib.hid (show VSt w w1 s r (M0 100 2) from ⟨m1, t1, f1⟩); clear m1 t1 f1)
        | (go_at_call 16; (with_reducible refine (HC.out _ _ _ K1.out.mem).mono ?_); rintro x w2 ⟨rfl, r2, m2, k2⟩; have K2 := Lib.hid (K1.out.next m2 k2); clear m2 k2)
        | (go_at_call 25; (with_reducible refine (sz_info K2.out.mem).mono ?_); rintro x w3 ⟨rfl, t3⟩; have K3 := Lib.hid ((K2.out.past t3).past ((Turn.refl NoBlock _).alloc (.cells #[.int .i64 (U : Int), .int .i64 0, .int .i64 0, .int .i64 0, .bool false, .bool false] 45))); clear t3)
        | (go_at_call 17; (with_reducible refine (HW.out _ _ _ K3.out.mem).mono ?_); rintro x w4 ⟨rfl, rfl⟩)
        | (go_at_call 28; (with_reducible refine (HR.out _ _ _ K3.out.mem).mono ?_); rintro x w5 ⟨rfl, rfl⟩)
        | (go_at_call 15; (with_reducible refine (awake8 _).mono ?_); rintro x w6 ⟨rfl, t6⟩; have K6 := Lib.hid (K3.out.turn.trans t6 (fun _ h => .inl h)); clear t6))
      go_ret
      first | exact ⟨rfl, K6.out⟩ | exact ⟨ret_bool (by simp; omega), K6.out⟩
    · have HR := Lib.hid (fun (w' : World) s r (hm : SMem w' s r (Z0 U)) => sz_resize_far hm HZ.out b k2)
      go_enter Try.func5, Try.ntmps5
      go_wp2_with (first
        | (go_at_call 14; (with_reducible refine c1.mono ?_); rintro x w1 ⟨s, r, rfl, m1, t1, f1⟩; have K1 := Lib.hid (show VSt w w1 s r (M0 100 2) from ⟨m1, t1, f1⟩); clear m1 t1 f1)
        | (go_at_call 16; (with_reducible refine (HC.out _ _ _ K1.out.mem).mono ?_); rintro x w2 ⟨rfl, r2, m2, k2⟩; have K2 := Lib.hid (K1.out.next m2 k2); clear m2 k2)
        | (go_at_call 25; (with_reducible refine (sz_info K2.out.mem).mono ?_); rintro x w3 ⟨rfl, t3⟩; have K3 := Lib.hid ((K2.out.past t3).past ((Turn.refl NoBlock _).alloc (.cells #[.int .i64 (U : Int), .int .i64 0, .int .i64 0, .int .i64 0, .bool false, .bool false] 45))); clear t3)
        | (go_at_call 17; (with_reducible refine (HW.out _ _ _ K3.out.mem).mono ?_); rintro x w4 ⟨rfl, rfl⟩)
        | (go_at_call 28; (with_reducible refine (HR.out _ _ _ K3.out.mem).mono ?_); rintro x w5 ⟨rfl, rfl⟩)
        | (go_at_call 15; (with_reducible refine (awake8 _).mono ?_); rintro x w6 ⟨rfl, t6⟩; have K6 := Lib.hid (K3.out.turn.trans t6 (fun _ h => .inl h)); clear t6))
      go_ret
      first | exact ⟨rfl, K6.out⟩ | exact ⟨ret_bool (by simp; omega), K6.out⟩
  · have HR := Lib.hid (fun (w' : World) s r (hm : SMem w' s r (Z0 U)) => sz_resize hm HZ.out b (by omega) (by omega))
    have k1 : ¬ b < 0 := by omega
    have k2 : ¬ 4294967296 < b := by omega
    have k3 : 0 ≤ b := by omega
    have k4 : b ≤ 4294967296 := by omega
    clear hb1
    go_enter Try.func5, Try.ntmps5
    go_wp2_with (first
      | (go_at_call 14; (with_reducible refine c1.mono ?_); rintro x w1 ⟨s, r, rfl, m1, t1, f1⟩; have K1 := Lib.hid (show VSt w w1 s r (M0 100 2) from ⟨m1, t1, f1⟩); clear m1 t1 f1)
      | (go_at_call 16; (with_reducible refine (HC.out _ _ _ K1.out.mem).mono ?_); rintro x w2 ⟨rfl, r2, m2, k2⟩; have K2 := Lib.hid (K1.out.next m2 k2); clear m2 k2)
      | (go_at_call 25; (with_reducible refine (sz_info K2.out.mem).mono ?_); rintro x w3 ⟨rfl, t3⟩; have K3 := Lib.hid ((K2.out.past t3).past ((Turn.refl NoBlock _).alloc (.cells #[.int .i64 (U : Int), .int .i64 0, .int .i64 0, .int .i64 0, .bool false, .bool false] 45))); clear t3)
      | (go_at_call 17; (with_reducible refine (HW.out _ _ _ K3.out.mem).mono ?_); rintro x w4 ⟨rfl, rfl⟩)
      | (go_at_call 28; (with_reducible refine (HR.out _ _ _ K3.out.mem).mono ?_); rintro x w5 ⟨rfl, r5, M5, o5, ⟨m5, z5⟩, k5⟩; have K5 := Lib.hid (K3.out.next m5 k5); clear m5 k5 z5)
      | (go_at_call 15; (with_reducible refine (awake8 _).mono ?_); rintro x w6 ⟨rfl, t6⟩; have K6 := Lib.hid (K5.out.turn.trans t6 (fun _ h => .inl h)); clear t6))
    go_ret
    exact ⟨rfl, K6.out⟩

set_option maxRecDepth 20000 in
set_option maxHeartbeats 8000000 in
/-- The second size is none. -/
theorem sizes_bad (n : Nat) (b : Int) (p : Option Addr) (len cap : Nat) (bs : List UInt8) (w : World) (hl : bs.length = len) (h : bs.length ≤ 200) (hn : n ≤ 4294967296) (hin : bs.length ≤ upS n) (hD : ArgB w (.slice p bs.length cap) bs) (hb1 : b < 0 ∨ 4294967296 < b) :
    Calls Try.prog 5 #[.int .i64 n, .int .i64 b, .slice p len cap] w fun e w' => e = .returned (.bool true) ∧ Turn NoBlock w w' := by
  have c1 : Calls Try.prog 14 #[.int .i64 100, .int .i64 2] w _ := vnew_yes 100 2 w (by omega) (by omega)
  subst hl
  have h1 : ¬ (200 : Int) < (bs.length : Int) := by omega
  have g1 : ¬ (n : Int) < 0 := by omega
  have g2 : ¬ (4294967296 : Int) < n := by omega
  have hU : upS n ≤ 4294967296 := by unfold upS; omega
  have HZ := Lib.hid (z0_sz (upS n) hU)
  have HC := Lib.hid (fun (w' : World) s r (hm : SMem w' s r (M0 100 2)) => sz_create hm (n : Int) (by omega) (by omega))
  have HW := Lib.hid (fun (w' : World) s r (k : VSt w w' s r (Z0 (upS n))) => sz_write k.mem HZ.out (.slice p bs.length cap) bs (hD.srcF k) h hin (show 10 ≤ roomN (List.replicate 100 Pg.none) by decide +kernel) (Nat.zero_le _))
  have e1 : ((n : Int) + 63).tdiv 64 = ((((n + 63) / 64 : Nat)) : Int) := by rw [Int.tdiv_eq_ediv_of_nonneg (by omega)]; omega
  have e2 : ((n : Int) + 63) / 64 = ((((n + 63) / 64 : Nat)) : Int) := by omega
  have e3 : ((((n + 63) / 64 : Nat)) : Int) * 64 = (upS n : Int) := by rw [upS_eq]; omega
  have w1' : IntKind.i64.wrap ((n : Int) + 63) = (n : Int) + 63 := wrap_nat (n + 63) (by omega)
  have hUI : (upS n : Int) ≤ 4294967296 := by omega
  have ho : (bs.length : Int) ≤ (upS n : Int) := by omega
  generalize hq : (n + 63) / 64 = Q at *
  have hQ : (Q : Int) ≤ 67108864 := by omega
  have hnI : (n : Int) ≤ 4294967296 := by omega
  generalize upS (n : Int) = U at *
  have HD := Lib.hid (And.intro hD h)
  clear h hin hU hq hn hD
  have hcs : (b < 0 ∧ ¬ 0 ≤ b) ∨ (¬ b < 0 ∧ 4294967296 < b ∧ 0 ≤ b ∧ ¬ b ≤ 4294967296) := by omega
  clear hb1
  rcases hcs with ⟨k1, k2⟩ | ⟨k1, k2, k3, k4⟩
  · have HR := Lib.hid (fun (w' : World) s r M o C (hm : SMem w' s r M) (z : Sz M U C o) => sz_resize_neg hm z b k1)
    go_enter Try.func5, Try.ntmps5
    go_wp2_with (first
        | (go_at_call 14; (with_reducible refine c1.mono ?_); rintro x w1 ⟨s, r, rfl, m1, t1, f1⟩; have K1 := Lib.hid (show VSt w w1 s r (M0 100 2) from ⟨m1, t1, f1⟩); clear m1 t1 f1)
        | (go_at_call 16; (with_reducible refine (HC.out _ _ _ K1.out.mem).mono ?_); rintro x w2 ⟨rfl, r2, m2, k2⟩; have K2 := Lib.hid (K1.out.next m2 k2); clear m2 k2)
        | (go_at_call 25; (with_reducible refine (sz_info K2.out.mem).mono ?_); rintro x w3 ⟨rfl, t3⟩; have K3 := Lib.hid ((K2.out.past t3).past ((Turn.refl NoBlock _).alloc (.cells #[.int .i64 (U : Int), .int .i64 0, .int .i64 0, .int .i64 0, .bool false, .bool false] 45))); clear t3)
        | (go_at_call 17; (with_reducible refine (HW.out _ _ _ K3.out).mono ?_); rintro x w4 ⟨rfl, r4, M4, o4, ⟨m4, z4⟩, k4⟩; have K4 := Lib.hid (K3.out.next m4 k4); have Z4 := Lib.hid z4; clear m4 k4 z4)
        | (go_at_call 28; (with_reducible refine (HR.out _ _ _ _ _ _ K4.out.mem Z4.out).mono ?_); rintro x w5 ⟨rfl, rfl⟩)
        | (go_at_call 15; (with_reducible refine (awake8 _).mono ?_); rintro x w6 ⟨rfl, t6⟩; have K6 := Lib.hid (K4.out.turn.trans t6 (fun _ h => .inl h)); clear t6))
    go_ret
    first | exact ⟨rfl, K6.out⟩ | exact ⟨ret_bool (by simp; omega), K6.out⟩
  · have HR := Lib.hid (fun (w' : World) s r M o C (hm : SMem w' s r M) (z : Sz M U C o) => sz_resize_far hm z b k2)
    go_enter Try.func5, Try.ntmps5
    go_wp2_with (first
        | (go_at_call 14; (with_reducible refine c1.mono ?_); rintro x w1 ⟨s, r, rfl, m1, t1, f1⟩; have K1 := Lib.hid (show VSt w w1 s r (M0 100 2) from ⟨m1, t1, f1⟩); clear m1 t1 f1)
        | (go_at_call 16; (with_reducible refine (HC.out _ _ _ K1.out.mem).mono ?_); rintro x w2 ⟨rfl, r2, m2, k2⟩; have K2 := Lib.hid (K1.out.next m2 k2); clear m2 k2)
        | (go_at_call 25; (with_reducible refine (sz_info K2.out.mem).mono ?_); rintro x w3 ⟨rfl, t3⟩; have K3 := Lib.hid ((K2.out.past t3).past ((Turn.refl NoBlock _).alloc (.cells #[.int .i64 (U : Int), .int .i64 0, .int .i64 0, .int .i64 0, .bool false, .bool false] 45))); clear t3)
        | (go_at_call 17; (with_reducible refine (HW.out _ _ _ K3.out).mono ?_); rintro x w4 ⟨rfl, r4, M4, o4, ⟨m4, z4⟩, k4⟩; have K4 := Lib.hid (K3.out.next m4 k4); have Z4 := Lib.hid z4; clear m4 k4 z4)
        | (go_at_call 28; (with_reducible refine (HR.out _ _ _ _ _ _ K4.out.mem Z4.out).mono ?_); rintro x w5 ⟨rfl, rfl⟩)
        | (go_at_call 15; (with_reducible refine (awake8 _).mono ?_); rintro x w6 ⟨rfl, t6⟩; have K6 := Lib.hid (K4.out.turn.trans t6 (fun _ h => .inl h)); clear t6))
    go_ret
    first | exact ⟨rfl, K6.out⟩ | exact ⟨ret_bool (by simp; omega), K6.out⟩
end Go.Proofs.Ytdhbhigoboamfaa
