/-
  The statement PagesRoom answers true at all numbers.
-/
import Derived.Test.YtdhbhigoboamfaaLawRoom
namespace Go.Proofs.Ytdhbhigoboamfaa
open Go.ChangeShapes Go.WideShapes Go.ChangeAt Go.RowKit

set_option maxRecDepth 20000 in
set_option maxHeartbeats 4000000 in
theorem room_past (n : Int) (p : Option Addr) (len cap : Nat) (w : World) (h : n < 0 ∨ 65536 < n ∨ 60 < len) :
    Calls Try.prog 10 #[.int .i64 n, .slice p len cap] w fun e w' => e = .returned (.bool true) ∧ Turn NoBlock w w' := by
  by_cases hn : n < 0 ∨ 65536 < n
  · have c1 := new_no n w hn
    clear h
    rcases hn with hn | hn
    · go_enter Try.func10, Try.ntmps10
      go_wp2_with (first
        | (go_at_call 30; (with_reducible refine c1.mono ?_); rintro x w1 ⟨rfl, rfl⟩)
        | (go_at_call 31; (with_reducible refine (awake_b (Turn.refl NoBlock _)).mono ?_); rintro x w2 ⟨rfl, t2⟩; have K2 := Lib.hid t2; clear t2))
      go_ret
      exact ⟨rfl, K2.out⟩
    · have hn0 : ¬ n < 0 := by omega
      go_enter Try.func10, Try.ntmps10
      go_wp2_with (first
        | (go_at_call 30; (with_reducible refine c1.mono ?_); rintro x w1 ⟨rfl, rfl⟩)
        | (go_at_call 31; (with_reducible refine (awake_b (Turn.refl NoBlock _)).mono ?_); rintro x w2 ⟨rfl, t2⟩; have K2 := Lib.hid t2; clear t2))
      go_ret
      exact ⟨rfl, K2.out⟩
  · obtain ⟨m, rfl⟩ : ∃ m : Nat, n = m := ⟨n.toNat, by omega⟩
    have c1 := new_yes m w (by omega)
    have hl : (60 : Int) < len := by omega
    have h0 : ¬ (m : Int) < 0 := by omega
    have h1 : ¬ (65536 : Int) < m := by omega
    clear h hn
    go_enter Try.func10, Try.ntmps10
    go_wp2_with (first
      | (go_at_call 30; (with_reducible refine c1.mono ?_); rintro x w1 ⟨rfl, F1, h1, t1, l1⟩; have K1 := Lib.hid t1; clear h1 t1 l1)
      | (go_at_call 31; (with_reducible refine (awake_b K1.out).mono ?_); rintro x w2 ⟨rfl, t2⟩; have K2 := Lib.hid t2; clear t2))
    go_ret
    exact ⟨rfl, K2.out⟩

theorem at_end (us : List Nat) (u : Nat) : (us ++ [u])[us.length]? = some u := by simp
theorem set_end (us : List Nat) (u v : Nat) : (us ++ [u]).set us.length v = us ++ [v] := by simp
theorem clamp (u : Int) : ∃ m : Nat, m ≤ 5 ∧ ((u < 0 ∧ u ≤ 0 ∧ ¬ 0 ≤ u ∧ ¬ 0 < u) ∨ u = 0 ∨ (0 < u ∧ u < 5 ∧ 0 ≤ u ∧ u ≤ 5 ∧ ¬ 5 ≤ u ∧ ¬ u ≤ 0 ∧ u = m) ∨ u = 5 ∨ (5 < u ∧ 5 ≤ u ∧ 0 ≤ u ∧ 0 < u ∧ ¬ u ≤ 5 ∧ ¬ u < 5 ∧ ¬ u ≤ 0)) := by
  by_cases h : 0 < u ∧ u < 5
  · exact ⟨u.toNat, by omega, by omega⟩
  · exact ⟨0, by omega, by omega⟩

set_option maxRecDepth 20000 in
set_option maxHeartbeats 8000000 in
theorem room_walk (n : Nat) (p : Option Addr) (len cap : Nat) (zs : List Int) (w : World) (hn : n ≤ 65536) (hlen : len ≤ 60) (hz : NumsAt w p len zs) :
    Calls Try.prog 10 #[.int .i64 n, .slice p len cap] w fun e w' => e = .returned (.bool true) ∧ Turn NoBlock w w' := by
  have c1 := new_yes n w (by omega)
  obtain ⟨a, haw⟩ : ∃ a, w.heap.size = a := ⟨_, rfl⟩
  rw [haw] at c1
  have Haw := Lib.hid haw
  have HZ := Lib.hid (fun wr (t : Turn NoBlock w wr) j (hj : j < len) => by
    obtain ⟨b, off, hp, ho⟩ := hz.2.2 (by omega)
    exact (⟨b, off, hp, (t.cell (ho j hj) (fun h => h)).trans rfl⟩ : ∃ b off, p = some ⟨b, off, none⟩ ∧ wr.cell? ⟨b, off + j, none⟩ = some (.int .i64 (zs.getD j 0))))
  clear haw hz
  have Hn := Lib.hid hn
  go_enter Try.func10, Try.ntmps10
  go_wp2_with (first
    | (go_at_call 30; (with_reducible refine c1.mono ?_); rintro x w1 ⟨rfl, F1, h1, t1, l1⟩; have K1 := Lib.hid (show Rm w w1 a n [] from ⟨⟨F1, _, ⟨h1, t1, fun j hj => by have := l1 j hj; have := Haw.out; omega⟩, Ro.start n⟩, (fun u hu => by simp at hu), Nat.zero_le _⟩); clear h1 t1 l1))
  go_loopg [6, 41] len (fun g s6 s41 wr => ∃ (i k : Nat) (us : List Nat), g = len - i ∧ i ≤ len ∧ k ≤ n ∧ s6 = .int .i64 k ∧ s41 = .int .i64 i ∧ Hid (Rm w wr a n us ∧ us.length = k ∧ ∀ u ∈ us, u ≠ 0))
  case atStart => exact ⟨0, 0, [], by omega, by omega, by omega, rfl, rfl, ⟨K1.out, rfl, fun u hu => by simp at hu⟩⟩
  case round =>
    obtain ⟨i, k, us, hg, hi, hk, rfl, rfl, HA⟩ := hrel
    by_cases hlt : i < len
    · obtain ⟨b, off, rfl, hc⟩ := HZ.out wr HA.out.1.turn i hlt
      generalize zs.getD i 0 = u at *
      obtain ⟨m, hm, hu⟩ := clamp u
      by_cases hkn : k < n
      · have c11 := ro_alloc HA.out.1 HA.out.2.2 (by rw [HA.out.2.1]; exact hkn)
        rw [HA.out.2.1] at c11
        have HW := Lib.hid (fun w4 (h : Rm w w4 a n (us ++ [1])) => ro_write (h.past ((Turn.refl NoBlock _).alloc (.cells #[.int .u8 9] 5))) k (by rw [← HA.out.2.1]; exact at_end us 1) _ _ (src_byte w4 9 (by decide) (by decide)))
        have Hu := Lib.hid hu
        rcases hu with ⟨u1, u2, u3, u4⟩ | rfl | ⟨u1, u2, u3, u4, u5, u6, rfl⟩ | rfl | ⟨u1, u2, u3, u4, u5, u6, u7⟩
        all_goals go_wp2_with (first
          | (go_at_call 32; (with_reducible refine c11.mono ?_); rintro x w4 ⟨rfl, h4⟩; have K4 := Lib.hid h4; clear h4)
          | (go_at_call 41; (with_reducible refine (HW.out _ K4.out).mono ?_); rintro x w5 ⟨rfl, h5⟩; have K5 := Lib.hid h5; clear h5))
        · have HU : Hid ((us ++ [1])[k]? = some 1) := by rw [← HA.out.2.1]; exact at_end us 1
          go_loopg [68] 0 (fun g s68 wx => ∃ (j : Nat), g = 0 - j ∧ j ≤ 0 ∧ s68 = .int .i64 j ∧ Hid (Rm w wx a n (us ++ [1 + j])))
          case atStart => exact ⟨0, by omega, by omega, rfl, K5⟩
          case round =>
            obtain ⟨j, hg2, hj, rfl, HB⟩ := hrel
            by_cases hjm : j < 0
            · exact absurd hjm (Nat.not_lt_zero _)
            · obtain rfl : j = 0 := by omega
              go_wp2_with (fail)
              go_roundg (len - (i + 1))
              case measure => omega
              case rel => exact ⟨i + 1, k + 1, us ++ [1 + 0], rfl, by omega, by omega, by go_num, by go_num, ⟨HB.out, by simp [HA.out.2.1], fun v hv => by
                rcases List.mem_append.1 hv with hv | hv
                · exact HA.out.2.2 v hv
                · simp at hv; omega⟩⟩
        · have HU : Hid ((us ++ [1])[k]? = some 1) := by rw [← HA.out.2.1]; exact at_end us 1
          go_loopg [68] 0 (fun g s68 wx => ∃ (j : Nat), g = 0 - j ∧ j ≤ 0 ∧ s68 = .int .i64 j ∧ Hid (Rm w wx a n (us ++ [1 + j])))
          case atStart => exact ⟨0, by omega, by omega, rfl, K5⟩
          case round =>
            obtain ⟨j, hg2, hj, rfl, HB⟩ := hrel
            by_cases hjm : j < 0
            · exact absurd hjm (Nat.not_lt_zero _)
            · obtain rfl : j = 0 := by omega
              go_wp2_with (fail)
              go_roundg (len - (i + 1))
              case measure => omega
              case rel => exact ⟨i + 1, k + 1, us ++ [1 + 0], rfl, by omega, by omega, by go_num, by go_num, ⟨HB.out, by simp [HA.out.2.1], fun v hv => by
                rcases List.mem_append.1 hv with hv | hv
                · exact HA.out.2.2 v hv
                · simp at hv; omega⟩⟩
        · have HU : Hid ((us ++ [1])[k]? = some 1) := by rw [← HA.out.2.1]; exact at_end us 1
          go_loopg [68] m (fun g s68 wx => ∃ (j : Nat), g = m - j ∧ j ≤ m ∧ s68 = .int .i64 j ∧ Hid (Rm w wx a n (us ++ [1 + j])))
          case atStart => exact ⟨0, by omega, by omega, rfl, K5⟩
          case round =>
            obtain ⟨j, hg2, hj, rfl, HB⟩ := hrel
            by_cases hjm : j < m
            · have c14 := ro_share HB.out k (1 + j) (by rw [← HA.out.2.1]; exact at_end us _) (by omega) (by omega)
              go_wp2_with (go_at_call 35; (with_reducible refine c14.mono ?_); rintro x w6 ⟨rfl, h6⟩; have K6 := Lib.hid h6; clear h6)
              go_roundg (m - (j + 1))
              case measure => omega
              case rel => exact ⟨j + 1, rfl, by omega, by go_num, by have := K6.out; rw [← HA.out.2.1, set_end] at this; exact this⟩
            · obtain rfl : j = m := by omega
              go_wp2_with (fail)
              go_roundg (len - (i + 1))
              case measure => omega
              case rel => exact ⟨i + 1, k + 1, us ++ [1 + j], rfl, by omega, by omega, by go_num, by go_num, ⟨HB.out, by simp [HA.out.2.1], fun v hv => by
                rcases List.mem_append.1 hv with hv | hv
                · exact HA.out.2.2 v hv
                · simp at hv; omega⟩⟩
        · have HU : Hid ((us ++ [1])[k]? = some 1) := by rw [← HA.out.2.1]; exact at_end us 1
          go_loopg [68] 5 (fun g s68 wx => ∃ (j : Nat), g = 5 - j ∧ j ≤ 5 ∧ s68 = .int .i64 j ∧ Hid (Rm w wx a n (us ++ [1 + j])))
          case atStart => exact ⟨0, by omega, by omega, rfl, K5⟩
          case round =>
            obtain ⟨j, hg2, hj, rfl, HB⟩ := hrel
            by_cases hjm : j < 5
            · have c14 := ro_share HB.out k (1 + j) (by rw [← HA.out.2.1]; exact at_end us _) (by omega) (by omega)
              go_wp2_with (go_at_call 35; (with_reducible refine c14.mono ?_); rintro x w6 ⟨rfl, h6⟩; have K6 := Lib.hid h6; clear h6)
              go_roundg (5 - (j + 1))
              case measure => omega
              case rel => exact ⟨j + 1, rfl, by omega, by go_num, by have := K6.out; rw [← HA.out.2.1, set_end] at this; exact this⟩
            · obtain rfl : j = 5 := by omega
              go_wp2_with (fail)
              go_roundg (len - (i + 1))
              case measure => omega
              case rel => exact ⟨i + 1, k + 1, us ++ [1 + 5], rfl, by omega, by omega, by go_num, by go_num, ⟨HB.out, by simp [HA.out.2.1], fun v hv => by
                rcases List.mem_append.1 hv with hv | hv
                · exact HA.out.2.2 v hv
                · simp at hv; omega⟩⟩
        · have HU : Hid ((us ++ [1])[k]? = some 1) := by rw [← HA.out.2.1]; exact at_end us 1
          go_loopg [68] 5 (fun g s68 wx => ∃ (j : Nat), g = 5 - j ∧ j ≤ 5 ∧ s68 = .int .i64 j ∧ Hid (Rm w wx a n (us ++ [1 + j])))
          case atStart => exact ⟨0, by omega, by omega, rfl, K5⟩
          case round =>
            obtain ⟨j, hg2, hj, rfl, HB⟩ := hrel
            by_cases hjm : j < 5
            · have c14 := ro_share HB.out k (1 + j) (by rw [← HA.out.2.1]; exact at_end us _) (by omega) (by omega)
              go_wp2_with (go_at_call 35; (with_reducible refine c14.mono ?_); rintro x w6 ⟨rfl, h6⟩; have K6 := Lib.hid h6; clear h6)
              go_roundg (5 - (j + 1))
              case measure => omega
              case rel => exact ⟨j + 1, rfl, by omega, by go_num, by have := K6.out; rw [← HA.out.2.1, set_end] at this; exact this⟩
            · obtain rfl : j = 5 := by omega
              go_wp2_with (fail)
              go_roundg (len - (i + 1))
              case measure => omega
              case rel => exact ⟨i + 1, k + 1, us ++ [1 + 5], rfl, by omega, by omega, by go_num, by go_num, ⟨HB.out, by simp [HA.out.2.1], fun v hv => by
                rcases List.mem_append.1 hv with hv | hv
                · exact HA.out.2.2 v hv
                · simp at hv; omega⟩⟩
      · obtain rfl : k = n := by omega
        have c11 := ro_full HA.out.1 HA.out.2.2 HA.out.2.1
        go_wp2_with (first
          | (go_at_call 32; (with_reducible refine c11.mono ?_); rintro x w4 ⟨rfl, h4⟩; have K4 := Lib.hid h4; clear h4))
        go_roundg (len - (i + 1))
        case measure => omega
        case rel => exact ⟨i + 1, k, us, rfl, by omega, by omega, rfl, by go_num, ⟨K4.out, HA.out.2.1, HA.out.2.2⟩⟩
    · obtain rfl : i = len := by omega
      go_wp2_with (fail)
      go_loopg [76] k (fun g s76 wx => ∃ (f : Nat) (us : List Nat), g = k - f ∧ f ≤ k ∧ s76 = .int .i64 f ∧ Hid (Rm w wx a n us ∧ us.length = k ∧ ∀ j, j < f → us[j]? = some 0))
      case atStart => exact ⟨0, us, by omega, by omega, rfl, ⟨HA.out.1, HA.out.2.1, fun j hj => by omega⟩⟩
      case round =>
        obtain ⟨f, us, hg2, hf, rfl, HB⟩ := hrel
        by_cases hfk : f < k
        · go_wp2_with (fail)
          obtain ⟨v0, hv0⟩ : ∃ v0, us[f]? = some v0 := ⟨_, List.getElem?_eq_getElem (by rw [HB.out.2.1]; exact hfk)⟩
          have Hv0 := Lib.hid hv0
          clear hv0
          go_loopg [81] v0 (fun g s81 wx => ∃ (v : Nat) (us : List Nat), g = v ∧ Hid (Rm w wx a n us ∧ us.length = k ∧ (∀ j, j < f → us[j]? = some 0) ∧ us[f]? = some v))
          case atStart => exact ⟨v0, us, rfl, ⟨HB.out.1, HB.out.2.1, HB.out.2.2, Hv0.out⟩⟩
          case round =>
            obtain ⟨v, us, hg3, HC⟩ := hrel
            have c24 := ro_users HC.out.1 f v HC.out.2.2.2
            cases v with
            | zero =>
              have c15 := ro_gone HC.out.1 f HC.out.2.2.2
              go_wp2_with (first
                | (go_at_call 43; (with_reducible refine c24.mono ?_); rintro x w6 ⟨rfl, rfl⟩)
                | (go_at_call 36; (with_reducible refine c15.mono ?_); rintro x w7 ⟨rfl, h7⟩; have K7 := Lib.hid h7; clear h7))
              go_roundg (k - (f + 1))
              case measure => omega
              case rel => exact ⟨f + 1, us, rfl, by omega, by go_num, ⟨K7.out, HC.out.2.1, fun j hj => by
                by_cases e : j = f
                · subst e; exact HC.out.2.2.2
                · exact HC.out.2.2.1 j (by omega)⟩⟩
            | succ v =>
              have c15 := ro_rel HC.out.1 f v HC.out.2.2.2
              have hv : (0 : Int) < ((v + 1 : Nat) : Int) := by omega
              go_wp2_with (first
                | (go_at_call 43; (with_reducible refine c24.mono ?_); rintro x w6 ⟨rfl, rfl⟩)
                | (go_at_call 36; (with_reducible refine c15.mono ?_); rintro x w7 ⟨rfl, h7⟩; have K7 := Lib.hid h7; clear h7))
              go_roundg v
              case measure => omega
              case rel => exact ⟨v, us.set f v, rfl, ⟨K7.out, by rw [List.length_set]; exact HC.out.2.1, fun j hj => by rw [List.getElem?_set_ne (by omega)]; exact HC.out.2.2.1 j hj, List.getElem?_set_self (by rw [HC.out.2.1]; exact hfk)⟩⟩
        · obtain rfl : f = k := by omega
          have H0 := Lib.hid (show ∀ u ∈ us, u = 0 from fun u hu => by
            obtain ⟨j, hj⟩ := List.getElem?_of_mem hu
            have hl := (List.getElem?_eq_some_iff.1 hj).1
            rw [HB.out.2.1] at hl
            have := HB.out.2.2 j hl
            rw [hj] at this
            exact Option.some.inj this)
          by_cases hn0 : n = 0
          · subst hn0
            go_wp2_with (first
              | (go_at_call 32; (with_reducible refine (ro_none K8.out).mono ?_); rintro x w9 ⟨rfl, h9⟩; have K9 := Lib.hid h9; clear h9)
              | (go_at_call 46; (with_reducible refine (ro_room K7.out H0.out).mono ?_); rintro x w8 ⟨rfl, h8⟩; have K8 := Lib.hid h8; clear h8)
              | (go_at_call 44; (with_reducible refine (ro_used HB.out.1 H0.out).mono ?_); rintro x w7 ⟨rfl, h7⟩; have K7 := Lib.hid h7; clear h7)
              | (go_at_call 31; (with_reducible refine (awake_b K9.out).mono ?_); rintro x w10 ⟨rfl, t10⟩; have K10 := Lib.hid t10; clear t10))
            go_ret
            exact ⟨rfl, K10.out⟩
          · have hn1 : ((n : Int) == 0) = false := by simp; omega
            have Hn0 := Lib.hid (show 0 < n by omega)
            clear hn0
            go_wp2_with (first
              | (go_at_call 32; (with_reducible refine (ro_again K8.out H0.out Hn0.out).mono ?_); rintro x w9 ⟨rfl, F9, L9, h9, l9⟩; have K9 := Lib.hid (And.intro h9 l9); clear h9 l9)
              | (go_at_call 46; (with_reducible refine (ro_room K7.out H0.out).mono ?_); rintro x w8 ⟨rfl, h8⟩; have K8 := Lib.hid h8; clear h8)
              | (go_at_call 44; (with_reducible refine (ro_used HB.out.1 H0.out).mono ?_); rintro x w7 ⟨rfl, h7⟩; have K7 := Lib.hid h7; clear h7)
              | (go_at_call 39; (with_reducible refine (ro_read K9.out.1 K9.out.2).mono ?_); rintro x w11 ⟨g11, c11, rfl, h11, s11, t11⟩; have K11 := Lib.hid t11; clear t11)
              | (go_at_call 31; (with_reducible refine (awake_b K11.out).mono ?_); rintro x w10 ⟨rfl, t10⟩; have K10 := Lib.hid t10; clear t10))
            go_ret
            exact ⟨rfl, K10.out⟩
end Go.Proofs.Ytdhbhigoboamfaa
