/-
  The statement PagesShared answers true at all bytes and all numbers.
-/
import Derived.Test.YtkihibpmpebejaaLawShared
namespace Go.Proofs.Ytkihibpmpebejaa
open Go.ChangeShapes Go.WideShapes Go.ChangeAt Go.RowKit

set_option maxRecDepth 20000 in
set_option maxHeartbeats 4000000 in
theorem shared_past (pb : Option Addr) (lb cb : Nat) (u : Int) (w : World) (h : 64 < lb ∨ u < 2 ∨ 15 < u) :
    Calls Try.prog 6 #[.slice pb lb cb, .int .i64 u] w fun e w' => e = .returned (.bool true) ∧ Turn NoBlock w w' := by
  have c1 : Calls Try.prog 9 #[.int .i64 20] w _ := new_yes 20 w (by omega)
  have hcs : (64 : Int) < lb ∨ ((lb : Int) ≤ 64 ∧ u < 2) ∨ ((lb : Int) ≤ 64 ∧ 2 ≤ u ∧ 15 < u) := by omega
  clear h
  rcases hcs with h1 | ⟨h1, h2⟩ | ⟨h1, h2, h3⟩
  all_goals
    go_enter Try.func6, Try.ntmps6
    go_wp2_with (first
      | (go_at_call 9; (with_reducible refine c1.mono ?_); rintro x w1 ⟨rfl, F1, h1, t1, l1⟩; have K1 := Lib.hid t1; clear h1 t1 l1)
      | (go_at_call 10; (with_reducible refine (awake_b K1.out).mono ?_); rintro x w2 ⟨rfl, t2⟩; have K2 := Lib.hid t2; clear t2))
    go_ret
    exact ⟨rfl, K2.out⟩

def S20 (n : Nat) (B : List UInt8) : List Pg := ⟨n, B⟩ :: List.replicate 19 Pg.none
theorem s20_at (n : Nat) (B : List UInt8) : pgAt (S20 n B) 0 = ⟨n, B⟩ := rfl
theorem s20_alloc {w : World} {a : Nat} {F : Nat → Prop} (h : PoolAt w a F (List.replicate 20 Pg.none)) : Calls Try.prog 11 #[.pointer (some ⟨a, 0, none⟩)] w fun x w' => x = .returned (.tuple #[.int .i64 0, .int .i64 0]) ∧ ∃ F', PoolAt w' a F' (S20 1 blank) ∧ Turn F w w' ∧ ∀ j, F' j → F j ∨ w.heap.size ≤ j := by
  have c := alloc_any h
  rw [show allocV (List.replicate 20 Pg.none) = 0 from by decide +kernel, show allocS (List.replicate 20 Pg.none) = 0 from by decide +kernel, show allocL (List.replicate 20 Pg.none) = S20 1 blank from by decide +kernel] at c
  exact c
theorem s20_write {w : World} {a : Nat} {F : Nat → Prop} (h : PoolAt w a F (S20 1 blank)) (v : Value) (bs : List UInt8) (hv : Src w v bs) (hl : bs.length ≤ 64) :
    Calls Try.prog 22 #[.pointer (some ⟨a, 0, none⟩), .int .i64 0, .int .i64 0, v] w fun e w' => e = .returned (.int .i64 0) ∧ PoolAt w' a F (S20 1 (putB blank 0 bs)) ∧ Turn F w w' := by
  have c := write_any h 0 0 v bs hv
  have hw : writeS (S20 1 blank) 0 0 bs.length = 0 := by
    unfold writeS withinS usersL
    rw [s20_at]
    have : inB 0 bs.length = true := by unfold inB; exact decide_eq_true (by omega)
    rw [this]; rfl
  have hL : writeL (S20 1 blank) 0 0 bs = S20 1 (putB blank 0 bs) := by unfold writeL; rw [hw]; rfl
  rw [hw, hL] at c
  exact c
theorem s20_share {w : World} {a : Nat} {F : Nat → Prop} {n : Nat} {B : List UInt8} (h : PoolAt w a F (S20 (n + 1) B)) (hn : n < 1000) :
    Calls Try.prog 14 #[.pointer (some ⟨a, 0, none⟩), .int .i64 0] w fun e w' => e = .returned (.int .i64 0) ∧ PoolAt w' a F (S20 (n + 2) B) ∧ Turn F w w' := by
  have c := share_any h 0 (by unfold usersL; rw [s20_at]; simp; omega)
  have hS : shareS (S20 (n + 1) B) 0 = 0 := by unfold shareS usersL; rw [s20_at]; simp
  have hL : shareL (S20 (n + 1) B) 0 = S20 (n + 2) B := by unfold shareL usersL; rw [s20_at]; simp [S20]
  rw [hS, hL] at c
  exact c
theorem sh_read0 {w : World} {a l : Nat} {F : Nat → Prop} {L : List Pg} {p : Pg} (h : PoolAt w a F L) (hp : L[0]? = some p) (hu : p.users ≠ 0) (hl : l ≤ 64) :
    Calls Try.prog 18 #[.pointer (some ⟨a, 0, none⟩), .int .i64 0, .int .i64 0, .int .i64 l] w fun e w' => ∃ v, e = .returned (.tuple #[v, .int .i64 0]) ∧ Byts v (p.bytes.take l) w' ∧ (∀ j, Blk v j → w.heap.size ≤ j) ∧ Turn NoBlock w w' :=
  sh_read (k := 0) h hp hu hl
theorem put_take {l bs : List UInt8} (h : bs.length ≤ l.length) : (putB l 0 bs).take bs.length = bs := by
  have := put_back (l := l) (bs := bs) (o := 0) (by omega)
  rwa [List.drop_zero] at this

set_option maxRecDepth 20000 in
set_option maxHeartbeats 4000000 in
theorem shared_walk (pb : Option Addr) (lb cb n : Nat) (xb : List UInt8) (w : World) (hlb : lb ≤ 64) (hn1 : 2 ≤ n) (hn2 : n ≤ 15) (hb : xb.length = lb) (hvb : Src w (.slice pb lb cb) xb) :
    Calls Try.prog 6 #[.slice pb lb cb, .int .i64 n] w fun e w' => e = .returned (.bool true) ∧ Turn NoBlock w w' := by
  have c1 : Calls Try.prog 9 #[.int .i64 20] w _ := new_yes 20 w (by omega)
  obtain ⟨a, haw⟩ : ∃ a, w.heap.size = a := ⟨_, rfl⟩
  rw [haw] at c1
  have Haw := Lib.hid haw
  clear haw
  have HSb := Lib.hid (fun w' (t : Turn NoBlock w w') => hvb.past t)
  have HW1 := Lib.hid (fun w' F (h : PoolAt w' a F (S20 1 blank)) (hs : Src w' (.slice pb lb cb) xb) => s20_write h _ xb hs (by omega))
  have HBx := Lib.hid (show (putB blank 0 xb).take lb = xb from by rw [← hb]; exact put_take (by rw [hb]; show lb ≤ 64; omega))
  generalize putB blank 0 xb = B at *
  have Hlb := Lib.hid hlb
  have Hn := Lib.hid (And.intro hn1 hn2)
  clear hvb hb
  go_enter Try.func6, Try.ntmps6
  go_wp2_with (first
    | (go_at_call 9; (with_reducible refine c1.mono ?_); rintro x w1 ⟨rfl, F1, h1, t1, l1⟩; have K1 := Lib.hid (show OSt w w1 a F1 (List.replicate 20 Pg.none) from ⟨h1, t1, fun j hj => by have := l1 j hj; have := Haw.out; omega⟩); clear h1 t1 l1)
    | (go_at_call 11; (with_reducible refine (s20_alloc K1.out.pool).mono ?_); rintro x w2 ⟨rfl, F2, h2, t2, l2⟩; have K2 := Lib.hid (K1.out.step h2 t2 l2); clear h2 t2 l2)
    | (go_at_call 22; (with_reducible refine (HW1.out _ _ K2.out.pool (HSb.out _ K2.out.turn)).mono ?_); rintro x w3 ⟨rfl, h3, t3⟩; have K3 := Lib.hid (K2.out.same h3 t3); clear h3 t3))
  go_loopg [54] (n - 1) (fun g s wr => ∃ (i : Nat), g = n - 1 - i ∧ i ≤ n - 1 ∧ s = .int .i64 i ∧ Hid (OSt w wr a F2 (S20 (i + 1) B)))
  case atStart => exact ⟨0, by omega, by omega, rfl, K3⟩
  case round =>
    obtain ⟨i, hg, hi, rfl, HA⟩ := hrel
    by_cases hlt : i < n - 1
    · have c2 := s20_share HA.out.pool (by omega)
      go_wp2_with (go_at_call 14; (with_reducible refine c2.mono ?_); rintro x w4 ⟨rfl, h4, t4⟩; have K4 := Lib.hid (HA.out.same h4 t4); clear h4 t4)
      go_roundg (n - 1 - (i + 1))
      case measure => omega
      case rel => exact ⟨i + 1, rfl, by omega, by go_num, K4⟩
    · obtain rfl : i = n - 1 := by omega
      have HA2 := Lib.hid (show OSt w wr a F2 (S20 n B) from by have := HA.out; rwa [show n - 1 + 1 = n from by omega] at this)
      clear hg hlt c1 HA hi
      go_wp2_with (fail)
      go_loopg [8] n (fun g s wr => ∃ (i : Nat) (F : Nat → Prop) (L : List Pg), g = i ∧ 1 ≤ i ∧ i ≤ n ∧ s = .int .i64 i ∧ Hid (OSt w wr a F L ∧ Sh n i B L))
      case atStart => exact ⟨n, F2, _, rfl, by omega, by omega, rfl, ⟨HA2.out, sh_start n B⟩⟩
      case round =>
        obtain ⟨i, F, L, hg, hi1, hi2, rfl, HA⟩ := hrel
        by_cases hlt : 2 ≤ i
        · obtain ⟨q, hq⟩ : ∃ q, n - i + 1 = q := ⟨_, rfl⟩
          have hs := HA.out.2
          have c24 := Lib.hid (sh_users HA.out.1.pool hs)
          have c22 := Lib.hid (fun w' F (h : PoolAt w' a F L) v x (hv : Src w' v [x]) => sh_no h hs hlt v x hv)
          have c16 := Lib.hid (fun w' F (h : PoolAt w' a F L) => by have c := sh_own h hs hlt hi2 hn2; rw [hq] at c; exact c)
          have hL5 : ((L.set q ⟨1, B⟩).set 0 ⟨i - 1, B⟩)[q]? = some ⟨1, B⟩ := by
            have := hs.len
            rw [List.getElem?_set_ne (by omega), List.getElem?_set_self (by omega)]
          have HL5 := Lib.hid hL5
          have HN := Lib.hid (fun C => by have c := hs.step hlt hi2 hn2 C; rw [hq] at c; exact c)
          have HT := Lib.hid (fun z => show Turn NoBlock wr (wr.alloc (.cells #[.int .u8 z] 5)) from (Turn.refl NoBlock wr).alloc _)
          have b1 : ((q : Int) == 0) = false := by simp; omega
          have hi3 : (1 : Int) < (i : Int) := by omega
          have hi4 : (i : Int) < 256 := by omega
          have hwr : IntKind.u8.wrap (i : Int) = i := by simp [IntKind.wrap, IntKind.bits, IntKind.signed]; omega
          clear hs hL5 hq
          go_wp2_with (first
            | (go_at_call 24; (with_reducible refine c24.out.mono ?_); rintro x w4' ⟨rfl, rfl⟩)
            | (go_at_call 22; (with_reducible refine (c22.out _ _ (HA.out.1.past (HT.out _)).pool _ _ (src_byte _ 1 (by decide) (by decide))).mono ?_); rintro x w4 ⟨rfl, h4, t4⟩; have K4 := Lib.hid ((HA.out.1.past (HT.out _)).same h4 t4); clear h4 t4)
            | (go_at_call 16; (with_reducible refine (c16.out _ _ K4.out.pool).mono ?_); rintro x w5 ⟨rfl, F5, h5, t5, l5⟩; have K5 := Lib.hid (K4.out.step h5 t5 l5); clear h5 t5 l5)
            | (go_at_call 18; (with_reducible refine (sh_read K5.out.pool HL5.out Nat.one_ne_zero Hlb.out).mono ?_); rintro x w6 ⟨v6, rfl, b6, -, t6⟩; have K6 := Lib.hid (K5.out.past t6); have S6 := Lib.hid (show Src w6 v6 xb from HBx.out ▸ b6.src); clear b6 t6)
            | (go_at_call 20; (with_reducible refine (same_any _ _ _ _ S6.out (HSb.out _ K6.out.turn)).mono ?_); rintro x w6' ⟨rfl, rfl⟩)
            | (go_at_call 22; (with_reducible refine (sh_write (K6.out.past ((Turn.refl NoBlock _).alloc _)).pool HL5.out _ _ (src_byte _ _ (Int.natCast_nonneg _) hi4)).mono ?_); rintro x w7 ⟨rfl, h7, t7⟩; have K7 := Lib.hid ((K6.out.past ((Turn.refl NoBlock _).alloc _)).same h7 t7); clear h7 t7))
          go_roundg (i - 1)
          case measure => omega
          case rel => exact ⟨i - 1, F5, _, rfl, by omega, by omega, by go_num, ⟨K7.out, HN.out _⟩⟩
        · obtain rfl : i = 1 := by omega
          have hs := HA.out.2
          have c16 := Lib.hid (fun w' F (h : PoolAt w' a F L) => sh_own1 h hs)
          have hu : ((usedN L : Nat) : Int) = n := by have := hs.used (by omega) hi2 hn2; omega
          have c25 := Lib.hid (fun w' F (h : PoolAt w' a F L) => by have c := used_any h; rw [hu] at c; exact c)
          have H1 := Lib.hid hs.one
          clear hs hu
          go_wp2_with (first
            | (go_at_call 16; (with_reducible refine (c16.out _ _ HA.out.1.pool).mono ?_); rintro x w5 ⟨rfl, F5, h5, t5, l5⟩; have K5 := Lib.hid (HA.out.1.step h5 t5 l5); clear h5 t5 l5)
            | (go_at_call 18; (with_reducible refine (sh_read0 K5.out.pool H1.out Nat.one_ne_zero Hlb.out).mono ?_); rintro x w6 ⟨v6, rfl, b6, -, t6⟩; have K6 := Lib.hid (K5.out.past t6); have S6 := Lib.hid (show Src w6 v6 xb from HBx.out ▸ b6.src); clear b6 t6)
            | (go_at_call 20; (with_reducible refine (same_any _ _ _ _ S6.out (HSb.out _ K6.out.turn)).mono ?_); rintro x w6' ⟨rfl, rfl⟩)
            | (go_at_call 25; (with_reducible refine (c25.out _ _ K6.out.pool).mono ?_); rintro x w7 ⟨rfl, d7, rfl⟩; have K7 := Lib.hid (K6.out.past ((Turn.refl NoBlock _).drewN d7)))
            | (go_at_call 10; (with_reducible refine (awake_b K7.out.turn).mono ?_); rintro x w8 ⟨rfl, t8⟩; have K8 := Lib.hid t8; clear t8))
          go_ret
          exact ⟨rfl, K8.out⟩
end Go.Proofs.Ytkihibpmpebejaa
