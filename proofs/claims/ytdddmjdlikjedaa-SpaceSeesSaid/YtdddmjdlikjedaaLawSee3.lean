/-
  SpaceSees' walk.
-/
import Derived.Test.YtdddmjdlikjedaaLawSee2
namespace Go.Proofs.Ytdddmjdlikjedaa
open Go.ChangeShapes Go.WideShapes Go.ChangeAt Go.RowKit

set_option maxRecDepth 20000 in
set_option maxHeartbeats 2000000 in
theorem see_walk (p : Option Addr) (cap : Nat) (bs : List UInt8) (x f : Int) (w : World) (hl : bs.length ≤ 300) (hx : 0 ≤ x ∧ x ≤ 200) (hf : 0 ≤ f ∧ f ≤ 4) (ha : SArg w p bs.length cap bs) : Calls Try.prog 11 #[.slice p bs.length cap, .int .i64 x, .int .i64 f] w fun e w' => e = .returned (.bool true) ∧ Turn NoBlock w w' := by
  have c1 : Calls Try.prog 14 #[.int .i64 64, .int .i64 4] w _ := vnew_yes 64 4 w (by omega) (by omega)
  have cA := awake10
  have hcv := conv_x
  have hz0 := Lib.hid (so_new 64 4 1024 (by omega) (by omega))
  have HA := Lib.hid ha
  have hw1 : IntKind.i64.wrap (64 * f) = 64 * f := wrap_fit (by unfold fit; omega)
  have hw2 : IntKind.i64.wrap (1024 + 64 * f) = 1024 + 64 * f := wrap_fit (by unfold fit; omega)
  have hw3 : IntKind.i64.wrap (1024 + 64 * f + x) = 1024 + 64 * f + x := wrap_fit (by unfold fit; omega)
  have hw4 : IntKind.i64.wrap (64 * f + x) = 64 * f + x := wrap_fit (by unfold fit; omega)
  have hN : ¬ (300 : Int) < (bs.length : Int) := by omega
  have hx0 : ¬ x < 0 := by omega
  have hx1 : ¬ 200 < x := by omega
  have hf0 : ¬ f < 0 := by omega
  have hf1 : ¬ 4 < f := by omega
  have hne : ((bs.length : Int) != (bs.length : Int)) = false := by simp
  have HX := Lib.hid (And.intro hl (And.intro hx hf))
  clear ha hl hx hf
  go_enter Try.func11, Try.ntmps11
  go_wp2_with (first
    | (go_at_call 39; (with_reducible refine (cA _).mono ?_); rintro e w16 ⟨rfl, t16⟩)
    | (go_at_call 44; (with_reducible refine (K11.out.usesA).mono ?_); rintro e w15 ⟨rfl, t15⟩; have T15 := Lib.hid (K11.out.turn.trans t15 (fun _ h => .inl h)); clear t15)
    | (go_at_call 21; (with_reducible refine (same_any _ _ _ _ S9.out (HA.out.src K11.out.turn)).mono ?_); rintro e w14 ⟨rfl, rfl⟩)
    | (go_at_call 21; (with_reducible refine (same_any _ _ _ _ S8.out (HA.out.src K11.out.turn)).mono ?_); rintro e w13 ⟨rfl, rfl⟩)
    | (go_at_call 21; (with_reducible refine (same_any _ _ _ _ S7.out (HA.out.src K11.out.turn)).mono ?_); rintro e w12 ⟨rfl, rfl⟩)
    | (go_at_call 42; (with_reducible refine ((K10.out.past ((Turn.refl NoBlock _).alloc _)).wrB _).mono ?_); rintro e w11 ⟨rfl, t11⟩; have K11 := Lib.hid ((K10.out.past ((Turn.refl NoBlock _).alloc _)).past t11); have S7 := Lib.hid ((R7.out.past ((Turn.refl NoBlock _).alloc _)).past t11); have S8 := Lib.hid ((R8.out.past ((Turn.refl NoBlock _).alloc _)).past t11); have S9 := Lib.hid ((R9.out.past ((Turn.refl NoBlock _).alloc _)).past t11); clear t11)
    | (go_at_call 18; (with_reducible refine (K9.out.rdO HX.out.2.2 HX.out.2.1 HX.out.1).mono ?_); rintro e w10 ⟨u9, rfl, r9, t10⟩; have K10 := Lib.hid (K9.out.past t10); have R7 := Lib.hid (R7.out.past t10); have R8 := Lib.hid (R8.out.past t10); have R9 := Lib.hid r9; clear t10 r9)
    | (go_at_call 43; (with_reducible refine (K8.out.rdB HX.out.2.2 HX.out.2.1 HX.out.1).mono ?_); rintro e w9 ⟨u8, rfl, r8, t9⟩; have K9 := Lib.hid (K8.out.past t9); have R7 := Lib.hid (R7.out.past t9); have R8 := Lib.hid r8; clear t9 r8)
    | (go_at_call 43; (with_reducible refine (K7.out.rdA HX.out.2.2 HX.out.2.1 HX.out.1).mono ?_); rintro e w8 ⟨u7, rfl, r7, t8⟩; have K8 := Lib.hid (K7.out.past t8); have R7 := Lib.hid r7; clear t8 r7)
    | (go_at_call 42; (with_reducible refine (K6.out.wr hz0.out HX.out.2.2 HX.out.2.1 p cap HX.out.1 HA.out).mono ?_); rintro e w7 ⟨rfl, k7⟩; have K7 := Lib.hid k7; clear k7)
    | (go_at_call 41; (with_reducible refine (K5.out.map2 hz0.out.at1 rfl rfl).mono ?_); rintro e w6 ⟨rfl, k6⟩; have K6 := Lib.hid k6; clear k6)
    | (go_at_call 41; (with_reducible refine (K4.out.map1 f HX.out.2.2 hz0.out.at1 rfl rfl).mono ?_); rintro e w5 ⟨rfl, k5⟩; have K5 := Lib.hid k5; clear k5)
    | (go_at_call 40; (with_reducible refine (znew_any s 4096 8 _ (by unfold isMul; omega) (by omega) (by omega)).mono ?_); rintro x w4 ⟨rfl, rfl⟩; have K4 := Lib.hid (see_new K2.out))
    | (go_at_call 40; (with_reducible refine (znew_any s 2048 8 _ (by unfold isMul; omega) (by omega) (by omega)).mono ?_); rintro x w3 ⟨rfl, rfl⟩)
    | (go_at_call 16; (with_reducible refine (so_create K1.out.mem (by omega) 1024 (by omega) (by omega)).mono ?_); rintro x w2 ⟨rfl, r2, m2, k2⟩; have K2 := Lib.hid (show VSt w w2 s r2 (ZN 64 4 1024) from K1.out.next m2 k2); clear m2 k2)
    | (go_at_call 14; (with_reducible refine c1.mono ?_); rintro x w1 ⟨s, r, rfl, m1, t1, f1⟩; have K1 := Lib.hid (show VSt w w1 s r (M0 64 4) from ⟨m1, t1, f1⟩); clear m1 t1 f1))
  go_ret
  exact ⟨rfl, T15.out.trans t16 (fun _ h => .inl h)⟩
end Go.Proofs.Ytdddmjdlikjedaa
