/-
  The order of two waits: by deadlines, then by threads. No conditions but that both can be read.
-/
import Derived.Test.YtabakjimlndhcaaBTell
import Derived.Deep.RegionHeld3
import Derived.Deep.LoopGhost
import Derived.Deep.RegionLaw
import Derived.BigQuiet
import Derived.RegionTactic
import Derived.ChangeAlike
import Derived.Sort.Grow
namespace Go.Proofs.Ytabakjimlndhcaa
open Go.ChangeShapes Go.WideShapes Go.ChangeAt Go.RowKit Go.Sort

def cmpI (x y : Int) : Int := if x < y then -1 else if y < x then 1 else 0
def ordW (a b : Wt) : Int := if cmpI a.d b.d = 0 then cmpI a.t b.t else cmpI a.d b.d
def befW (a b : Wt) : Prop := a.d < b.d ∨ a.d = b.d ∧ a.t < b.t
theorem ordW_lt (a b : Wt) : ordW a b < 0 ↔ befW a b := by
  unfold ordW cmpI befW
  split <;> split <;> (try split) <;> (try split) <;> omega
theorem nan_no (x : Int) (w : World) : Calls Try.prog 103 #[.int .i64 x] w fun e w' => e = .returned (.bool false) ∧ w = w' := by
  go_enter Try.func103, Try.ntmps103
  go_wp2
  go_ret
  exact ⟨ret_bool (by simp), rfl⟩
theorem compare_any (x y : Int) (w : World) : Calls Try.prog 86 #[.int .i64 x, .int .i64 y] w fun e w' => e = .returned (.int .i64 (cmpI x y)) ∧ w = w' := by
  unfold cmpI
  have cn := fun x w => nan_no x w
  rcases (by omega : x < y ∨ y < x ∨ x = y) with h | h | h
  · rw [if_pos h]
    go_enter Try.func86, Try.ntmps86
    go_wp2_with (go_at_call 103; (with_reducible refine (cn _ _).mono ?_); rintro e w' ⟨rfl, rfl⟩)
    go_ret
    exact ⟨rfl, rfl⟩
  · have h2 : ¬ x < y := by omega
    rw [if_neg h2, if_pos h]
    go_enter Try.func86, Try.ntmps86
    go_wp2_with (go_at_call 103; (with_reducible refine (cn _ _).mono ?_); rintro e w' ⟨rfl, rfl⟩)
    go_ret
    exact ⟨rfl, rfl⟩
  · subst h
    have h2 : ¬ x < x := by omega
    rw [if_neg h2, if_neg h2]
    go_enter Try.func86, Try.ntmps86
    go_wp2_with (go_at_call 103; (with_reducible refine (cn _ _).mono ?_); rintro e w' ⟨rfl, rfl⟩)
    go_ret
    exact ⟨rfl, rfl⟩
theorem or_any (g : Nat) (x y : Int) (w : World) (h0 : w.cell? ⟨g, 0, none⟩ = some (.int .i64 x)) (h1 : w.cell? ⟨g, 1, none⟩ = some (.int .i64 y)) :
    Calls Try.prog 85 #[.slice (some ⟨g, 0, none⟩) 2 2] w fun e w' => e = .returned (.int .i64 (if x = 0 then y else x)) ∧ w = w' := by
  by_cases hx : x = 0
  · subst hx
    rw [if_pos rfl]
    by_cases hy : y = 0
    · subst hy
      go_enter Try.func85, Try.ntmps85
      go_wp2
      go_loopg [5, 8] 2 (fun z s5 s8 wr => (s8 = .int .i64 0 ∧ z = 2 ∧ w = wr) ∨ (s8 = .int .i64 1 ∧ z = 1 ∧ w = wr) ∨ (s8 = .int .i64 2 ∧ z = 0 ∧ w = wr))
      case atStart => exact .inl ⟨rfl, rfl, rfl⟩
      case round =>
        rcases hrel with ⟨rfl, hz, rfl⟩ | ⟨rfl, hz, rfl⟩ | ⟨rfl, hz, rfl⟩
        · go_wp2
          go_roundg 1
          case measure => omega
          case rel => exact .inr (.inl ⟨rfl, rfl, rfl⟩)
        · go_wp2
          go_roundg 0
          case measure => omega
          case rel => exact .inr (.inr ⟨rfl, rfl, rfl⟩)
        · go_wp2
          go_ret
          exact ⟨rfl, rfl⟩
    · have b : (y != 0) = true := bne_iff_ne.2 hy
      clear hy
      go_enter Try.func85, Try.ntmps85
      go_wp2
      go_loopg [5, 8] 1 (fun z s5 s8 wr => (s8 = .int .i64 0 ∧ z = 1 ∧ w = wr) ∨ (s8 = .int .i64 1 ∧ z = 0 ∧ w = wr))
      case atStart => exact .inl ⟨rfl, rfl, rfl⟩
      case round =>
        rcases hrel with ⟨rfl, hz, rfl⟩ | ⟨rfl, hz, rfl⟩
        · go_wp2
          go_roundg 0
          case measure => omega
          case rel => exact .inr ⟨rfl, rfl, rfl⟩
        · go_wp2
          go_ret
          exact ⟨rfl, rfl⟩
  · rw [if_neg hx]
    have b : (x != 0) = true := bne_iff_ne.2 hx
    clear hx
    go_enter Try.func85, Try.ntmps85
    go_wp2
    go_loopg [5, 8] 0 (fun z s5 s8 wr => s8 = .int .i64 0 ∧ z = 0 ∧ w = wr)
    case atStart => exact ⟨rfl, rfl, rfl⟩
    case round =>
      obtain ⟨rfl, hz, rfl⟩ := hrel
      go_wp2
      go_ret
      exact ⟨rfl, rfl⟩
theorem or_new (Z : World) (x y : Int) (z : Int) (hz : Hid ((if x = 0 then y else x) = z)) (g : Nat) (hg : Z.heap.size = g) : Calls Try.prog 85 #[.slice (some ⟨g, 0, none⟩) 2 2] (Z.alloc (.cells #[.int .i64 x, .int .i64 y] 3)).drew fun e w' => e = .returned (.int .i64 z) ∧ (Z.alloc (.cells #[.int .i64 x, .int .i64 y] 3)).drew = w' := by
  subst hg
  have := hz.out
  subst this
  exact or_any _ x y _ (World.cell?_alloc_new Z _ _ 0) (World.cell?_alloc_new Z _ _ 1)
set_option maxHeartbeats 1000000 in
theorem order_any (w : World) (p q : Nat) (a b : Wt) (p0 : w.cell? ⟨p, 0, none⟩ = some (.int .i64 a.t)) (p1 : w.cell? ⟨p, 1, none⟩ = some (.int .i64 a.d)) (q0 : w.cell? ⟨q, 0, none⟩ = some (.int .i64 b.t)) (q1 : w.cell? ⟨q, 1, none⟩ = some (.int .i64 b.d)) :
    Calls Try.prog 60 #[.pointer (some ⟨p, 0, none⟩), .pointer (some ⟨q, 0, none⟩)] w fun e w' => e = .returned (.int .i64 (ordW a b)) ∧ ∃ m os', w' = grow (w.drewN m) os' := by
  unfold ordW
  have cc := compare_any a.d b.d
  have ck := compare_any a.t b.t
  generalize cmpI a.d b.d = x at *
  generalize cmpI a.t b.t = y at *
  obtain ⟨z, hz⟩ : ∃ z, (if x = 0 then y else x) = z := ⟨_, rfl⟩
  rw [hz]
  have HZ := Lib.hid hz
  have CC := Lib.hid cc
  have CK := Lib.hid ck
  clear cc ck hz
  obtain ⟨k1, hk1⟩ : ∃ k, a.t = k := ⟨_, rfl⟩
  obtain ⟨d1, hd1⟩ : ∃ k, a.d = k := ⟨_, rfl⟩
  obtain ⟨k2, hk2⟩ : ∃ k, b.t = k := ⟨_, rfl⟩
  obtain ⟨d2, hd2⟩ : ∃ k, b.d = k := ⟨_, rfl⟩
  rw [hk1] at p0 CK
  rw [hd1] at p1 CC
  rw [hk2] at q0 CK
  rw [hd2] at q1 CC
  obtain ⟨g, hg⟩ : ∃ g, w.heap.size = g := ⟨_, rfl⟩
  have HG := Lib.hid hg
  clear hk1 hd1 hk2 hd2 hg
  have K0 : (fun W' : World => W'.cell? ⟨p, 0, none⟩ = some (.int .i64 k1) ∧ W'.cell? ⟨p, 1, none⟩ = some (.int .i64 d1) ∧ W'.cell? ⟨q, 0, none⟩ = some (.int .i64 k2) ∧ W'.cell? ⟨q, 1, none⟩ = some (.int .i64 d2)) w.drew := ⟨p0, p1, q0, q1⟩
  have T1 := ((Turn.refl NoBlock w).alloc (.cells #[.int .i64 x, .int .i64 y] 3)).drew
  have K1 : (fun W' : World => W'.cell? ⟨p, 0, none⟩ = some (.int .i64 k1) ∧ W'.cell? ⟨p, 1, none⟩ = some (.int .i64 d1) ∧ W'.cell? ⟨q, 0, none⟩ = some (.int .i64 k2) ∧ W'.cell? ⟨q, 1, none⟩ = some (.int .i64 d2)) (w.alloc (.cells #[.int .i64 x, .int .i64 y] 3)).drew := ⟨T1.cell p0 (fun h => h), T1.cell p1 (fun h => h), T1.cell q0 (fun h => h), T1.cell q1 (fun h => h)⟩
  clear T1 p0 p1 q0 q1
  go_enter Try.func60, Try.ntmps60
  go_wp2
  go_region_held3 (fun W' => W'.cell? ⟨p, 0, none⟩ = some (.int .i64 k1) ∧ W'.cell? ⟨p, 1, none⟩ = some (.int .i64 d1) ∧ W'.cell? ⟨q, 0, none⟩ = some (.int .i64 k2) ∧ W'.cell? ⟨q, 1, none⟩ = some (.int .i64 d2)) (first | exact K0 | exact K1) (first
    | (go_at_call 86; (with_reducible refine (CC.out _).mono ?_); rintro e w' ⟨rfl, rfl⟩)
    | (go_at_call 86; (with_reducible refine (CK.out _).mono ?_); rintro e w' ⟨rfl, rfl⟩)
    | (go_at_call 85; (with_reducible refine (or_new _ _ _ _ HZ _ rfl).mono ?_); rintro e w' ⟨rfl, rfl⟩))
  go_wp2
  go_ret
  refine ⟨rfl, 1, #[.cells #[.int .i64 x, .int .i64 y] 3], ?_⟩
  rw [alloc_eq_grow]
  rfl
end Go.Proofs.Ytabakjimlndhcaa
