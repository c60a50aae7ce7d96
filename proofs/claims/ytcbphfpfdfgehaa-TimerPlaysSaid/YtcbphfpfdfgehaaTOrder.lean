/-
  The order of two entries. No conditions.
-/
import Derived.Test.YtcbphfpfdfgehaaTCalls
import Derived.Sort.Grow
namespace Go.Proofs.Ytcbphfpfdfgehaa
open Go.ChangeShapes Go.WideShapes Go.ChangeAt Go.RowKit Go.Sort

theorem or_new (Z : World) (x y : Int) (z : Int) (hz : Hid ((if x = 0 then y else x) = z)) (g : Nat) (hg : Z.heap.size = g) : Calls Try.prog 79 #[.slice (some ⟨g, 0, none⟩) 2 2] (Z.alloc (.cells #[.int .i64 x, .int .i64 y] 3)).drew fun e w' => e = .returned (.int .i64 z) ∧ (Z.alloc (.cells #[.int .i64 x, .int .i64 y] 3)).drew = w' := by
  subst hg
  have := hz.out
  subst this
  exact or_any _ x y _ (World.cell?_alloc_new Z _ _ 0) (World.cell?_alloc_new Z _ _ 1)
set_option maxHeartbeats 1000000 in
theorem order_any (a b : En) (w : World) : Calls Try.prog 62 #[a.agg, b.agg] w fun e w' => e = .returned (.int .i64 (ordI a b)) ∧ ∃ m os', w' = grow (w.drewN m) os' := by
  unfold En.agg
  unfold ordI
  obtain ⟨k1, d1⟩ := a
  obtain ⟨k2, d2⟩ := b
  simp only
  have cc := compare_any d1 d2
  have ck := compare_any k1 k2
  generalize cmpI d1 d2 = x at *
  generalize cmpI k1 k2 = y at *
  obtain ⟨z, hz⟩ : ∃ z, (if x = 0 then y else x) = z := ⟨_, rfl⟩
  rw [hz]
  have HZ := Lib.hid hz
  clear hz
  have CC := Lib.hid cc
  have CK := Lib.hid ck
  clear cc ck
  obtain ⟨g, hg⟩ : ∃ g, w.heap.size = g := ⟨_, rfl⟩
  have n1 : ∀ (W : World) (x y : Int), W.heap.size = g → (W.alloc (.cells #[.int .i64 x, .int .i64 y] 118)).cell? ⟨g, 0, none⟩ = some (.int .i64 x) ∧ (W.alloc (.cells #[.int .i64 x, .int .i64 y] 118)).cell? ⟨g, 1, none⟩ = some (.int .i64 y) := fun W x y h => by
    subst h
    exact ⟨World.cell?_alloc_new W _ _ 0, World.cell?_alloc_new W _ _ 1⟩
  have hz1 : (w.alloc (.cells #[.int .i64 k1, .int .i64 d1] 118)).heap.size = g + 1 := by simp [hg]
  have hz2 : ((w.alloc (.cells #[.int .i64 k1, .int .i64 d1] 118)).alloc (.cells #[.int .i64 k2, .int .i64 d2] 118)).heap.size = g + 1 + 1 := by simp [hg]
  have a1 := n1 w k1 d1 hg
  have hlt : g < (w.alloc (.cells #[.int .i64 k1, .int .i64 d1] 118)).heap.size := by omega
  have b1 := ((Turn.refl NoBlock (w.alloc (.cells #[.int .i64 k1, .int .i64 d1] 118))).alloc (.cells #[.int .i64 k2, .int .i64 d2] 118)).cell a1.1 (fun h => h)
  have b2 := ((Turn.refl NoBlock (w.alloc (.cells #[.int .i64 k1, .int .i64 d1] 118))).alloc (.cells #[.int .i64 k2, .int .i64 d2] 118)).cell a1.2 (fun h => h)
  have b3 := World.cell?_alloc_new (w.alloc (.cells #[.int .i64 k1, .int .i64 d1] 118)) #[.int .i64 k2, .int .i64 d2] 118 0
  have b4 := World.cell?_alloc_new (w.alloc (.cells #[.int .i64 k1, .int .i64 d1] 118)) #[.int .i64 k2, .int .i64 d2] 118 1
  rw [hz1] at b3 b4
  have HGR := Lib.hid (show (w.alloc (.cells #[.int .i64 k1, .int .i64 d1] 118)).alloc (.cells #[.int .i64 k2, .int .i64 d2] 118) = grow w #[.cells #[.int .i64 k1, .int .i64 d1] 118, .cells #[.int .i64 k2, .int .i64 d2] 118] by rw [alloc_eq_grow, alloc_eq_grow, grow_grow]; rfl)
  have HG := Lib.hid hg
  clear a1 hz1 hlt n1 hg
  go_enter Try.func62, Try.ntmps62
  go_wp2
  rw [HG.out]
  generalize (w.alloc (.cells #[.int .i64 k1, .int .i64 d1] 118)).alloc (.cells #[.int .i64 k2, .int .i64 d2] 118) = W0 at *
  have HZ2 := Lib.hid hz2
  have K0 : (fun W' : World => W'.cell? ⟨g, 0, none⟩ = some (.int .i64 k1) ∧ W'.cell? ⟨g, 1, none⟩ = some (.int .i64 d1) ∧ W'.cell? ⟨g + 1, 0, none⟩ = some (.int .i64 k2) ∧ W'.cell? ⟨g + 1, 1, none⟩ = some (.int .i64 d2)) W0.drew := ⟨b1, b2, b3, b4⟩
  have T1 := ((Turn.refl NoBlock W0).alloc (.cells #[.int .i64 x, .int .i64 y] 3)).drew
  have K1 : (fun W' : World => W'.cell? ⟨g, 0, none⟩ = some (.int .i64 k1) ∧ W'.cell? ⟨g, 1, none⟩ = some (.int .i64 d1) ∧ W'.cell? ⟨g + 1, 0, none⟩ = some (.int .i64 k2) ∧ W'.cell? ⟨g + 1, 1, none⟩ = some (.int .i64 d2)) (W0.alloc (.cells #[.int .i64 x, .int .i64 y] 3)).drew := ⟨T1.cell b1 (fun h => h), T1.cell b2 (fun h => h), T1.cell b3 (fun h => h), T1.cell b4 (fun h => h)⟩
  clear T1 b1 b2 b3 b4
  go_region_held3 (fun W' => W'.cell? ⟨g, 0, none⟩ = some (.int .i64 k1) ∧ W'.cell? ⟨g, 1, none⟩ = some (.int .i64 d1) ∧ W'.cell? ⟨g + 1, 0, none⟩ = some (.int .i64 k2) ∧ W'.cell? ⟨g + 1, 1, none⟩ = some (.int .i64 d2)) (first | exact K0 | exact K1) (first
    | (go_at_call 80; (with_reducible refine (CC.out _).mono ?_); rintro e w' ⟨rfl, rfl⟩)
    | (go_at_call 80; (with_reducible refine (CK.out _).mono ?_); rintro e w' ⟨rfl, rfl⟩)
    | (go_at_call 79; (with_reducible refine (or_new _ _ _ _ HZ _ HZ2.out).mono ?_); rintro e w' ⟨rfl, rfl⟩))
  go_wp2
  go_ret
  refine ⟨rfl, 1, #[.cells #[.int .i64 k1, .int .i64 d1] 118, .cells #[.int .i64 k2, .int .i64 d2] 118, .cells #[.int .i64 x, .int .i64 y] 3], ?_⟩
  rw [HGR.out, alloc_eq_grow, grow_grow]
  rfl
theorem order_turn (a b : En) (w : World) : Calls Try.prog 62 #[a.agg, b.agg] w fun e w' => e = .returned (.int .i64 (ordI a b)) ∧ Turn NoBlock w w' := by
  refine (order_any a b w).mono ?_
  rintro e w' ⟨rfl, m, os', rfl⟩
  refine ⟨rfl, rfl, rfl, rfl, ?_, fun k hk _ => ?_⟩
  · simp [grow, World.drewN]
  · unfold grow
    simp only
    rw [Array.getElem?_append_left (by exact hk)]
    rfl
end Go.Proofs.Ytcbphfpfdfgehaa
