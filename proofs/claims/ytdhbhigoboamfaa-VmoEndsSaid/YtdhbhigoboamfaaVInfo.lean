/-
  Info. No conditions but that the set is one that calls can make.
-/
import Derived.Test.YtdhbhigoboamfaaVSmall
namespace Go.Proofs.Ytdhbhigoboamfaa
open Go.ChangeShapes Go.WideShapes Go.ChangeAt Go.RowKit

section
variable {w : World} {s : Nat} {r : Rep} {M : Mod}
theorem info_no (h : SMem w s r M) (i : Int) (hi : fit i) (hO : M.O i = none) :
    Calls Try.prog 25 #[.pointer (some ⟨s, 0, none⟩), .int .i64 i] w fun e w' => e = .returned (.tuple #[.agg #[.int .i64 0, .int .i64 0, .int .i64 0, .int .i64 0, .bool false, .bool false], .bool false]) ∧ Turn NoBlock w w' := by
  have t1 : ∀ o, Turn NoBlock w (w.alloc o) := fun o => (Turn.refl NoBlock w).alloc o
  have l1 := fun o => (h.past (t1 o)).omap.look i hi
  rw [h.dead hO] at l1
  unfold ptrOf at l1
  have d3 := h.c3
  have hs := h.lt (.inl rfl)
  clear h hO t1
  go_enter Try.func25, Try.ntmps25
  go_wp2
  (try simp only [Exit.inBlock, Exit.then])
  refine bodyPost_ret (v := .tuple #[.agg #[.int .i64 0, .int .i64 0, .int .i64 0, .int .i64 0, .bool false, .bool false], .bool false]) (by rw [results_cell_tmp rfl]; go_simp) rfl ⟨rfl, ?_⟩
  repeat' (first | exact Turn.refl _ _ | refine Turn.drew ?_ | refine Turn.alloc ?_ _ | refine Turn.setCell ?_ (.inr (by simp)) _)
def InfoOf (o : Ob) : Value := .agg #[.int .i64 (o.size : Int), .int .i64 (o.par : Int), .int .i64 (o.kids : Int), .int .i64 (o.cnt : Int), .bool (decide (0 < o.depth)), .bool o.drp]
set_option maxRecDepth 20000 in
theorem info_yes (h : SMem w s r M) (i : Int) (hi : fit i) {o : Ob} (hO : M.O i = some o) :
    Calls Try.prog 25 #[.pointer (some ⟨s, 0, none⟩), .int .i64 i] w fun e w' => e = .returned (.tuple #[InfoOf o, .bool true]) ∧ Turn NoBlock w w' := by
  obtain ⟨a, pb, ha, hb, hc, hp⟩ := h.live hO
  have t1 : ∀ o, Turn NoBlock w (w.alloc o) := fun o => (Turn.refl NoBlock w).alloc o
  have l1 := fun o => (h.past (t1 o)).omap.look i hi
  rw [ha] at l1
  unfold ptrOf at l1
  have d3 := h.c3
  have g := ocells hc
  have d0 := g.c0
  have d1 := g.c1
  have d2 := g.c2
  have d4 := g.c4
  have d6 := g.c6
  have d7 := g.c7
  have ll := fun o ty => PMap.len (IMap.past hp (t1 o) (fun h => h)) ty
  have ld := fun o ty => PMap.len (IMap.past hp ((t1 o).drew) (fun h => h)) ty
  have hs := h.lt (.inl rfl)
  have halt : a < w.heap.size := lt_of_block hc
  clear h hO ha hb hc hp g t1
  go_enter Try.func25, Try.ntmps25
  go_wp2
  go_region
  all_goals
    go_wp2
    (try simp only [Exit.inBlock, Exit.then])
    refine bodyPost_ret (v := .tuple #[InfoOf o, .bool true]) (by rw [results_cell_tmp rfl]; unfold InfoOf; go_simp) rfl ⟨rfl, ?_⟩
    repeat' (first | exact Turn.refl _ _ | refine Turn.drew ?_ | refine Turn.alloc ?_ _ | refine Turn.setCell ?_ (.inr (by simp)) _)
end
end Go.Proofs.Ytdhbhigoboamfaa
