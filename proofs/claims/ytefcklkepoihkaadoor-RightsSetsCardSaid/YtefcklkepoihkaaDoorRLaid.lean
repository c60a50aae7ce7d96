/-
  What the rows' condition says of the two tables: each cell; and that the initialisers' own heap meets it.
-/
import Derived.Test.YtefcklkepoihkaaDoorRows
import Derived.Test.YtefcklkepoihkaaDoorRAwake
import Derived.ProofKit
import Derived.LaidMore
import Derived.OpenShut
import Derived.Stop.Joined
namespace Go.Proofs.YtefcklkepoihkaaDoor
open Go.ChangeShapes Go.WideShapes Go.ChangeAt Go.WideMaps Go.WideElems Go.RowKit

abbrev laidD : List (String × DataW Unit) := [("jacinth/rights.defaults", Rows.laid_jacinth_rights_defaults)]
abbrev laidDN : List (String × DataW Unit) := [("jacinth/rights.defaults", Rows.laid_jacinth_rights_defaults), ("jacinth/rights.names", Rows.laid_jacinth_rights_names)]
theorem gDefs : Tryd.prog.globalNamed "jacinth/rights.defaults" = some 0 := by kernel_rfl
theorem gNames : Tryd.prog.globalNamed "jacinth/rights.names" = some 1 := by kernel_rfl
theorem tDefs : (Tryd.prog.globals[0]?).map (·.type) = some 44 := by kernel_rfl
theorem tNames : (Tryd.prog.globals[1]?).map (·.type) = some 45 := by kernel_rfl
theorem c22 : Tryd.prog.cellsOf 22 = 1 := by kernel_rfl
theorem c9 : Tryd.prog.cellsOf 9 = 1 := by kernel_rfl
theorem lits_defs {H : Type} : (Rows.laid_jacinth_rights_defaults : DataW H) = .agg ((List.range 12).map fun i => .lit (.int .i64 (dflt i))) := rfl
theorem lits_names {H : Type} : (Rows.laid_jacinth_rights_names : DataW H) = .agg ((List.range 12).map fun i => .lit (.string (nameB i).data.toList)) := rfl
theorem one_of_take {α : Type} {l : List α} {k : Nat} {v : α} (h : (l.drop k).take 1 = [v]) : l[k]? = some v := by
  have := congrArg (·[0]?) h
  simpa using this

theorem defs_of_trod {H : Type} {enc : TypeId × Value → H} {W : World} {sp : Nat → Bool} {m : Nat} {cs : Array Value} {ps : List MemPlace} (hv : W.var? Tryd.prog "jacinth/rights.defaults" = some cs)
    (h : DataW.trod enc Tryd.prog W 0 sp false m 44 cs.toList = some (Rows.laid_jacinth_rights_defaults, ps)) : Defs W := by
  obtain ⟨xs, m1, rfl, hx, hlen, hn, hel⟩ := DataW.trod_array Tryd.underlying44 h
  rw [c22] at hel
  simp only [Prod.mk.injEq] at hx
  rw [lits_defs] at hx
  have hl := DataW.agg.inj hx.1
  intro k hk
  have h1 := congrArg (·[k]?) hl
  simp only [List.getElem?_map, List.getElem?_range hk, Option.map_some] at h1
  obtain ⟨x, hxk, hx1⟩ := Option.map_eq_some_iff.1 h1.symm
  have h2 := (hel k hk).trans hxk
  obtain ⟨n, e1, e2, _⟩ := DataW.trod_int Tryd.underlying22 h2
  rw [Nat.mul_one] at e1
  have h3 := one_of_take e1
  rw [World.var?_cell gDefs hv k, ← Array.getElem?_toList, h3]
  rw [e2] at hx1
  have : n = dflt k := by simpa using hx1
  rw [this]
theorem names_of_trod {H : Type} {enc : TypeId × Value → H} {W : World} {sp : Nat → Bool} {m : Nat} {cs : Array Value} {ps : List MemPlace} (hv : W.var? Tryd.prog "jacinth/rights.names" = some cs)
    (h : DataW.trod enc Tryd.prog W 0 sp false m 45 cs.toList = some (Rows.laid_jacinth_rights_names, ps)) : Names W := by
  obtain ⟨xs, m1, rfl, hx, hlen, hn, hel⟩ := DataW.trod_array Tryd.underlying45 h
  rw [c9] at hel
  simp only [Prod.mk.injEq] at hx
  rw [lits_names] at hx
  have hl := DataW.agg.inj hx.1
  intro k hk
  have h1 := congrArg (·[k]?) hl
  simp only [List.getElem?_map, List.getElem?_range hk, Option.map_some] at h1
  obtain ⟨x, hxk, hx1⟩ := Option.map_eq_some_iff.1 h1.symm
  have h2 := (hel k hk).trans hxk
  obtain ⟨s, e1, e2, _⟩ := DataW.trod_string Tryd.underlying9 h2
  rw [Nat.mul_one] at e1
  have h3 := one_of_take e1
  rw [World.var?_cell gNames hv k, ← Array.getElem?_toList, h3]
  rw [e2] at hx1
  have : s.data.toList = (nameB k).data.toList := by simpa using hx1
  have : s = nameB k := ByteArray.ext (Array.toList_inj.1 this)
  rw [this]
theorem defs_of {W : World} (h : laidMetH Tryd.prog laidD W) : Defs W := by
  rw [MakeChecks.laidMetH_plain _ _ _ (by kernel_rfl)] at h
  obtain ⟨ps, ⟨g0, t0, cs0, f0, p0, q0, hg0, ht0, hv0, hd0, _, _⟩, _, _⟩ := h
  obtain rfl := Option.some.inj (gDefs.symm.trans hg0)
  obtain rfl := Option.some.inj (tDefs.symm.trans ht0)
  exact defs_of_trod hv0 hd0
theorem both_of {W : World} (h : laidMetH Tryd.prog laidDN W) : Defs W ∧ Names W := by
  rw [MakeChecks.laidMetH_plain _ _ _ (by kernel_rfl)] at h
  obtain ⟨ps, ⟨g0, t0, cs0, f0, p0, q0, hg0, ht0, hv0, hd0, ⟨g1, t1, cs1, f1, p1, q1, hg1, ht1, hv1, hd1, _, _⟩, _⟩, _, _⟩ := h
  obtain rfl := Option.some.inj (gDefs.symm.trans hg0)
  obtain rfl := Option.some.inj (gNames.symm.trans hg1)
  obtain rfl := Option.some.inj (tDefs.symm.trans ht0)
  obtain rfl := Option.some.inj (tNames.symm.trans ht1)
  exact ⟨defs_of_trod hv0 hd0, names_of_trod hv1 hd1⟩
theorem door_metD (os : Os) (args : Array Value) : laidMetH Tryd.prog laidD ((World.doorLaid Tryd.prog 400 os).forCall (fun _ _ => 0) ⟨#[], args, []⟩).memory :=
  laidMetH_of_parts3 (fuel := 8) (laidMet_of_run' 8 (by kernel_rfl) (by kernel_rfl)) (by kernel_rfl) (by kernel_rfl)
theorem door_metDN (os : Os) (args : Array Value) : laidMetH Tryd.prog laidDN ((World.doorLaid Tryd.prog 400 os).forCall (fun _ _ => 0) ⟨#[], args, []⟩).memory :=
  laidMetH_of_parts3 (fuel := 8) (laidMet_of_run' 8 (by kernel_rfl) (by kernel_rfl)) (by kernel_rfl) (by kernel_rfl)
end Go.Proofs.YtefcklkepoihkaaDoor
