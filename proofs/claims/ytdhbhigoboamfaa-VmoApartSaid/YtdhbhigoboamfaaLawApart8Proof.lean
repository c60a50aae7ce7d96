/-
  Proved: the statement VmoApart returns true for every input and leaves its arguments as they were (behind a snapshot, whatever is written to one of both, the other one keeps its bytes; a slice has its parent's, whoever writes). Conditions: none.
-/
import Derived.Test.YtdhbhigoboamfaaRows
import Derived.Test.YtdhbhigoboamfaaLawApart8
import Derived.Test.YtdhbhigoboamfaaPView
import Derived.WalkKit
import Derived.ProofKit
import Derived.OpenShut
namespace Go.Proofs.Ytdhbhigoboamfaa.vmoApart
open Go.ChangeShapes Go.WideShapes Go.ChangeAt Go.RowKit
set_option linter.unusedVariables false

theorem own : ownKnob Try.prog.godebug = none := by kernel_rfl

set_option maxRecDepth 100000 in
theorem lifted (os : Os) (started : os.Started) (H : Type) (enc : TypeId × Value → H) :
    ReturnsInHanded {} Try.checked os 3 .any (Rows.vmoApartSpec.pre6 enc Try.prog Try.f3 Rows.vmoApartRow.domain false) (Rows.vmoApartSpec.post enc Try.prog Try.f3 false true false false) := by
  refine returnsInHanded_of_change (C := Try.checked) own started (by kernel_rfl) Try.func3
    (ChangeSpec.witness6 (enc := enc) (C := Try.checked) false ⟨#[], #[.agg #[.slice none 0 0, .slice none 0 0, .slice none 0 0, .int .i64 0]], []⟩ 8 (by kernel_rfl) (by kernel_rfl) (by kernel_rfl) (by kernel_rfl)) ?_
  intro W base args ds gs before hval0 hW hcnd _
  have hval : ∀ (j : Nat) t v, Try.f3.params[j]? = some t → args[j]? = some v → Value.okWide Try.prog W .any base t v := hval0
  have hW' := hW
  obtain ⟨p, q, hA0, hV, rfl, hfz, hnd⟩ := hW
  have hA : DataW.TrodAll enc Try.prog W 0 (fun _ => true) true Try.f3.params.toList args.toList ds p := hA0
  rw [Try.params3] at hA hval
  obtain ⟨v0, vs0, d0, ds0, p0, q0, hargs, rfl, rfl, h0, r0⟩ := trodAll_cons hA
  obtain ⟨rfl, rfl, rfl⟩ := trodAll_nil r0
  obtain rfl : args = #[v0] := by cases args; simp_all
  obtain ⟨rfl, rfl⟩ := trodVars_none hV
  obtain ⟨pa, la, ca, pb, lb, cb, pc, lc, cc, at0, xa, xb, xc, rfl, xla, xsa, xlb, xsb, xlc, xsc, f0⟩ := written_read (hval 0 24 v0 rfl rfl) h0
  clear hA0 hval0
  simp only [List.append_nil] at hW'
  have hlt0 : ∀ x ∈ p0, x.block < W.heap.size := fun x hx => by simpa using hW'.lt x (by simp [hx])
  have walk : Calls Try.prog 3 #[.agg #[.slice pa la ca, .slice pb lb cb, .slice pc lc cc, .int .i64 at0]] W fun e w' => e = .returned (.bool true) ∧ Below W.heap.size W w' := by
    have t : Calls Try.prog 3 #[.agg (wrCells pa pb pc la ca lb cb lc cc at0)] W fun e w' => e = .returned (.bool true) ∧ Turn NoBlock W w' := by
      by_cases hp : 256 < la ∨ 100 < lb ∨ 100 < lc ∨ at0 < 0 ∨ 150 < at0
      · exact apart8_past pa pb pc la ca lb cb lc cc at0 W hp
      · obtain ⟨o, rfl⟩ : ∃ o : Nat, at0 = o := ⟨at0.toNat, by omega⟩
        exact apart8_walk pa pb pc la ca lb cb lc cc o xa xb xc W xla xlb xlc (by omega) (by omega) (by omega) (by omega) xsa xsb xsc
    exact t.mono fun e w' h => ⟨h.1, h.2.below (fun k hk => by cases hk) (Nat.le_refl _)⟩
  refine walk.mono fun e W' ⟨he, hg⟩ => ?_
  subst he
  refine ⟨_, rfl, _, _, _, [], _, [], hW', (trodAll_cons_mk (shut_bool Try.underlying4 _) trodAll_mk0), (trodAll_cons_mk (Below.trod laidOut (by kernel_rfl) (of_decide_eq_true (by kernel_rfl)) h0 hg hlt0) trodAll_mk0), rfl, hg.frame _, fun h => by cases h⟩

theorem over : Rows.vmoApartRow.holds Try.pinned (OpenSpec.ofChange Rows.vmoApartSpec) :=
  OpenClaim.holds_of_wide 3 Try.f3 rfl rfl rfl rfl rfl rfl rfl ⟨rfl, rfl, rfl, rfl, rfl⟩ rfl rfl rfl rfl rfl (by kernel_rfl) Try.func3 (by kernel_rfl)
    (of_decide_eq_true (by kernel_rfl)) (by unfold Func.isWrapper; first | (rw [if_pos (by decide +kernel)]; kernel_rfl) | (rw [if_neg (by decide +kernel)]; exact ⟨rfl, rfl⟩))
    (fun os started H enc _ => lifted os started H enc)

/-- ████ THE STATEMENT ████ -/
theorem proved : Rows.VmoApartSaid :=
  over
#print axioms proved
end Go.Proofs.Ytdhbhigoboamfaa.vmoApart
