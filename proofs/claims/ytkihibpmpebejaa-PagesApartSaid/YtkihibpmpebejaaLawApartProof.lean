/-
  Proved: the statement PagesApart returns true for every input and leaves its arguments as they were (a frame that was shared and then owned is written without the other one being changed). Conditions: none.
-/
import Derived.Test.YtkihibpmpebejaaRows
import Derived.Test.YtkihibpmpebejaaLawApart2
import Derived.Test.YtkihibpmpebejaaPView
import Derived.WalkKit
import Derived.ProofKit
import Derived.OpenShut
namespace Go.Proofs.Ytkihibpmpebejaa.pagesApart
open Go.ChangeShapes Go.WideShapes Go.ChangeAt Go.RowKit
set_option linter.unusedVariables false

theorem own : ownKnob Try.prog.godebug = none := by kernel_rfl

set_option maxRecDepth 100000 in
theorem lifted (os : Os) (started : os.Started) (H : Type) (enc : TypeId × Value → H) :
    ReturnsInHanded {} Try.checked os 4 .any (Rows.pagesApartSpec.pre6 enc Try.prog Try.f4 Rows.pagesApartRow.domain false) (Rows.pagesApartSpec.post enc Try.prog Try.f4 false true false false) := by
  refine returnsInHanded_of_change (C := Try.checked) own started (by kernel_rfl) Try.func4
    (ChangeSpec.witness6 (enc := enc) (C := Try.checked) false ⟨#[], #[.agg #[.slice none 0 0, .slice none 0 0, .int .i64 0, .int .i64 0]], []⟩ 8 (by kernel_rfl) (by kernel_rfl) (by kernel_rfl) (by kernel_rfl)) ?_
  intro W base args ds gs before hval0 hW hcnd _
  have hval : ∀ (j : Nat) t v, Try.f4.params[j]? = some t → args[j]? = some v → Value.okWide Try.prog W .any base t v := hval0
  have hW' := hW
  obtain ⟨p, q, hA0, hV, rfl, hfz, hnd⟩ := hW
  have hA : DataW.TrodAll enc Try.prog W 0 (fun _ => true) true Try.f4.params.toList args.toList ds p := hA0
  rw [Try.params4] at hA hval
  obtain ⟨v0, vs0, d0, ds0, p0, q0, hargs, rfl, rfl, h0, r0⟩ := trodAll_cons hA
  obtain ⟨rfl, rfl, rfl⟩ := trodAll_nil r0
  obtain rfl : args = #[v0] := by cases args; simp_all
  obtain ⟨rfl, rfl⟩ := trodVars_none hV
  obtain ⟨pa, la, ca, pb, lb, cb, at0, more, xa, xb, rfl, xla, xma, xsa, xlb, xmb, xsb, f0, f1⟩ := shared_read (hval 0 55 v0 rfl rfl) h0
  clear hA0 hval0
  simp only [List.append_nil] at hW'
  have hlt0 : ∀ x ∈ p0, x.block < W.heap.size := fun x hx => by simpa using hW'.lt x (by simp [hx])
  have walk : Calls Try.prog 4 #[.agg #[.slice pa la ca, .slice pb lb cb, .int .i64 at0, .int .i64 more]] W fun e w' => e = .returned (.bool true) ∧ Below W.heap.size W w' := by
    have t : Calls Try.prog 4 #[.agg (shCells pa pb la ca lb cb at0 more)] W fun e w' => e = .returned (.bool true) ∧ Turn NoBlock W w' := by
      by_cases hp : 64 < la ∨ at0 < 0 ∨ 64 < at0 ∨ (0 ≤ at0 ∧ at0 ≤ 64 ∧ 64 - at0 < (lb : Int)) ∨ more < 0 ∨ 5 < more
      · exact apart_past pa pb la ca lb cb at0 more W hp
      · obtain ⟨o, rfl⟩ : ∃ o : Nat, at0 = o := ⟨at0.toNat, by omega⟩
        obtain ⟨m, rfl⟩ : ∃ m : Nat, more = m := ⟨more.toNat, by omega⟩
        exact apart_walk pa pb la ca lb cb o m xa xb W (by omega) (by omega) (by omega) xla xlb xsa xsb
    exact t.mono fun e w' h => ⟨h.1, h.2.below (fun k hk => by cases hk) (Nat.le_refl _)⟩
  refine walk.mono fun e W' ⟨he, hg⟩ => ?_
  subst he
  refine ⟨_, rfl, _, _, _, [], _, [], hW', (trodAll_cons_mk (shut_bool Try.underlying4 _) trodAll_mk0), (trodAll_cons_mk (Below.trod laidOut (by kernel_rfl) (of_decide_eq_true (by kernel_rfl)) h0 hg hlt0) trodAll_mk0), rfl, hg.frame _, fun h => by cases h⟩

theorem over : Rows.pagesApartRow.holds Try.pinned (OpenSpec.ofChange Rows.pagesApartSpec) :=
  OpenClaim.holds_of_wide 4 Try.f4 rfl rfl rfl rfl rfl rfl rfl ⟨rfl, rfl, rfl, rfl, rfl⟩ rfl rfl rfl rfl rfl (by kernel_rfl) Try.func4 (by kernel_rfl)
    (of_decide_eq_true (by kernel_rfl)) (by unfold Func.isWrapper; first | (rw [if_pos (by decide +kernel)]; kernel_rfl) | (rw [if_neg (by decide +kernel)]; exact ⟨rfl, rfl⟩))
    (fun os started H enc _ => lifted os started H enc)

/-- ████ THE STATEMENT ████ -/
theorem proved : Rows.PagesApartSaid :=
  over
#print axioms proved
end Go.Proofs.Ytkihibpmpebejaa.pagesApart
