/-
  Proved: the statement SpaceGuards returns true for every input and leaves its arguments as they were (memory that may not be read is not read, and what may not be written is not written, wherever a range touches it; protecting changes that). Conditions: none.
-/
import Derived.Test.YtdddmjdlikjedaaRows
import Derived.Test.YtdddmjdlikjedaaLawGu5
import Derived.Test.YtdddmjdlikjedaaGViewB
import Derived.WalkKit
import Derived.ProofKit
import Derived.OpenShut
namespace Go.Proofs.Ytdddmjdlikjedaa
open Go.ChangeShapes Go.WideShapes Go.ChangeAt Go.RowKit

theorem fieldsGu : fieldsOf (Try.prog.underlying 84) = [(3, 0), (3, 1), (3, 2), (3, 3)] := by kernel_rfl
theorem cellsGu : Try.prog.cellsOf 84 = 4 := by kernel_rfl
section
variable {H : Type} {enc : TypeId × Value → H} {W : World}
set_option maxRecDepth 100000 in
theorem guarded_read {r : Reach} {b0 : Nat} {v : Value} {d : DataW H} {p : List MemPlace} (hv : Value.okWide Try.prog W r b0 84 v) (h : DataW.Trod enc Try.prog W 0 (fun _ => true) true 84 v d p) :
    ∃ a b c e, v = .agg #[.int .i64 a, .int .i64 b, .int .i64 c, .int .i64 e] ∧ fit a ∧ fit b ∧ fit c ∧ fit e := by
  obtain ⟨fs, hs⟩ := struct_of fieldsGu (List.cons_ne_nil _ _)
  obtain ⟨cs, rfl, hsz⟩ := okWide_struct hs hv
  rw [cellsGu] at hsz
  obtain ⟨fuel, hf⟩ := h
  obtain ⟨l⟩ := cs
  simp only [Value.cells] at hf
  match l, hsz with
  | [c0, c1, c2, c3], _ =>
    obtain ⟨_, n, hp⟩ := parts_read fieldsGu (by simp) hf
    obtain ⟨y0, h0⟩ := hp 0 3 0 rfl
    obtain ⟨y1, h1⟩ := hp 1 3 1 rfl
    obtain ⟨y2, h2⟩ := hp 2 3 2 rfl
    obtain ⟨y3, h3⟩ := hp 3 3 3 rfl
    rw [cells3] at h0 h1 h2 h3
    obtain ⟨z0, rfl, g0⟩ := int_read int3 h0
    obtain ⟨z1, rfl, g1⟩ := int_read int3 h1
    obtain ⟨z2, rfl, g2⟩ := int_read int3 h2
    obtain ⟨z3, rfl, g3⟩ := int_read int3 h3
    exact ⟨z0, z1, z2, z3, rfl, g0, g1, g2, g3⟩
end
end Go.Proofs.Ytdddmjdlikjedaa

namespace Go.Proofs.Ytdddmjdlikjedaa.spaceGuards
open Go.ChangeShapes Go.WideShapes Go.ChangeAt Go.RowKit
set_option linter.unusedVariables false

theorem own : ownKnob Try.prog.godebug = none := by kernel_rfl

set_option maxRecDepth 100000 in
theorem lifted (os : Os) (started : os.Started) (H : Type) (enc : TypeId × Value → H) :
    ReturnsInHanded {} Try.checked os 12 .any (Rows.spaceGuardsSpec.pre6 enc Try.prog Try.f12 Rows.spaceGuardsRow.domain false) (Rows.spaceGuardsSpec.post enc Try.prog Try.f12 false true false false) := by
  refine returnsInHanded_of_change (C := Try.checked) own started (by kernel_rfl) Try.func12
    (ChangeSpec.witness6 (enc := enc) (C := Try.checked) false ⟨#[], #[.agg #[.int .i64 0, .int .i64 0, .int .i64 0, .int .i64 0]], []⟩ 8 (by kernel_rfl) (by kernel_rfl) (by kernel_rfl) (by kernel_rfl)) ?_
  intro W base args ds gs before hval0 hW hcnd _
  have hval : ∀ (j : Nat) t v, Try.f12.params[j]? = some t → args[j]? = some v → Value.okWide Try.prog W .any base t v := hval0
  have hW' := hW
  obtain ⟨p, q, hA0, hV, rfl, hfz, hnd⟩ := hW
  have hA : DataW.TrodAll enc Try.prog W 0 (fun _ => true) true Try.f12.params.toList args.toList ds p := hA0
  rw [Try.params12] at hA hval
  obtain ⟨v0, vs0, d0, ds0, p0, q0, hargs, rfl, rfl, h0, r0⟩ := trodAll_cons hA
  obtain ⟨rfl, rfl, rfl⟩ := trodAll_nil r0
  obtain rfl : args = #[v0] := by cases args; simp_all
  obtain ⟨rfl, rfl⟩ := trodVars_none hV
  obtain ⟨g0, g1, g2, g3, rfl, f0, f1, f2, f3⟩ := guarded_read (hval 0 84 v0 rfl rfl) h0
  clear hA0 hval0
  simp only [List.append_nil] at hW'
  have hlt0 : ∀ x ∈ p0, x.block < W.heap.size := fun x hx => by simpa using hW'.lt x (by simp [hx])
  have walk : Calls Try.prog 12 #[.agg #[.int .i64 g0, .int .i64 g1, .int .i64 g2, .int .i64 g3]] W fun e w' => e = .returned (.bool true) ∧ Below W.heap.size W w' := by
    have t : Calls Try.prog 12 #[.agg #[.int .i64 g0, .int .i64 g1, .int .i64 g2, .int .i64 g3]] W fun e w' => e = .returned (.bool true) ∧ Turn NoBlock W w' := gu_walk g0 g1 g2 g3 W f3
    exact t.mono (fun e w' hh => ⟨hh.1, hh.2.below (fun _ h => h.elim) (Nat.le_refl _)⟩)
  refine walk.mono fun e W' ⟨he, hg⟩ => ?_
  subst he
  refine ⟨_, rfl, _, _, _, [], _, [], hW', (trodAll_cons_mk (shut_bool Try.underlying4 _) trodAll_mk0), (trodAll_cons_mk (Below.trod laidOut (by kernel_rfl) (of_decide_eq_true (by kernel_rfl)) h0 hg hlt0) trodAll_mk0), rfl, hg.frame _, fun h => by cases h⟩

theorem over : Rows.spaceGuardsRow.holds Try.pinned (OpenSpec.ofChange Rows.spaceGuardsSpec) :=
  OpenClaim.holds_of_wide 12 Try.f12 rfl rfl rfl rfl rfl rfl rfl ⟨rfl, rfl, rfl, rfl, rfl⟩ rfl rfl rfl rfl rfl (by kernel_rfl) Try.func12 (by kernel_rfl)
    (of_decide_eq_true (by kernel_rfl)) (by unfold Func.isWrapper; first | (rw [if_pos (by decide +kernel)]; kernel_rfl) | (rw [if_neg (by decide +kernel)]; exact ⟨rfl, rfl⟩))
    (fun os started H enc _ => lifted os started H enc)

/-- ████ THE STATEMENT ████ -/
theorem proved : Rows.SpaceGuardsSaid :=
  over
#print axioms proved
end Go.Proofs.Ytdddmjdlikjedaa.spaceGuards
