/-
  Proved: the statement NumRanges returns true for every input and leaves its arguments as they were (what lies within, what overlaps, and which pages are touched are what the document says). Conditions: none.
  The frame was written by the program proof-skeleton; the walk lies in YtobjmngfikmdhaaNumRangesW and YtobjmngfikmdhaaNumRangesV.
-/
import Derived.Test.YtobjmngfikmdhaaRows
import Derived.Test.YtobjmngfikmdhaaNumRangesV
import Derived.WalkKit
import Derived.ProofKit
import Derived.OpenShut
import Derived.Lib.SmallJoins
namespace Go.Proofs.Ytobjmngfikmdhaa.numRanges
open Go.ChangeShapes Go.WideShapes Go.ChangeAt Go.RowKit Go.Joins

theorem own : ownKnob Try.prog.godebug = none := by kernel_rfl

theorem cells34 : Try.prog.cellsOf 34 = 4 := by kernel_rfl

set_option maxRecDepth 100000 in
theorem lifted (os : Os) (started : os.Started) (H : Type) (enc : TypeId × Value → H) :
    ReturnsInHanded {} Try.checked os 6 .any (Rows.numRangesSpec.pre6 enc Try.prog Try.f6 Rows.numRangesRow.domain false) (Rows.numRangesSpec.post enc Try.prog Try.f6 false true false false) := by
  refine returnsInHanded_of_change (C := Try.checked) own started (by kernel_rfl) Try.func6
    (ChangeSpec.witness6 (enc := enc) (C := Try.checked) false ⟨#[], #[.agg #[.int .i64 0, .int .i64 0, .int .i64 0, .int .i64 0]], []⟩ 8 (by kernel_rfl) (by kernel_rfl) (by kernel_rfl) (by kernel_rfl)) ?_
  intro W base args ds gs before hval0 hW hcnd _
  have hval : ∀ (j : Nat) t v, Try.f6.params[j]? = some t → args[j]? = some v → Value.okWide Try.prog W .any base t v := hval0
  have hW' := hW
  obtain ⟨p, q, hA0, hV, rfl, hfz, hnd⟩ := hW
  have hA : DataW.TrodAll enc Try.prog W 0 (fun _ => true) true Try.f6.params.toList args.toList ds p := hA0
  rw [Try.params6] at hA hval
  obtain ⟨v2, vs2, d2, ds2, p2, q2, hargs, rfl, rfl, h2, r2⟩ := trodAll_cons hA
  obtain ⟨rfl, rfl, rfl⟩ := trodAll_nil r2
  obtain rfl : args = #[v2] := by cases args; simp_all
  obtain ⟨rfl, rfl⟩ := trodVars_none hV
  obtain ⟨c0, c1, c2, c3, y0, y1, y2, y3, m, rfl, rfl, rfl, g0, g1, g2, g3⟩ := open_agg4 Try.underlying34 (by kernel_rfl) cells34 (hval 0 34 v2 rfl rfl) h2
  obtain ⟨za, e0, rfl, wa⟩ := DataW.trod_int Try.underlying3 g0
  obtain ⟨zb, e1, rfl, wb⟩ := DataW.trod_int Try.underlying3 g1
  obtain ⟨zc, e2, rfl, wc⟩ := DataW.trod_int Try.underlying3 g2
  obtain ⟨zd, e3, rfl, wd⟩ := DataW.trod_int Try.underlying3 g3
  simp at e0 e1 e2 e3
  subst e0 e1 e2 e3
  clear hA0 hval0
  simp only [List.append_nil] at hW'
  have structReads : ∀ (W' : World) (sp : Nat → Bool), DataW.Trod enc Try.prog W' 0 sp true 34 (.agg #[.int .i64 za, .int .i64 zb, .int .i64 zc, .int .i64 zd]) (.agg [.lit (.int .i64 za), .lit (.int .i64 zb), .lit (.int .i64 zc), .lit (.int .i64 zd)]) [] := fun W' sp =>
    shut_agg4 (y0 := (.lit (.int .i64 za), [])) (y1 := (.lit (.int .i64 zb), [])) (y2 := (.lit (.int .i64 zc), [])) (y3 := (.lit (.int .i64 zd), [])) Try.underlying34 (by kernel_rfl) cells34 ⟨1, by simp [DataW.trod, Try.underlying3, wa]⟩ ⟨1, by simp [DataW.trod, Try.underlying3, wb]⟩ ⟨1, by simp [DataW.trod, Try.underlying3, wc]⟩ ⟨1, by simp [DataW.trod, Try.underlying3, wd]⟩
  refine (ranges_walk za zb zc zd W (bounds_i64 wa) (bounds_i64 wb) (bounds_i64 wc) (bounds_i64 wd)).mono fun e W' ⟨he, hg⟩ => ?_
  subst he
  refine ⟨_, rfl, _, _, _, [], _, [], hW', (trodAll_cons_mk (shut_bool Try.underlying4 _) trodAll_mk0),
    (trodAll_cons_mk (structReads _ _) trodAll_mk0), rfl, hg.frame _, fun h => by cases h⟩

theorem over : Rows.numRangesRow.holds Try.pinned (OpenSpec.ofChange Rows.numRangesSpec) :=
  OpenClaim.holds_of_wide 6 Try.f6 rfl rfl rfl rfl rfl rfl rfl ⟨rfl, rfl, rfl, rfl, rfl⟩ rfl rfl rfl rfl rfl (by kernel_rfl) Try.func6 (by kernel_rfl)
    (of_decide_eq_true (by kernel_rfl)) (by unfold Func.isWrapper; first | (rw [if_pos (by decide +kernel)]; kernel_rfl) | (rw [if_neg (by decide +kernel)]; exact ⟨rfl, rfl⟩))
    (fun os started H enc _ => lifted os started H enc)

theorem proved : Rows.NumRangesSaid :=
  over
#print axioms proved
end Go.Proofs.Ytobjmngfikmdhaa.numRanges
