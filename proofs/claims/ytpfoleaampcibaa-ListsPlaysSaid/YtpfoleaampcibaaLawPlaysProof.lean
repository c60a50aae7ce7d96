/-
  Proved: the statement ListsPlays returns true for every input and leaves its arguments as they were (whatever the calls, the lists answer as the document's plain lists do). Conditions: none.
  The walk lies in YtpfoleaampcibaaLawPlays.
-/
import Derived.Test.YtpfoleaampcibaaRows
import Derived.Test.YtpfoleaampcibaaLawPlays
import Derived.Test.YtpfoleaampcibaaFrame
import Derived.Test.YtpfoleaampcibaaOpView
import Derived.WalkKit
import Derived.ProofKit
import Derived.OpenShut
namespace Go.Proofs.Ytpfoleaampcibaa
open Go.ChangeShapes Go.WideShapes Go.ChangeAt Go.RowKit

namespace listsPlays

theorem own : ownKnob Try.prog.godebug = none := by kernel_rfl

set_option maxRecDepth 100000 in
theorem lifted (os : Os) (started : os.Started) (H : Type) (enc : TypeId × Value → H) :
    ReturnsInHanded {} Try.checked os 3 .any (Rows.listsPlaysSpec.pre6 enc Try.prog Try.f3 Rows.listsPlaysRow.domain false) (Rows.listsPlaysSpec.post enc Try.prog Try.f3 false true false false) := by
  refine returnsInHanded_of_change (C := Try.checked) own started (by kernel_rfl) Try.func3
    (ChangeSpec.witness6 (enc := enc) (C := Try.checked) false ⟨#[], #[.int .i64 0, .int .i64 0, .slice none 0 0], []⟩ 8 (by kernel_rfl) (by kernel_rfl) (by kernel_rfl) (by kernel_rfl)) ?_
  intro W base args ds gs before hval0 hW hcnd _
  have hval : ∀ (j : Nat) t v, Try.f3.params[j]? = some t → args[j]? = some v → Value.okWide Try.prog W .any base t v := hval0
  have hW' := hW
  obtain ⟨p, q, hA0, hV, rfl, hfz, hnd⟩ := hW
  have hA : DataW.TrodAll enc Try.prog W 0 (fun _ => true) true Try.f3.params.toList args.toList ds p := hA0
  rw [Try.params3] at hA hval
  obtain ⟨v0, vs0, d0, ds0, p0, q0, hargs, rfl, rfl, h0, r0⟩ := trodAll_cons hA
  obtain ⟨v1, vs1, d1, ds1, p1, q1, rfl, rfl, rfl, h1, r1⟩ := trodAll_cons r0
  obtain ⟨v2, vs2, d2, ds2, p2, q2, rfl, rfl, rfl, h2, r2⟩ := trodAll_cons r1
  obtain ⟨rfl, rfl, rfl⟩ := trodAll_nil r2
  obtain rfl : args = #[v0, v1, v2] := by cases args; simp_all
  obtain ⟨rfl, rfl⟩ := trodVars_none hV
  obtain ⟨a0, rfl, rfl, rfl, w0⟩ := open_int Try.underlying3 (hval 0 3 v0 rfl rfl) h0
  obtain ⟨a1, rfl, rfl, rfl, w1⟩ := open_int Try.underlying3 (hval 1 3 v1 rfl rfl) h1
  obtain ⟨a2, len, cap, rfl⟩ := okWide_slice opsUnder (hval 2 22 v2 rfl rfl)
  clear hA0 hval0
  simp only [List.append_nil] at hW'
  have hlt : ∀ x ∈ p2, x.block < W.heap.size := fun x hx => by simpa using hW'.lt x (by simp [hx])
  obtain ⟨os, hos, hof⟩ := ops_view h2
  have walk : Calls Try.prog 3 #[.int .i64 a0, .int .i64 a1, .slice a2 len cap] W fun e w' => e = .returned (.bool true) ∧ Below W.heap.size W w' := by
    by_cases hc : a0 < 0 ∨ 65536 < a0 ∨ a1 < 0 ∨ 65536 < a1
    · refine (plays_none a0 a1 a2 len cap W hc).mono ?_
      rintro e w' ⟨he, hw⟩
      exact ⟨he, hw.below (fun _ h => h.elim) (Nat.le_refl _)⟩
    · obtain ⟨k, rfl⟩ : ∃ k : Nat, a0 = k := ⟨a0.toNat, by omega⟩
      obtain ⟨n, rfl⟩ : ∃ n : Nat, a1 = n := ⟨a1.toNat, by omega⟩
      by_cases hn : 150 < len ∨ 20 < k
      · refine (plays_past k n a2 len cap W (by omega) (by omega) hn).mono ?_
        rintro e w' ⟨he, hw⟩
        exact ⟨he, hw.below (fun _ h => h.elim) (Nat.le_refl _)⟩
      · refine (plays_walk os k n a2 len cap W (by omega) (by omega) (by omega) hos).mono ?_
        rintro e w' ⟨he, hw⟩
        exact ⟨he, hw.below (fun _ h => h.elim) (Nat.le_refl _)⟩
  refine walk.mono fun e W' ⟨he, hg⟩ => ?_
  subst he
  refine ⟨_, rfl, _, _, _, [], _, [], hW', (trodAll_cons_mk (shut_bool Try.underlying4 _) trodAll_mk0),
    (trodAll_cons_mk (shut_int Try.underlying3 w0) (trodAll_cons_mk (shut_int Try.underlying3 w1) (trodAll_cons_mk (Below.trod laidOut (by kernel_rfl) (of_decide_eq_true (by kernel_rfl)) h2 hg hlt) trodAll_mk0))), rfl, hg.frame _, fun h => by cases h⟩

theorem over : Rows.listsPlaysRow.holds Try.pinned (OpenSpec.ofChange Rows.listsPlaysSpec) :=
  OpenClaim.holds_of_wide 3 Try.f3 rfl rfl rfl rfl rfl rfl rfl ⟨rfl, rfl, rfl, rfl, rfl⟩ rfl rfl rfl rfl rfl (by kernel_rfl) Try.func3 (by kernel_rfl)
    (of_decide_eq_true (by kernel_rfl)) (by unfold Func.isWrapper; first | (rw [if_pos (by decide +kernel)]; kernel_rfl) | (rw [if_neg (by decide +kernel)]; exact ⟨rfl, rfl⟩))
    (fun os started H enc _ => lifted os started H enc)

theorem proved : Rows.ListsPlaysSaid :=
  over
#print axioms proved
end listsPlays
end Go.Proofs.Ytpfoleaampcibaa
