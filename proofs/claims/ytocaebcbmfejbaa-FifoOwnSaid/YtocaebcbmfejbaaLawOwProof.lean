/-
  Proved: the statement FifoOwn returns true for every input and leaves its arguments as they were (what is handed in may be written over, and what is told, too: elements that wait stay as they were). Conditions: none.
-/
import Derived.Test.YtocaebcbmfejbaaRows
import Derived.Test.YtocaebcbmfejbaaLawOw
import Derived.Test.YtocaebcbmfejbaaFView
import Derived.WalkKit
import Derived.ProofKit
import Derived.OpenShut
namespace Go.Proofs.Ytocaebcbmfejbaa.fifoOwn
open Go.ChangeShapes Go.WideShapes Go.ChangeAt Go.RowKit
set_option linter.unusedVariables false

theorem own : ownKnob Try.prog.godebug = none := by kernel_rfl

set_option maxRecDepth 100000 in
theorem lifted (os : Os) (started : os.Started) (H : Type) (enc : TypeId × Value → H) :
    ReturnsInHanded {} Try.checked os 9 .any (Rows.fifoOwnSpec.pre6 enc Try.prog Try.f9 Rows.fifoOwnRow.domain false) (Rows.fifoOwnSpec.post enc Try.prog Try.f9 false true false false) := by
  refine returnsInHanded_of_change (C := Try.checked) own started (by kernel_rfl) Try.func9
    (ChangeSpec.witness6 (enc := enc) (C := Try.checked) false ⟨#[], #[.int .i64 0, .slice none 0 0], []⟩ 8 (by kernel_rfl) (by kernel_rfl) (by kernel_rfl) (by kernel_rfl)) ?_
  intro W base args ds gs before hval0 hW hcnd _
  have hval : ∀ (j : Nat) t v, Try.f9.params[j]? = some t → args[j]? = some v → Value.okWide Try.prog W .any base t v := hval0
  have hW' := hW
  obtain ⟨p, q, hA0, hV, rfl, hfz, hnd⟩ := hW
  have hA : DataW.TrodAll enc Try.prog W 0 (fun _ => true) true Try.f9.params.toList args.toList ds p := hA0
  rw [Try.params9] at hA hval
  obtain ⟨v0, vs0, d0, ds0, p0, q0, hargs, rfl, rfl, h0, r0⟩ := trodAll_cons hA
  obtain ⟨v1, vs1, d1, ds1, p1, q1, rfl, rfl, rfl, h1, r1⟩ := trodAll_cons r0
  obtain ⟨rfl, rfl, rfl⟩ := trodAll_nil r1
  obtain rfl : args = #[v0, v1] := by cases args; simp_all
  obtain ⟨rfl, rfl⟩ := trodVars_none hV
  obtain ⟨a0, rfl, rfl, rfl, w0⟩ := open_int Try.underlying3 (hval 0 3 v0 rfl rfl) h0
  obtain ⟨sp1, len1, cap1, rfl⟩ := okWide_slice bytesT (hval 1 35 v1 rfl rfl)
  obtain ⟨kb1, kl1, kr1⟩ := kbytes_view h1
  clear hA0 hval0
  simp only [List.append_nil] at hW'
  have hlt1 : ∀ x ∈ p1, x.block < W.heap.size := fun x hx => by simpa using hW'.lt x (by simp [hx])
  have walk : Calls Try.prog 9 #[.int .i64 a0, .slice sp1 len1 cap1] W fun e w' => e = .returned (.bool true) ∧ Below W.heap.size W w' := by
    have fin : ∀ {x : Ending} {w' : World}, x = .returned (.bool true) ∧ Turn NoBlock W w' → x = .returned (.bool true) ∧ Below W.heap.size W w' := fun hh => ⟨hh.1, hh.2.below (fun _ h => h.elim) (Nat.le_refl _)⟩
    by_cases hp : a0 < 1 ∨ 64 < a0
    · exact (own_no a0 sp1 len1 cap1 W hp).mono (fun e w' hh => fin hh)
    · obtain ⟨n, hn⟩ : ∃ n : Nat, a0 = (n : Int) := ⟨a0.toNat, by omega⟩
      subst hn
      by_cases hl : len1 = n
      · subst hl
        exact (own_walk len1 sp1 cap1 kb1 W (by omega) (by omega) kl1 kr1).mono (fun e w' hh => fin hh)
      · exact (own_len n sp1 len1 cap1 W (by omega) (by omega) hl).mono (fun e w' hh => fin hh)
  refine walk.mono fun e W' ⟨he, hg⟩ => ?_
  subst he
  refine ⟨_, rfl, _, _, _, [], _, [], hW', (trodAll_cons_mk (shut_bool Try.underlying4 _) trodAll_mk0), (trodAll_cons_mk (shut_int Try.underlying3 w0) (trodAll_cons_mk (Below.trod laidOut (by kernel_rfl) (of_decide_eq_true (by kernel_rfl)) h1 hg hlt1) trodAll_mk0)), rfl, hg.frame _, fun h => by cases h⟩

theorem over : Rows.fifoOwnRow.holds Try.pinned (OpenSpec.ofChange Rows.fifoOwnSpec) :=
  OpenClaim.holds_of_wide 9 Try.f9 rfl rfl rfl rfl rfl rfl rfl ⟨rfl, rfl, rfl, rfl, rfl⟩ rfl rfl rfl rfl rfl (by kernel_rfl) Try.func9 (by kernel_rfl)
    (of_decide_eq_true (by kernel_rfl)) (by unfold Func.isWrapper; first | (rw [if_pos (by decide +kernel)]; kernel_rfl) | (rw [if_neg (by decide +kernel)]; exact ⟨rfl, rfl⟩))
    (fun os started H enc _ => lifted os started H enc)

/-- ████ THE STATEMENT ████ -/
theorem proved : Rows.FifoOwnSaid :=
  over
#print axioms proved
end Go.Proofs.Ytocaebcbmfejbaa.fifoOwn
