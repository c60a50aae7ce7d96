/-
  A map from numbers to numbers that the call made, as a plain function and a size. No conditions.
-/
import Derived.Test.YtfpmbbplgdkogaaRows
import Derived.Test.YtfpmbbplgdkogaaThings
import Derived.Maps.OwnSet
import Derived.Maps.OwnOps
import Derived.Maps.Views
namespace Go.Proofs.Ytfpmbbplgdkogaa
open Go.ChangeShapes Go.WideShapes Go.ChangeAt Go.RowKit Go.Maps

theorem intKey : Keyed Try.prog 3 := int_keyed Try.underlying3
theorem mapUnder : Try.prog.underlying 46 = some (.map 3 3) := by kernel_rfl
theorem zeroInt (w : World) : (zeroValue 3).run Try.prog w = .ok (.int .i64 0) w := by kernel_rfl

theorem wf_int {i : Int} (h0 : -9223372036854775808 ≤ i) (h1 : i ≤ 9223372036854775807) : (Lit.int .i64 i).wf = true := by
  have e1 : IntKind.i64.min = -9223372036854775808 := rfl
  have e2 : IntKind.i64.max = 9223372036854775807 := rfl
  simp only [Lit.wf, Bool.and_eq_true, decide_eq_true_eq]
  omega
theorem key_int {i : Int} (h : (Lit.int .i64 i).wf = true) : keyOf Try.prog 3 (.int .i64 i) = some (.int .i64 i) := keyOf_int_mk Try.underlying3 h

/-- The datum D says what L says, and has s keys. -/
def Says (D : DataW Unit) (L : Int → Option Int) (s : Nat) : Prop :=
  (∀ i : Int, has D (.int .i64 i) = (L i).isSome ∧ ∀ z, D.atKey (.int .i64 i) z = ((L i).map fun v => DataW.lit (.int .i64 v)).getD z) ∧ size D = s

def MapAt (b n : Nat) (D : DataW Unit) (w : World) : Prop := w.ownsMap Try.prog 3 (plainElem Try.prog 3) b n D
def OneBlk (b : Nat) (k : Nat) : Prop := k = b

theorem own_map (b n : Nat) (D : DataW Unit) : Own (OneBlk b) (MapAt b n D) := by
  refine ⟨fun w w' G h ht hf => ?_, fun w h k hk => ?_⟩
  · obtain ⟨es, clock, hb, r⟩ := h
    exact ⟨es, clock, ht.heap hb (hf b rfl), r⟩
  · unfold OneBlk at hk
    subst hk
    exact World.ownsMap.lt h

theorem says_made : Says (.map []) (fun _ => none) 0 := ⟨fun _ => ⟨rfl, fun _ => rfl⟩, rfl⟩

theorem int_ne {i j : Int} (h : j ≠ i) : (Lit.int .i64 j) ≠ (Lit.int .i64 i) := fun e => h (by injection e)

theorem says_put {D : DataW Unit} {L : Int → Option Int} {s : Nat} {w : World} {b n : Nat} (h : Says D L s) (hm : MapAt b n D w) (i v : Int) (hL : L i = none) :
    Says (D.put (.int .i64 i) (.lit (.int .i64 v))) (fun j => if j = i then some v else L j) (s + 1) := by
  have ht : Tidy D := World.ownsMap.tidy hm intKey
  have hk : WideAt.IsKeyLit (.int .i64 i) := trivial
  refine ⟨fun j => ?_, ?_⟩
  · by_cases hj : j = i
    · subst hj
      simp only [if_pos]
      exact ⟨has_put_same ht.isMap hk _, fun z => atKey_put_same ht.isMap hk _ z⟩
    · simp only [if_neg hj]
      rw [has_put_other (int_ne hj) _]
      exact ⟨(h.1 j).1, fun z => by rw [atKey_put_other (int_ne hj) _ z]; exact (h.1 j).2 z⟩
  · rw [size_put ht, (h.1 i).1, hL, h.2]
    rfl

theorem says_del {D : DataW Unit} {L : Int → Option Int} {s : Nat} {w : World} {b n : Nat} (h : Says D L s) (hm : MapAt b n D w) (i : Int) :
    Says (D.del (.int .i64 i)) (fun j => if j = i then none else L j) (if (L i).isSome then s - 1 else s) := by
  have ht : Tidy D := World.ownsMap.tidy hm intKey
  refine ⟨fun j => ?_, ?_⟩
  · by_cases hj : j = i
    · subst hj
      simp only [if_pos]
      exact ⟨has_del_same, fun z => atKey_del_same z⟩
    · simp only [if_neg hj]
      rw [has_del_other (int_ne hj)]
      exact ⟨(h.1 j).1, fun z => by rw [atKey_del_other (int_ne hj) z]; exact (h.1 j).2 z⟩
  · have h1 := size_del (k := .int .i64 i) ht
    rw [(h.1 i).1, h.2] at h1
    by_cases hL : (L i).isSome = true
    · rw [if_pos hL] at h1 ⊢
      omega
    · rw [if_neg hL] at h1 ⊢
      omega

end Go.Proofs.Ytfpmbbplgdkogaa
