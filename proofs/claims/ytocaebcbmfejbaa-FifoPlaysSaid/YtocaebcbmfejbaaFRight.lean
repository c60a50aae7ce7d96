/-
  What the document's own Right answers: which fifos there can be. No conditions.
-/
import Derived.Test.YtocaebcbmfejbaaFNew
import Derived.Deep.LoopGhost
namespace Go.Proofs.Ytocaebcbmfejbaa
open Go.ChangeShapes Go.WideShapes Go.ChangeAt Go.RowKit

theorem pow2_gap : ∀ p q : Fin 1025, pow2 p.val = true → pow2 q.val = true → q.val < 2 * p.val → q.val ≤ p.val := by
  have h : ∀ p ∈ [1, 2, 4, 8, 16, 32, 64, 128, 256, 512, 1024], ∀ q ∈ [1, 2, 4, 8, 16, 32, 64, 128, 256, 512, 1024], q < 2 * p → q ≤ p := by decide
  intro p q hp hq hl
  exact h p.val (List.contains_iff_mem.1 hp) q.val (List.contains_iff_mem.1 hq) hl
theorem pow2_twice {p : Nat} (hp : pow2 p = true) (hl : p < 1024) : pow2 (p * 2) = true := by
  have h : ∀ p ∈ [1, 2, 4, 8, 16, 32, 64, 128, 256, 512, 1024], p < 1024 → pow2 (p * 2) = true := by decide
  exact h p (List.contains_iff_mem.1 hp) hl
theorem pow2_le {p : Nat} (hp : pow2 p = true) : 1 ≤ p ∧ p ≤ 1024 := by
  have h : ∀ p ∈ [1, 2, 4, 8, 16, 32, 64, 128, 256, 512, 1024], 1 ≤ p ∧ p ≤ 1024 := by decide
  exact h p (List.contains_iff_mem.1 hp)
/-- The loop's powers of two. -/
def PInv (count p : Nat) : Prop := pow2 p = true ∧ ∀ q, pow2 q = true → q < p → q < count
theorem PInv.next {count p : Nat} (h : PInv count p) (hl : p < count) (hc : count ≤ 1024) : PInv count (p * 2) := by
  refine ⟨pow2_twice h.1 (by omega), fun q hq hlt => ?_⟩
  have h1 := pow2_le h.1
  have h2 := pow2_le hq
  have := pow2_gap ⟨p, by omega⟩ ⟨q, by omega⟩ h.1 hq (by show q < 2 * p; omega)
  have h3 : q ≤ p := this
  omega
theorem PInv.done {count p : Nat} (h : PInv count p) (hl : count ≤ p) : decide (p = count) = pow2 count := by
  by_cases he : p = count
  · subst he; rw [h.1]; simp
  · rw [show decide (p = count) = false by simpa using he]
    cases hp : pow2 count with
    | false => rfl
    | true => have := h.2 count hp (by omega); omega
set_option maxHeartbeats 2000000 in
theorem fright13 (a b : Int) (w : World) :
    Calls Try.prog 39 #[.int .i64 a, .int .i64 b] w fun x w' => (x = .returned (.bool true) ∧ good a b ∨ x = .returned (.bool false) ∧ ¬ good a b) ∧ w = w' := by
  by_cases h1 : b < 1
  · have HN := Lib.hid (show ¬ good a b from fun h => by have := h.2.1; omega)
    go_enter Try.func39, Try.ntmps39
    go_wp2
    go_ret
    exact ⟨.inr ⟨rfl, HN.out⟩, rfl⟩
  by_cases h2 : 64 < b
  · have HN := Lib.hid (show ¬ good a b from fun h => by have := h.2.2.2.1; omega)
    go_enter Try.func39, Try.ntmps39
    go_wp2
    go_ret
    exact ⟨.inr ⟨rfl, HN.out⟩, rfl⟩
  by_cases h3 : a < 1
  · have HN := Lib.hid (show ¬ good a b from fun h => by have := h.1; omega)
    go_enter Try.func39, Try.ntmps39
    go_wp2
    go_ret
    exact ⟨.inr ⟨rfl, HN.out⟩, rfl⟩
  by_cases h4 : 1024 < a
  · have HN := Lib.hid (show ¬ good a b from fun h => by have := h.2.2.1; omega)
    go_enter Try.func39, Try.ntmps39
    go_wp2
    go_ret
    exact ⟨.inr ⟨rfl, HN.out⟩, rfl⟩
  obtain ⟨n, rfl⟩ : ∃ n : Nat, a = n := ⟨a.toNat, by omega⟩
  have hpb : (n : Int) * b ≤ 1024 * 64 := Int.mul_le_mul (by omega) (by omega) (by omega) (by omega)
  have hp0 : 0 ≤ (n : Int) * b := Int.mul_nonneg (by omega) (by omega)
  have ew : IntKind.i64.wrap ((n : Int) * b) = (n : Int) * b := wrap_fit _ (by unfold fit; omega)
  have HG := Lib.hid (show good (n : Int) b ↔ pow2 n = true ∧ (n : Int) * b ≤ 4096 from ⟨fun h => ⟨h.2.2.2.2.1, h.2.2.2.2.2⟩, fun h => ⟨by omega, by omega, by omega, by omega, h.1, h.2⟩⟩)
  have hn1 : n ≤ 1024 := by omega
  have fin : ∀ (v : Bool), (v = (pow2 n && decide ((n : Int) * b ≤ 4096))) → ((Ending.returned (.bool v) = .returned (.bool true) ∧ good (n : Int) b) ∨ (Ending.returned (.bool v) = .returned (.bool false) ∧ ¬ good (n : Int) b)) := by
    intro v hv
    cases hp : pow2 n with
    | false => exact .inr ⟨by rw [hv, hp]; rfl, fun h => by have := (HG.out.1 h).1; rw [hp] at this; cases this⟩
    | true =>
      by_cases h5 : (n : Int) * b ≤ 4096
      · exact .inl ⟨by rw [hv, hp, show decide ((n : Int) * b ≤ 4096) = true by simpa using h5]; rfl, HG.out.2 ⟨hp, h5⟩⟩
      · exact .inr ⟨by rw [hv, hp, show decide ((n : Int) * b ≤ 4096) = false by simpa using h5]; rfl, fun h => h5 (HG.out.1 h).2⟩
  have HF := Lib.hid fin
  clear hpb hp0 fin
  go_enter Try.func39, Try.ntmps39
  go_wp2
  go_loopg [5] 2047 (fun z s5 wr => ∃ p : Nat, s5 = .int .i64 (p : Int) ∧ z = 2048 - p ∧ 1 ≤ p ∧ p ≤ 1024 ∧ Hid (PInv n p) ∧ w = wr)
  case atStart => exact ⟨1, rfl, rfl, by omega, by omega, Lib.hid ⟨by decide, fun q hq hl => by have := (pow2_le hq).1; omega⟩, rfl⟩
  case round =>
    obtain ⟨p, rfl, hz, hp1, hp2, HP, rfl⟩ := hrel
    by_cases hlt : p < n
    · have e1 : (p : Int) < n := by omega
      have e2 : IntKind.i64.wrap ((p : Int) * 2) = (p : Int) * 2 := wrap_fit _ (by unfold fit; omega)
      have HN := Lib.hid (HP.out.next hlt hn1)
      go_wp2
      go_roundg (2048 - p * 2)
      case measure => omega
      case rel => exact ⟨p * 2, by go_num, rfl, by omega, (pow2_le HN.out.1).2, HN, rfl⟩
    · have e1 : ¬ (p : Int) < n := by omega
      have hd := HP.out.done (by omega)
      have e3 : ((p : Int) == (n : Int)) = pow2 n := by
        rw [← hd]
        by_cases h : p = n
        · subst h; simp
        · have h2 : ¬ (p : Int) = (n : Int) := by omega
          simp [h, h2]
      clear hd
      cases hp : pow2 n with
      | false =>
        rw [hp] at e3 HF
        go_wp2
        go_ret
        exact ⟨HF.out false (by simp), rfl⟩
      | true =>
        rw [hp] at e3 HF
        go_wp2
        go_ret
        exact ⟨HF.out _ (by simp), rfl⟩
end Go.Proofs.Ytocaebcbmfejbaa
