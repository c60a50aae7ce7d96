/-
  What awake answers.
-/
import Derived.Test.YtdddmjdlikjedaaGList
namespace Go.Proofs.Ytdddmjdlikjedaa
open Go.ChangeShapes Go.WideShapes Go.ChangeAt Go.RowKit Go.Shelf

def pAw : Pc := ⟨0, 192, 1, 0, 3⟩
theorem seg_nil (x n : Int) : SegIs [] x n 0 0 := ⟨⟨Nat.le_refl _, fun j p h => by omega, fun j p _ h => by simp at h⟩, Nat.le_refl _, Nat.le_refl _, fun j p _ h => by omega, fun p h => by simp at h⟩
theorem seg_aw : SegIs [pAw] 64 64 0 1 := by
  refine ⟨⟨by decide, fun j p h => by omega, fun j p _ h => ?_⟩, by decide, by decide, fun j p _ h2 h => ?_, fun p h => by simp at h⟩
  · rcases j with _ | j
    · simp at h; subst h; decide
    · simp at h
  · obtain rfl : j = 0 := by omega
    simp at h
    subst h
    unfold Ov
    decide
theorem gok_aw : GOK 256 [pAw] := by
  refine ⟨by omega, fun p hp => ?_, ?_⟩
  · simp at hp
    subst hp
    decide
  · simp

set_option maxRecDepth 20000 in
theorem awake_any (w : World) : Calls Try.prog 31 #[] w fun e w' => e = .returned (.bool true) ∧ Turn NoBlock w w' := by
  have cN := new_any 256 4 w (by unfold isMul; omega) (by omega) (by omega)
  obtain ⟨a, ha⟩ : ∃ a, w.heap.size = a := ⟨_, rfl⟩
  obtain ⟨W1, hW1⟩ : ∃ W1, W1 = w.alloc (.cells #[.int .i64 256, .int .i64 4, .slice none 0 0] 114) := ⟨_, rfl⟩
  have g1 : GMem W1 a 256 4 (.slice none 0 0) [] := by rw [hW1, ← ha]; exact gmem_new 256 4 w
  have t1 : Turn NoBlock w W1 := by rw [hW1]; exact (Turn.refl _ _).alloc _
  rw [← hW1, ha] at cN
  have cP := (callsIn_wide.1 (put_in 5 (Nat.le_refl _) g1 (gok_new 256 (by omega)) (by decide) pAw (by unfold isPut isGrid isMul isProt pAw; decide) (by decide) 0 0 (seg_nil _ _) (by omega))).mono (R' := fun e w' => e = .returned (.int .i64 0) ∧ ∃ v, Hid (GMem w' a 256 4 v [pAw] ∧ Turn NoBlock w w' ∧ ∀ j, GFoot a v j → w.heap.size ≤ j)) (by
    rintro e w' (⟨h, _⟩ | ⟨_, ⟨h, _⟩ | ⟨_, rfl, ⟨⟨v', g, q⟩, t⟩⟩⟩)
    · omega
    · simp at h
    · refine ⟨rfl, v', Lib.hid ⟨by simpa using g, t1.trans t (fun j hj => ?_), fun j hj => ?_⟩⟩
      · rcases hj with h | h
        · exact .inr (by omega)
        · cases h
      · rcases q j hj with (h | h) | h
        · omega
        · cases h
        · have := t1.size
          omega)
  dsimp only [Pc.agg, pAw] at cP
  clear hW1 g1
  go_enter Try.func31, Try.ntmps31
  go_wp2_with (first
    | (go_at_call 30; (with_reducible refine cN.mono ?_); rintro e w' ⟨rfl, rfl⟩)
    | (go_at_call 32; (with_reducible refine cP.mono ?_); rintro e w2 ⟨rfl, v, HM⟩))
  have gk : GOK 256 [(⟨0, 192, 1, 0, 3⟩ : Pc)] := gok_aw
  have sk : SegIs [(⟨0, 192, 1, 0, 3⟩ : Pc)] 64 64 0 1 := seg_aw
  have cC := (cut_any HM.out.1 gk (by decide) (by omega) 64 64 (by unfold isGrid isMul; decide) 0 1 sk).mono (R' := fun e w' => ∃ g c, e = .returned (.tuple #[.slice (some ⟨g, 0, none⟩) 1 c, .int .i64 0]) ∧ w'.cell? ⟨g, 3, none⟩ = some (.int .i64 64) ∧ ∃ v l, Hid (GMem w' a 256 4 v l ∧ l.length = 2 ∧ Turn NoBlock w w')) (by
    have e1 : insL [(⟨0, 192, 1, 0, 3⟩ : Pc)] 0 1 64 64 = [⟨64, 64, 1, 64, 3⟩] := by decide
    have e2 : outL [(⟨0, 192, 1, 0, 3⟩ : Pc)] 0 1 64 64 = [⟨0, 64, 1, 0, 3⟩, ⟨128, 64, 1, 128, 3⟩] := by decide
    rw [e1, e2]
    rintro e w' (⟨h, _⟩ | ⟨_, vi, rfl, ⟨r1, _, ⟨v', lo', p1, _, p3, _, _⟩, t⟩⟩)
    · simp at h
    · obtain ⟨g, c, hv, -, -⟩ := r1.shape (by decide)
      subst hv
      obtain ⟨-, -, -, f4, -⟩ := r1.five (i := 0) (p := ⟨64, 64, 1, 64, 3⟩) rfl
      refine ⟨g, c, rfl, by simpa using f4, v', _, Lib.hid ⟨p3, ?_, HM.out.2.1.trans t (fun j hj => ?_)⟩⟩
      · have := p1.length_eq
        simp at this ⊢
        exact this
      · exact .inr (HM.out.2.2 j hj))
  go_at_call 33
  with_reducible refine cC.mono ?_
  rintro e w3 ⟨g, c, rfl, f4, v3, l3, HC⟩
  have cL := list_any HC.out.1 (by rw [HC.out.2.1]; decide) (by rw [HC.out.2.1]; decide)
  go_wp2_with (go_at_call 35; (with_reducible refine cL.mono ?_); rintro e w4 ⟨v4, rfl, r4, q4, t4⟩; have H4 := Lib.hid (And.intro r4.slice t4); clear r4 q4 t4; obtain ⟨p4, c4, hv4⟩ := H4.out.1; rw [HC.out.2.1] at hv4; subst hv4)
  go_ret
  exact ⟨rfl, HC.out.2.2.trans H4.out.2 (fun j h => .inl h)⟩
end Go.Proofs.Ytdddmjdlikjedaa
