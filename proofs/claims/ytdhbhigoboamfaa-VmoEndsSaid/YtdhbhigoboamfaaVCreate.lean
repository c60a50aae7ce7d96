/-
  Create and Info. No conditions but that the set is one that calls can make.
-/
import Derived.Test.YtdhbhigoboamfaaVAdd
namespace Go.Proofs.Ytdhbhigoboamfaa
open Go.ChangeShapes Go.WideShapes Go.ChangeAt Go.RowKit

/-- What a call of a set leaves: its own blocks turned, and new ones. -/
structure VNext (w : World) (s : Nat) (r : Rep) (w' : World) (r' : Rep) : Prop where
  turn : Turn (SFoot s r) w w'
  foot : ∀ k, SFoot s r' k → SFoot s r k ∨ w.heap.size ≤ k
theorem addR_foot {s : Nat} {r : Rep} {i : Int} {a b k : Nat} (h : SFoot s (addR r i a b) k) : SFoot s r k ∨ k = a ∨ k = b := by
  rcases h with h | h | h | ⟨j, h⟩ | ⟨j, h⟩
  · exact .inl (.inl h)
  · exact .inl (.inr (.inl h))
  · exact .inl (.inr (.inr (.inl h)))
  · simp only [addR, updI] at h
    split at h
    · cases h; exact .inr (.inl rfl)
    · exact .inl (.inr (.inr (.inr (.inl ⟨j, h⟩))))
  · simp only [addR, updI] at h
    split at h
    · cases h; exact .inr (.inr rfl)
    · exact .inl (.inr (.inr (.inr (.inr ⟨j, h⟩))))
def newOb (size par depth frm : Nat) : Ob := ⟨size, par, 0, 0, depth, frm, false, fun _ => none, 0⟩
def createS (M : Mod) (n : Int) : Int := if n < 0 then -10 else if 4294967296 < n then -14 else if M.most ≤ M.live then -4 else 0

section
variable {w : World} {s : Nat} {r : Rep} {M : Mod}
set_option maxRecDepth 20000 in
theorem create_no (h : SMem w s r M) (n : Int) (hs : createS M n ≠ 0) :
    Calls Try.prog 16 #[.pointer (some ⟨s, 0, none⟩), .int .i64 n] w fun e w' => e = .returned (.tuple #[.int .i64 0, .int .i64 (createS M n)]) ∧ SMem w' s r M ∧ Turn NoBlock w w' := by
  unfold createS at *
  by_cases h1 : n < 0
  · rw [if_pos h1]
    have c := fun w => rounded_neg n w h1
    have H := Lib.hid h
    clear h hs h1
    go_enter Try.func16, Try.ntmps16
    go_wp2_with (go_at_call 47; (with_reducible refine (c _).mono ?_); rintro x w1 ⟨rfl, rfl⟩)
    go_ret2
    exact ⟨rfl, H.out, Turn.refl _ _⟩
  · rw [if_neg h1] at hs ⊢
    by_cases h2 : 4294967296 < n
    · rw [if_pos h2]
      have c := fun w => rounded_far n w h2
      have H := Lib.hid h
      clear h hs h1 h2
      go_enter Try.func16, Try.ntmps16
      go_wp2_with (go_at_call 47; (with_reducible refine (c _).mono ?_); rintro x w1 ⟨rfl, rfl⟩)
      go_ret2
      exact ⟨rfl, H.out, Turn.refl _ _⟩
    · rw [if_neg h2] at hs ⊢
      by_cases h3 : M.most ≤ M.live
      · rw [if_pos h3]
        have c := fun w => rounded_yes n w (by omega) (by omega)
        have H := Lib.hid (fun o => h.past ((Turn.refl NoBlock w).alloc o))
        have H3 := Lib.hid h3
        clear h hs h1 h2 h3
        generalize ((upS n : Nat) : Int) = u at *
        go_enter Try.func16, Try.ntmps16
        go_wp2_with (first
          | (go_at_call 47; (with_reducible refine (c _).mono ?_); rintro x w1 ⟨rfl, rfl⟩)
          | (go_at_call 48; (with_reducible refine (add_full (H.out _) _ H3.out).mono ?_); rintro x w2 ⟨rfl, q, rfl⟩))
        go_ret2
        exact ⟨rfl, (H.out _).past ((Turn.refl NoBlock _).drewN q), ((Turn.refl NoBlock w).alloc _).drewN q⟩
      · rw [if_neg h3] at hs
        exact absurd rfl hs
theorem fresh_not (h : SMem w s r M) : ¬ SFoot s r w.heap.size := fun hk => by have := h.lt hk; omega
theorem addM_next {w' : World} {i : Int} {a b : Nat} (h : SMem w s r M) (t0 : Turn NoBlock w w') {w'' : World} (ha : w.heap.size ≤ a) (hb : w.heap.size ≤ b) (t : Turn (fun k => k = s ∨ k = r.mo ∨ k = a) w' w'') : VNext w s r w'' (addR r i a b) :=
  ⟨(t0.mono (fun k hk => hk.elim)).trans t (fun k hk => by
      rcases hk with rfl | rfl | rfl
      · exact .inl (.inl rfl)
      · exact .inl (.inr (.inl rfl))
      · exact .inr ha), fun k hk => by
      rcases addR_foot hk with hk | rfl | rfl
      · exact .inl hk
      · exact .inr ha
      · exact .inr hb⟩
set_option maxRecDepth 20000 in
theorem create_yes (h : SMem w s r M) (n : Int) (hs : createS M n = 0) (hm : M.most ≤ 65536) (hd : M.made < 4611686018427387904) :
    Calls Try.prog 16 #[.pointer (some ⟨s, 0, none⟩), .int .i64 n] w fun e w' => e = .returned (.tuple #[.int .i64 ((M.made : Int) + 1), .int .i64 0]) ∧
      ∃ r', SMem w' s r' (addM M (newOb (upS n) 0 0 0)) ∧ VNext w s r w' r' := by
  unfold createS at hs
  by_cases h1 : n < 0
  · rw [if_pos h1] at hs; cases hs
  rw [if_neg h1] at hs
  by_cases h2 : 4294967296 < n
  · rw [if_pos h2] at hs; cases hs
  rw [if_neg h2] at hs
  by_cases h3 : M.most ≤ M.live
  · rw [if_pos h3] at hs; cases hs
  have c := fun w => rounded_yes n w (by omega) (by omega)
  have t0 : ∀ o, Turn NoBlock w (w.alloc o) := fun o => (Turn.refl NoBlock w).alloc o
  have H := Lib.hid (fun o (e : o = .cells (newOb (upS n) 0 0 0).raw 88 (0, 0)) => add_yes8 (a := w.heap.size) (h.past (t0 o)) (by subst e; exact heap_alloc_new w _) (fresh_not h) rfl rfl (by omega) hm hd)
  have HN := Lib.hid (fun o w' i b (hb : w.heap.size ≤ b) t => addM_next (i := i) (b := b) (w'' := w') h (t0 o) (Nat.le_refl _) hb t)
  clear h hs h1 h2 h3 t0
  have e0 : (newOb (upS n) 0 0 0).raw = #[.int .i64 ((upS n : Nat) : Int), .int .i64 0, .int .i64 0, .int .i64 0, .int .i64 0, .int .i64 0, .bool false, .map none] := rfl
  have HE := Lib.hid e0
  clear e0
  generalize newOb (upS n) 0 0 0 = o at *
  generalize ((upS n : Nat) : Int) = u at *
  go_enter Try.func16, Try.ntmps16
  go_wp2_with (first
    | (go_at_call 47; (with_reducible refine (c _).mono ?_); rintro x w1 ⟨rfl, rfl⟩)
    | (go_at_call 48; (with_reducible refine (H.out _ (by rw [HE.out])).mono ?_); rintro x w2 ⟨rfl, k1, k2⟩; have K := Lib.hid (And.intro k1 k2); clear k1 k2))
  go_ret2
  exact ⟨rfl, _, K.out.1, HN.out _ _ _ _ (by simp) K.out.2⟩

end
end Go.Proofs.Ytdhbhigoboamfaa
