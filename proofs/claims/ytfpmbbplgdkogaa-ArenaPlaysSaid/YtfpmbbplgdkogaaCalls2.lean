/-
  What Has, Count, Set of an arena (i) answer, and what they make of its memory. No conditions but that the arena is one that calls can make.
-/
import Derived.Test.YtfpmbbplgdkogaaCalls1
namespace Go.Proofs.Ytfpmbbplgdkogaa
open Go.ChangeShapes Go.WideShapes Go.ChangeAt Go.RowKit

theorem ihas_none (w : World) (a : Nat) (F : Nat → Prop) (m : Mod) (id : Int) (h : iArena w a F m) (hid : id ≤ 9223372036854775807) (hf : m.find id = none) :
    Calls Try.prog 18 #[.pointer (some ⟨a, 0, none⟩), .int .i64 id] w fun e w' => e = .returned (.bool false) ∧ ∃ n, w' = w.drewN n := by
  obtain ⟨vs, vf, hh, ok, rfl⟩ := h
  have c := ifind_none w a vs vf m id hh hid hf
  clear hh ok hf
  go_enter Try.func18, Try.ntmps18
  go_wp2_with (go_at_call 33; (with_reducible refine c.mono ?_); rintro e w' ⟨rfl, n, rfl⟩)
  go_ret
  exact ⟨rfl, n, rfl⟩
theorem ihas_some (w : World) (a : Nat) (F : Nat → Prop) (m : Mod) (id : Int) (k : Nat) (h : iArena w a F m) (hid : id ≤ 9223372036854775807) (hf : m.find id = some k) :
    Calls Try.prog 18 #[.pointer (some ⟨a, 0, none⟩), .int .i64 id] w fun e w' => e = .returned (.bool true) ∧ ∃ n, w' = w.drewN n := by
  obtain ⟨vs, vf, hh, ok, rfl⟩ := h
  obtain ⟨_, _, s, hs, _⟩ := Mod.find_some hf
  obtain ⟨g, n, c, rfl, f1, f2, f3, f4, f5, f6, f7, f8, f9, f10, f11, f12, f13⟩ := mid_facts hh hs (by decide)
  have c1 := ifind_some w a vf m id k g n c hh hid hf
  clear hh ok hf hs
  go_enter Try.func18, Try.ntmps18
  go_wp2_with (go_at_call 33; (with_reducible refine c1.mono ?_); rintro e w' ⟨rfl, nn, rfl⟩)
  go_ret
  exact ⟨rfl, nn, rfl⟩

theorem icount_any (w : World) (a : Nat) (F : Nat → Prop) (m : Mod) (h : iArena w a F m) :
    Calls Try.prog 19 #[.pointer (some ⟨a, 0, none⟩)] w fun e w' => e = .returned (.int .i64 m.count) ∧ w' = w := by
  obtain ⟨vs, vf, hh, ok, rfl⟩ := h
  have c1 := cell_at hh.head 3
  simp at c1
  clear hh ok
  go_enter Try.func19, Try.ntmps19
  go_wp2
  go_ret
  exact ⟨rfl, rfl⟩

theorem iset_none (x : Int) (w : World) (a : Nat) (F : Nat → Prop) (m : Mod) (id : Int) (h : iArena w a F m) (hid : id ≤ 9223372036854775807) (hf : m.find id = none) :
    Calls Try.prog 15 #[.pointer (some ⟨a, 0, none⟩), .int .i64 id, (.int .i64 x)] w fun e w' => e = .returned (.int .i64 (-25)) ∧ ∃ n, w' = w.drewN n := by
  obtain ⟨vs, vf, hh, ok, rfl⟩ := h
  have c := ifind_none w a vs vf m id hh hid hf
  clear hh ok hf
  go_enter Try.func15, Try.ntmps15
  go_wp2_with (go_at_call 33; (with_reducible refine c.mono ?_); rintro e w' ⟨rfl, n, rfl⟩)
  go_ret
  exact ⟨rfl, n, rfl⟩
theorem iset_some (x : Int) (w : World) (a : Nat) (F : Nat → Prop) (m : Mod) (id : Int) (k : Nat) (h : iArena w a F m) (hid : id ≤ 9223372036854775807) (hf : m.find id = some k) :
    Calls Try.prog 15 #[.pointer (some ⟨a, 0, none⟩), .int .i64 id, (.int .i64 x)] w fun e w' => e = .returned (.int .i64 0) ∧
      iArena w' a F (m.store k (.int .i64 x)) ∧ Turn F w w' := by
  obtain ⟨vs, vf, hh, ok, rfl⟩ := h
  obtain ⟨_, _, s, hs, htk, _⟩ := Mod.find_some hf
  obtain ⟨g, n, c, rfl, f1, f2, f3, f4, f5, f6, f7, f8, f9, f10, f11, f12, f13⟩ := mid_facts hh hs (by decide)
  have c1 := ifind_some w a vf m id k g n c hh hid hf
  have e : m.store k (.int .i64 x) = { m with slots := m.slots.set k { s with val := (.int .i64 x) } } := by
    simp [Mod.store, Mod.put, Mod.genAt, hs, htk]
  have ok' := ok.store (v := (.int .i64 x)) rfl hs htk
  rw [e] at ok' ⊢
  have G1 : Hid (∀ nn, Holds ((w.drewN nn).setCell ⟨g, k * 3 + 2, none⟩ (.int .i64 x)) 57 61 3 a (.slice (some ⟨g, 0, none⟩) n c) vf { m with slots := m.slots.set k { s with val := (.int .i64 x) } } ∧
    Turn (Foot a (.slice (some ⟨g, 0, none⟩) n c) vf) w ((w.drewN nn).setCell ⟨g, k * 3 + 2, none⟩ (.int .i64 x))) := fun nn =>
    ⟨(step_val (w := w.drewN nn) (v := (.int .i64 x)) ⟨hh.head, hh.slots, hh.freed⟩ hs (by decide) (by decide)).1, ((Turn.refl _ w).drewN nn).setCell (.inl (.inr (.inl rfl))) _⟩
  have G2 : Hid (Mod.OK { m with slots := m.slots.set k { s with val := (.int .i64 x) } }) := ok'
  clear hh ok hf hs e ok' htk
  go_enter Try.func15, Try.ntmps15
  go_wp2_with (go_at_call 33; (with_reducible refine c1.mono ?_); rintro e w' ⟨rfl, nn, rfl⟩)
  go_ret
  exact ⟨rfl, ⟨_, _, (G1.out nn).1, G2.out, rfl⟩, (G1.out nn).2⟩

end Go.Proofs.Ytfpmbbplgdkogaa
