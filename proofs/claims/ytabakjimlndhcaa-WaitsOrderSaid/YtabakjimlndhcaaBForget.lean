/-
  Forget: a thread waits no more. Conditions: the waits lie in memory.
-/
import Derived.Test.YtabakjimlndhcaaBExp
namespace Go.Proofs.Ytabakjimlndhcaa
open Go.ChangeShapes Go.WideShapes Go.ChangeAt Go.RowKit Go.Shelf

section
variable {w : World} {c tm lm : Nat} {most : Int} {G : List Gw} {r : Int → Nat} {K : List Int}
theorem thr_some {G : List Gw} {t : Int} {x : Nat} (h : thr G t = some x) : ∃ g ∈ G, g.a.t = t ∧ g.x = x := by
  unfold thr at h
  cases hf : G.find? (fun g => g.a.t == t) with
  | none => rw [hf] at h; cases h
  | some g =>
    rw [hf] at h
    simp at h
    have := List.find?_some hf
    exact ⟨g, List.mem_of_find?_eq_some hf, by simpa using this, h⟩
theorem thr_any (G : List Gw) (t : Int) : (thr G t).isSome = G.any (fun g => g.a.t == t) := by
  unfold thr
  rw [Option.isSome_map]
  cases hf : G.find? (fun g => g.a.t == t) with
  | none =>
    symm
    rw [Option.isSome_none, List.any_eq_false]
    intro g hg
    have := List.find?_eq_none.1 hf g hg
    simpa using this
  | some g =>
    symm
    rw [Option.isSome_some, List.any_eq_true]
    exact ⟨g, List.mem_of_find?_eq_some hf, by simpa using List.find?_some hf⟩
theorem forget_no (h : WM w c most tm lm G r K) (t : Int) (ht : fit t) (hT : thr G t = none) : Calls Try.prog 22 #[.pointer (some ⟨c, 0, none⟩), .int .i64 t] w fun e w' => e = .returned (.int .i64 (-25)) ∧ w = w' := by
  have c1 := h.mem.c1
  have hl := h.mem.tmap.look2 tmapU zeroT t ht
  rw [hT] at hl
  unfold ptrOf at hl
  simp only [Option.isSome_none] at hl
  clear h hT
  go_enter Try.func22, Try.ntmps22
  go_wp2
  go_ret
  exact ⟨rfl, rfl⟩
theorem forget_yes (h : WM w c most tm lm G r K) (t : Int) (ht : fit t) {g : Gw} (hg : g ∈ G) (hgt : g.a.t = t) (hT : thr G t = some g.x) : Calls Try.prog 22 #[.pointer (some ⟨c, 0, none⟩), .int .i64 t] w fun e w' => e = .returned (.int .i64 0) ∧ (∃ K', (∀ n ∈ K', n ∈ K) ∧ WM w' c most tm lm (G.filter (fun y => y.a.t != t)) r K') ∧ Turn (GFoot c tm lm G r K) w w' := by
  have c1 := h.mem.c1
  have hl := h.mem.tmap.look2 tmapU zeroT t ht
  rw [hT] at hl
  unfold ptrOf at hl
  simp only [Option.isSome_some] at hl
  have hf : G.filter (fun y => y.x != g.x) = G.filter (fun y => y.a.t != t) := by
    apply List.filter_congr
    intro y hy
    have : y.x = g.x ↔ y.a.t = t := by
      constructor
      · intro e; rw [same_x h.mem.xs hy hg e]; exact hgt
      · intro e
        obtain ⟨A, B, hAB⟩ := List.append_of_mem hy
        have hts := h.ts
        rw [hAB] at hts hT
        rw [← e, thr_mid hts] at hT
        simpa using hT
    by_cases h1 : y.x = g.x
    · simp [h1, this.1 h1]
    · have h2 : ¬ y.a.t = t := fun e => h1 (this.2 e)
      have e1 : (y.x == g.x) = false := by simpa using h1
      have e2 : (y.a.t == t) = false := by simpa using h2
      simp [bne, e1, e2]
  have CD := Lib.hid (h.dropAt hg)
  rw [hf] at CD
  clear h hT hf hg hgt
  go_enter Try.func22, Try.ntmps22
  go_wp2_with (go_at_call 61; (with_reducible refine CD.out.mono ?_); rintro e w2 ⟨rfl, h2, h3⟩; have H2 := Lib.hid (And.intro h2 h3); clear h2 h3)
  go_ret
  exact ⟨rfl, H2.out⟩
end
end Go.Proofs.Ytabakjimlndhcaa
