/-
  What New, Alloc, Get of an arena (i) answer, and what they make of its memory. No conditions but that the arena is one that calls can make.
-/
import Derived.Test.YtfpmbbplgdkogaaTake
namespace Go.Proofs.Ytfpmbbplgdkogaa
open Go.ChangeShapes Go.WideShapes Go.ChangeAt Go.RowKit

/-- The arena at block a; F: the blocks that are its own. -/
def iArena (w : World) (a : Nat) (F : Nat → Prop) (m : Mod) : Prop := ∃ vs vf, Holds w 57 61 3 a vs vf m ∧ m.OK ∧ F = Foot a vs vf

theorem iArena.lt {w : World} {a : Nat} {F : Nat → Prop} {m : Mod} (h : iArena w a F m) {k : Nat} (hk : F k) : k < w.heap.size := by
  obtain ⟨vs, vf, hh, _, rfl⟩ := h
  exact Foot.lt hh hk
theorem iArena.ok {w : World} {a : Nat} {F : Nat → Prop} {m : Mod} (h : iArena w a F m) : m.OK := by
  obtain ⟨vs, vf, hh, ok, rfl⟩ := h
  exact ok
theorem iArena.kept {w w' : World} {a : Nat} {F G : Nat → Prop} {m : Mod} (h : iArena w a F m) (ht : Turn G w w') (hF : ∀ k, F k → ¬ G k) : iArena w' a F m := by
  obtain ⟨vs, vf, hh, ok, rfl⟩ := h
  exact ⟨vs, vf, hh.kept ht hF, ok, rfl⟩
theorem iArena.drewN {w : World} {a : Nat} {F : Nat → Prop} {m : Mod} (h : iArena w a F m) (n : Nat) : iArena (w.drewN n) a F m :=
  h.kept (G := NoBlock) ⟨rfl, rfl, rfl, Nat.le_refl _, fun _ _ _ => rfl⟩ (fun _ _ h => h)

theorem inew_no (n : Int) (w : World) (h : n < 0 ∨ 65536 < n) :
    Calls Try.prog 9 #[.int .i64 n] w fun e w' => e = .returned (.pointer none) ∧ w' = w := by
  rcases h with h | h
  all_goals
    go_enter Try.func9, Try.ntmps9
    go_wp2
    go_ret
    exact ⟨rfl, rfl⟩
theorem inew_raw (n : Nat) (w : World) (h' : n ≤ 65536) :
    Calls Try.prog 9 #[.int .i64 n] w fun e w' => e = .returned (.pointer (some ⟨w.heap.size, 0, none⟩)) ∧ w' = w.alloc (.cells #[.int .i64 n, .slice none 0 0, .slice none 0 0, .int .i64 0] 57) := by
  go_enter Try.func9, Try.ntmps9
  go_wp2
  go_ret
  exact ⟨rfl, rfl⟩
theorem inew_yes (n : Nat) (w : World) (h' : n ≤ 65536) :
    Calls Try.prog 9 #[.int .i64 n] w fun e w' => e = .returned (.pointer (some ⟨w.heap.size, 0, none⟩)) ∧
      ∃ F, iArena w' w.heap.size F ⟨n, [], []⟩ ∧ Turn NoBlock w w' ∧ ∀ k, F k → w.heap.size ≤ k := by
  refine (inew_raw n w h').mono ?_
  rintro e w' ⟨rfl, rfl⟩
  refine ⟨rfl, _, ⟨.slice none 0 0, .slice none 0 0, ⟨heap_alloc_new w _, World.ownsRow_nil _ _ _ _, World.ownsRow_nil _ _ _ _⟩, ?_, rfl⟩, (Turn.refl _ w).alloc _, ?_⟩
  · exact ⟨h', Nat.zero_le _, by simp, by simp, by simp, by simp [Mod.count]⟩
  · intro k hk
    rcases hk with rfl | hk | hk
    · exact Nat.le_refl _
    · simp [Value.ownBlock] at hk
    · simp [Value.ownBlock] at hk

theorem ialloc_tail {w : World} {a k g n c : Nat} {vf : Value} {m1 : Mod} {t : Slot} (x : Int) (h : Holds w 57 61 3 a (.slice (some ⟨g, 0, none⟩) n c) vf m1) (hm : m1.Mid k t) :
    Hid (Holds ((((w.setCell ⟨g, k * 3, none⟩ (.int .i64 (t.gen + 1))).setCell ⟨g, k * 3 + 1, none⟩ (.bool true)).setCell ⟨g, k * 3 + 2, none⟩ (.int .i64 x)).setCell ⟨a, 3, none⟩ (.int .i64 (m1.count + 1))) 57 61 3 a (.slice (some ⟨g, 0, none⟩) n c) vf (m1.put k ⟨t.gen + 1, true, (.int .i64 x)⟩) ∧
      Turn (Foot a (.slice (some ⟨g, 0, none⟩) n c) vf) w ((((w.setCell ⟨g, k * 3, none⟩ (.int .i64 (t.gen + 1))).setCell ⟨g, k * 3 + 1, none⟩ (.bool true)).setCell ⟨g, k * 3 + 2, none⟩ (.int .i64 x)).setCell ⟨a, 3, none⟩ (.int .i64 (m1.count + 1)))) ∧
    Calls Try.prog 32 #[.pointer (some ⟨a, 0, none⟩), .int .i64 k] ((((w.setCell ⟨g, k * 3, none⟩ (.int .i64 (t.gen + 1))).setCell ⟨g, k * 3 + 1, none⟩ (.bool true)).setCell ⟨g, k * 3 + 2, none⟩ (.int .i64 x)).setCell ⟨a, 3, none⟩ (.int .i64 (m1.count + 1)))
      fun e w' => e = .returned (.int .i64 (((t.gen : Int) + 1) * 65536 + k)) ∧ w' = ((((w.setCell ⟨g, k * 3, none⟩ (.int .i64 (t.gen + 1))).setCell ⟨g, k * 3 + 1, none⟩ (.bool true)).setCell ⟨g, k * 3 + 2, none⟩ (.int .i64 x)).setCell ⟨a, 3, none⟩ (.int .i64 (m1.count + 1))) := by
  have hk : k < m1.slots.length := (List.getElem?_eq_some_iff.1 hm.at').1
  have hlow := hm.low
  have hl := hm.len
  have hc := hm.cap
  have hcs := count_set m1.slots k ⟨t.gen + 1, true, (.int .i64 x)⟩ t hm.at'
  simp [hm.taken] at hcs
  have st := step_count (s := ⟨t.gen + 1, true, (.int .i64 x)⟩) (z := (m1.count : Int) + 1) h hm.at' (by decide) (by decide) (by decide) (by rw [hcs]; simp [Mod.count]) rfl
  have ci := iid_any _ a k _ vf _ ⟨t.gen + 1, true, (.int .i64 x)⟩ st.1 (by simp [hk]) (by omega) (by simp; omega)
  exact ⟨st, ci⟩

theorem ialloc_none (x : Int) (w : World) (a : Nat) (F : Nat → Prop) (m : Mod) (h : iArena w a F m) (ht : m.alloc (.int .i64 0) (.int .i64 x) = none) :
    Calls Try.prog 11 #[.pointer (some ⟨a, 0, none⟩), (.int .i64 x)] w fun e w' => e = .returned (.tuple #[.int .i64 0, .int .i64 (-4)]) ∧ w' = w := by
  obtain ⟨vs, vf, hh, ok, rfl⟩ := h
  have hn : m.take (.int .i64 0) = none := by
    unfold Mod.alloc at ht
    split at ht
    · assumption
    · simp at ht
  have c := itake_none w a vs vf m hh hn
  clear hh ok ht hn
  go_enter Try.func11, Try.ntmps11
  go_wp2_with (go_at_call 31; (with_reducible refine c.mono ?_); rintro e w' ⟨rfl, rfl⟩)
  go_ret2
  exact ⟨rfl, rfl⟩

theorem ialloc_some (x : Int) (w : World) (a : Nat) (F : Nat → Prop) (m m' : Mod) (id : Int) (h : iArena w a F m) (ht : m.alloc (.int .i64 0) (.int .i64 x) = some (id, m')) :
    Calls Try.prog 11 #[.pointer (some ⟨a, 0, none⟩), (.int .i64 x)] w fun e w' => e = .returned (.tuple #[.int .i64 id, .int .i64 0]) ∧
      ∃ F', iArena w' a F' m' ∧ Turn F w w' ∧ ∀ k, F' k → F k ∨ w.heap.size ≤ k := by
  obtain ⟨vs, vf, hh, ok, rfl⟩ := h
  cases hn : m.take (.int .i64 0) with
  | none => simp [Mod.alloc, hn] at ht
  | some p =>
    obtain ⟨k, m1⟩ := p
    obtain ⟨t, hm⟩ := ok.mid (by rfl) hn
    simp only [Mod.alloc, hn, Option.some.injEq, Prod.mk.injEq, hm.genAt] at ht
    obtain ⟨rfl, rfl⟩ := ht
    have c := itake_some w a vs vf m m1 k hh ok hn
    have hlow := hm.low
    have hk : k < m1.slots.length := (List.getElem?_eq_some_iff.1 hm.at').1
    have hl := hm.len
    have hc := hm.cap
    have hr := hm.room
    have hcnt : m1.count < 65536 := by omega
    have hk' : k < 65536 := by omega
    have HM : Hid (m1.Mid k t) := hm
    clear hh ok hn hm hl hc hr hk
    go_enter Try.func11, Try.ntmps11
    go_wp2_with (first
      | (go_at_call 31; (with_reducible refine c.mono ?_); rintro e w1 ⟨rfl, vs1, vf1, hh, hT, hF⟩; obtain ⟨g, n, cc, rfl, f1, f2, f3, f4, f5, f6, f7, f8, f9, f10, f11, f12, f13⟩ := mid_facts hh (Hid.out HM).at' (by decide); obtain ⟨G1, ci⟩ := ialloc_tail x hh (Hid.out HM); have G2 : Hid (Turn (Foot a vs vf) w w1) := hT; have G3 : Hid (∀ j, Foot a (.slice (some ⟨g, 0, none⟩) n cc) vf1 j → Foot a vs vf j ∨ w.heap.size ≤ j) := hF; clear hh hT hF c)
      | (go_at_call 32; (with_reducible refine ci.mono ?_); rintro e w2 ⟨rfl, rfl⟩))
    go_ret2
    have g1 := G1.out
    exact ⟨rfl, _, ⟨_, _, g1.1, (Hid.out HM).ok rfl, rfl⟩, G2.out.trans g1.2 G3.out, G3.out⟩

theorem iget_none (w : World) (a : Nat) (F : Nat → Prop) (m : Mod) (id : Int) (h : iArena w a F m) (hid : id ≤ 9223372036854775807) (hf : m.find id = none) :
    Calls Try.prog 17 #[.pointer (some ⟨a, 0, none⟩), .int .i64 id] w fun e w' => e = .returned (.tuple #[(.int .i64 0), .bool false]) ∧ ∃ n, w' = w.drewN n := by
  obtain ⟨vs, vf, hh, ok, rfl⟩ := h
  have c := ifind_none w a vs vf m id hh hid hf
  clear hh ok hf
  go_enter Try.func17, Try.ntmps17
  go_wp2_with (go_at_call 33; (with_reducible refine c.mono ?_); rintro e w' ⟨rfl, n, rfl⟩)
  go_ret2
  exact ⟨rfl, n, rfl⟩
theorem iget_some (w : World) (a : Nat) (F : Nat → Prop) (m : Mod) (id : Int) (k : Nat) (s : Slot) (x : Int) (h : iArena w a F m) (hid : id ≤ 9223372036854775807) (hf : m.find id = some k) (hs : m.slots[k]? = some s) (hv : s.val = (.int .i64 x)) :
    Calls Try.prog 17 #[.pointer (some ⟨a, 0, none⟩), .int .i64 id] w fun e w' => e = .returned (.tuple #[(.int .i64 x), .bool true]) ∧ ∃ n, w' = w.drewN n := by
  obtain ⟨vs, vf, hh, ok, rfl⟩ := h
  obtain ⟨g, n, c, rfl, f1, f2, f3, f4, f5, f6, f7, f8, f9, f10, f11, f12, f13⟩ := mid_facts hh hs (by decide)
  rw [hv] at f7
  have c1 := ifind_some w a vf m id k g n c hh hid hf
  clear hh ok hf hs hv
  go_enter Try.func17, Try.ntmps17
  go_wp2_with (go_at_call 33; (with_reducible refine c1.mono ?_); rintro e w' ⟨rfl, nn, rfl⟩)
  go_ret2
  exact ⟨rfl, nn, rfl⟩

end Go.Proofs.Ytfpmbbplgdkogaa
