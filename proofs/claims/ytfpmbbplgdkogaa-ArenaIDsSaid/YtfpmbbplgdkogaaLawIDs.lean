/-
  The statement ArenaIDs answers true at all pairs of numbers of 64 bits.
-/
import Derived.Test.YtfpmbbplgdkogaaAwake
import Derived.Deep.LoopGhost
namespace Go.Proofs.Ytfpmbbplgdkogaa
open Go.ChangeShapes Go.WideShapes Go.ChangeAt Go.RowKit

/-- The arena ahead of round i, and behind that round's Alloc. -/
def idsM (i : Nat) : Mod := if i = 0 then ⟨3, [], []⟩ else ⟨3, [⟨i, false, .int .i64 0⟩], [0]⟩
def idsA (i : Nat) : Mod := ⟨3, [⟨i + 1, true, .int .i64 i⟩], []⟩

theorem ids_alloc (i : Nat) : (idsM i).alloc (.int .i64 0) (.int .i64 i) = some (((i : Int) + 1) * 65536, idsA i) := by
  unfold idsM
  split
  · rename_i h
    subst h
    rfl
  · simp [Mod.alloc, Mod.take, Mod.genAt, Mod.put, idsA]
theorem ids_find (i : Nat) : (idsA i).find (((i : Int) + 1) * 65536) = some 0 := by
  have h1 : (((i : Int) + 1) * 65536) % 65536 = 0 := by omega
  have h2 : (((i : Int) + 1) * 65536) / 65536 = i + 1 := by omega
  have h3 : (0 : Int) ≤ ((i : Int) + 1) * 65536 := by omega
  unfold Mod.find
  rw [if_pos h3, h1, h2]
  simp [idsA]
theorem ids_free (i : Nat) (h : i < 1000) : (idsA i).free (.int .i64 0) 0 = idsM (i + 1) := by
  simp [idsA, idsM, Mod.free, Mod.genAt]
  omega
theorem ids_none (i : Nat) (id : Int) : (idsM i).find id = none := by
  unfold Mod.find
  split
  · unfold idsM
    split
    · rename_i h; split at h
      · simp at h
      · cases hk : (id % 65536).toNat with
        | zero => simp [hk] at h; subst h; simp
        | succ k => simp [hk] at h
    · rfl
  · rfl
theorem ids_count (i : Nat) : (idsM i).count = 0 := by
  unfold idsM
  split <;> simp [Mod.count]

theorem ids_walk_below (id n : Int) (w : World) (h : id < 0) :
    Calls Try.prog 5 #[.int .i64 id, .int .i64 n] w fun e w' => e = .returned (.bool true) ∧ Turn NoBlock w w' := by
  have c1 := fun w => slot_no id w h
  have c2 := fun w => gen_no id w h
  have c3 := awake_any
  go_enter Try.func5, Try.ntmps5
  go_wp2_with (first | (go_at_call 24; (with_reducible refine (same (c1 _)).mono ?_); rintro e w' ⟨rfl, rfl⟩) | (go_at_call 25; (with_reducible refine (same (c2 _)).mono ?_); rintro e w' ⟨rfl, rfl⟩) | (go_at_call 10; (with_reducible refine (c3 _).mono ?_); rintro e w1 ⟨rfl, T1⟩; have T1' : Hid (Turn NoBlock _ w1) := T1; clear T1))
  go_ret
  exact ⟨rfl, T1'.out⟩

theorem ids_walk_past (id n : Int) (w : World) (h : 0 ≤ id) (h' : id ≤ 9223372036854775807) (hn : n < 0 ∨ 20 < n) :
    Calls Try.prog 5 #[.int .i64 id, .int .i64 n] w fun e w' => e = .returned (.bool true) ∧ Turn NoBlock w w' := by
  obtain ⟨s, hs⟩ : ∃ s, id % 65536 = s := ⟨_, rfl⟩
  obtain ⟨g, hg⟩ : ∃ g, id / 65536 = g := ⟨_, rfl⟩
  have hs0 : 0 ≤ s := by omega
  have hs1 : s < 65536 := by omega
  have hsg : g * 65536 + s = id := by omega
  have hg0 : 0 ≤ g := by omega
  have hg1 : g ≤ 140737488355327 := by omega
  have c1 := fun w => slot_yes id w h h'
  have c2 := fun w => gen_yes id w h h'
  simp only [hs] at c1
  simp only [hg] at c2
  have c3 := awake_any
  have c4 : ∀ w, Calls Try.prog 9 #[.int .i64 3] w _ := fun w => inew_yes 3 w (by decide)
  clear hs hg
  rcases hn with hn | hn
  all_goals
    go_enter Try.func5, Try.ntmps5
    go_wp2_with (first | (go_at_call 24; (with_reducible refine (same (c1 _)).mono ?_); rintro e w' ⟨rfl, rfl⟩) | (go_at_call 25; (with_reducible refine (same (c2 _)).mono ?_); rintro e w' ⟨rfl, rfl⟩) | (go_at_call 9; (with_reducible refine (c4 _).mono ?_); rintro e w1 ⟨rfl, F1, A1, T1, L1⟩; have T1' : Hid (Turn NoBlock _ w1) := T1; clear A1 L1 T1) | (go_at_call 10; (with_reducible refine (c3 _).mono ?_); rintro e w2 ⟨rfl, T2⟩; have T2' : Hid (Turn NoBlock _ w2) := T2; clear T2))
    go_ret
    exact ⟨rfl, T1'.out.trans T2'.out (fun k h => .inl h)⟩

theorem ids_walk (id : Int) (N : Nat) (w : World) (h : 0 ≤ id) (h' : id ≤ 9223372036854775807) (hn : N ≤ 20) :
    Calls Try.prog 5 #[.int .i64 id, .int .i64 N] w fun e w' => e = .returned (.bool true) ∧ Turn NoBlock w w' := by
  obtain ⟨s, hs⟩ : ∃ s, id % 65536 = s := ⟨_, rfl⟩
  obtain ⟨g, hg⟩ : ∃ g, id / 65536 = g := ⟨_, rfl⟩
  have hs0 : 0 ≤ s := by omega
  have hs1 : s < 65536 := by omega
  have hsg : g * 65536 + s = id := by omega
  have hg0 : 0 ≤ g := by omega
  have hg1 : g ≤ 140737488355327 := by omega
  have c1 := fun w => slot_yes id w h h'
  have c2 := fun w => gen_yes id w h h'
  simp only [hs] at c1
  simp only [hg] at c2
  have c3 := awake_any
  have c4 : ∀ w, Calls Try.prog 9 #[.int .i64 3] w _ := fun w => inew_yes 3 w (by decide)
  clear hs hg
  go_enter Try.func5, Try.ntmps5
  go_wp2_with (first | (go_at_call 24; (with_reducible refine (same (c1 _)).mono ?_); rintro e w' ⟨rfl, rfl⟩) | (go_at_call 25; (with_reducible refine (same (c2 _)).mono ?_); rintro e w' ⟨rfl, rfl⟩) | (go_at_call 9; (with_reducible refine (c4 _).mono ?_); rintro e w1 ⟨rfl, F1, A1, T1, L1⟩; have A1' : Hid (iArena w1 w.heap.size F1 ⟨3, [], []⟩) := A1; have T1' : Hid (Turn NoBlock w w1) := T1; have L1' : Hid (∀ k, F1 k → w.heap.size ≤ k) := L1; clear A1 L1 T1))
  go_loopg [57] N (fun n c wr => ∃ i : Nat, i ≤ N ∧ n = N - i ∧ c = .int .i64 i ∧ ∃ F, Hid (iArena wr w.heap.size F (idsM i)) ∧ Hid (Turn NoBlock w wr) ∧ Hid (∀ k, F k → w.heap.size ≤ k))
  case atStart => exact ⟨0, by omega, by omega, rfl, F1, A1', T1', L1'⟩
  case round =>
    obtain ⟨i, hi, hgk, rfl, F, A2, T2, L2⟩ := hrel
    obtain ⟨k, hk⟩ : ∃ k : Int, ((i : Int) + 1) * 65536 = k := ⟨_, rfl⟩
    have hk0 : 0 ≤ k := by omega
    have hk1 : k ≤ 9223372036854775807 := by omega
    have d1 := fun w a F (h : iArena w a F (idsM i)) => ialloc_some i w a F (idsM i) (idsA i) k h (by rw [← hk]; exact ids_alloc i)
    have d2 := fun w => slot_yes k w hk0 hk1
    have d3 := fun w => gen_yes k w hk0 hk1
    simp only [show k % 65536 = 0 from by omega] at d2
    simp only [show k / 65536 = (i : Int) + 1 from by omega] at d3
    have d4 := fun w a F (h : iArena w a F (idsA i)) => ifree_some w a F (idsA i) k 0 h hk1 (by rw [← hk]; exact ids_find i)
    simp only [ids_free i (by omega)] at d4
    have d5 := fun w a F (h : iArena w a F (idsM i)) => ihas_none w a F (idsM i) id h h' (ids_none i id)
    have d6 := fun w a F (h : iArena w a F (idsM i)) => ifree_none w a F (idsM i) id h h' (ids_none i id)
    have d7 : ∀ w a F, iArena w a F (idsM i) → Calls Try.prog 19 #[.pointer (some ⟨a, 0, none⟩)] w fun e w' => e = .returned (.int .i64 0) ∧ w' = w := fun w a F h => by
      have := icount_any w a F (idsM i) h
      rw [ids_count] at this
      exact this
    clear hk
    go_wp2_with (first
      | (go_at_call 11; (with_reducible refine (d1 _ _ _ (Hid.out A2)).mono ?_); rintro e w2 ⟨rfl, F3, A3, T3, L3⟩; have A3' : Hid (iArena w2 w.heap.size F3 (idsA i)) := A3; have T3' : Hid (Turn F wr w2) := T3; have L3' : Hid (∀ k, F3 k → F k ∨ wr.heap.size ≤ k) := L3; clear A3 T3 L3)
      | (go_at_call 25; (with_reducible refine (same (d3 _)).mono ?_); rintro e w' ⟨rfl, rfl⟩)
      | (go_at_call 24; (with_reducible refine (same (d2 _)).mono ?_); rintro e w' ⟨rfl, rfl⟩)
      | (go_at_call 13; (with_reducible refine (d4 _ _ _ (Hid.out A3')).mono ?_); rintro e w4 ⟨rfl, F4, A4, T4, L4⟩; have A4' : Hid (iArena w4 w.heap.size F4 (idsM (i + 1))) := A4; have T4' : Hid (Turn F3 w2 w4) := T4; have L4' : Hid (∀ k, F4 k → F3 k ∨ w2.heap.size ≤ k) := L4; clear A4 T4 L4)
      | (go_at_call 18; (with_reducible refine (d5 _ _ _ (Hid.out A2)).mono ?_); rintro e w2 ⟨rfl, nn, rfl⟩)
      | (go_at_call 13; (with_reducible refine (d6 _ _ _ ((Hid.out A2).drewN _)).mono ?_); rintro e w2 ⟨rfl, n2, rfl⟩)
      | (go_at_call 19; (with_reducible refine (same (d7 _ _ _ ((Hid.out A2).drewN _))).mono ?_); rintro e w2 ⟨rfl, rfl⟩)
      | (go_at_call 10; (with_reducible refine (c3 _).mono ?_); rintro e w5 ⟨rfl, T5⟩; have T5' : Hid (Turn NoBlock _ w5) := T5; clear T5))
    · have hlt : i < N := by omega
      go_roundg (N - (i + 1))
      case measure => omega
      case rel => exact ⟨i + 1, by omega, by omega, by go_num, F4, A4', (T2.out.trans (T3'.out.trans T4'.out L3'.out) (fun k hk => .inr (L2.out k hk))), fun k hk => by
        have h1 := T2.out.size
        have h2 := T3'.out.size
        rcases L4'.out k hk with h3 | h3
        · rcases L3'.out k h3 with h4 | h4
          · exact L2.out k h4
          · omega
        · omega⟩
    · go_ret
      exact ⟨rfl, (T2.out.drewN _).trans T5'.out (fun k h => .inl h)⟩

end Go.Proofs.Ytfpmbbplgdkogaa
