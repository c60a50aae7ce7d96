/-
  The statement ArenaValues answers true at all slices of numbers, and all numbers.
-/
import Derived.Test.YtfpmbbplgdkogaaAwake
import Derived.Test.YtfpmbbplgdkogaaThings
import Derived.Deep.LoopGhost
namespace Go.Proofs.Ytfpmbbplgdkogaa
open Go.ChangeShapes Go.WideShapes Go.ChangeAt Go.RowKit

theorem iown (a : Nat) (F : Nat → Prop) (m : Mod) : Own F (fun w => iArena w a F m) := ⟨fun _ _ _ h t f => h.kept t f, fun _ h _ hk => h.lt hk⟩

/-- The arena behind so many calls of Alloc. -/
def valM (zs : List Int) : Mod := ⟨64, zs.map (fun v => ⟨1, true, .int .i64 v⟩), []⟩
def valIds (n : Nat) : List Int := (List.range n).map (fun (j : Nat) => (65536 : Int) + (j : Int))

theorem valIds_len (n : Nat) : (valIds n).length = n := by simp [valIds]
theorem valIds_succ (n : Nat) : valIds (n + 1) = valIds n ++ [(65536 : Int) + n] := by simp [valIds, List.range_succ]
theorem valIds_at (n j : Nat) (h : j < n) : (valIds n).getD j 0 = 65536 + j := by simp [valIds, List.getD, h]
theorem valM_alloc (zs : List Int) (x : Int) (h : zs.length < 64) : (valM zs).alloc (.int .i64 0) (.int .i64 x) = some ((65536 : Int) + zs.length, valM (zs ++ [x])) := by
  have h1 : ¬ zs.length = 64 := by omega
  simp [valM, Mod.alloc, Mod.take, Mod.genAt, Mod.put, h1]
theorem valM_find (zs : List Int) (j : Nat) (h : j < zs.length) (h' : zs.length ≤ 60) : (valM zs).find ((65536 : Int) + j) = some j := by
  have h1 : ((65536 : Int) + j) % 65536 = j := by omega
  have h2 : ((65536 : Int) + j) / 65536 = 1 := by omega
  have h3 : (0 : Int) ≤ (65536 : Int) + j := by omega
  unfold Mod.find
  rw [if_pos h3, h1, h2]
  simp [valM, h]
theorem valM_store (zs : List Int) (j : Nat) (x : Int) (h : j < zs.length) : (valM zs).store j (.int .i64 x) = valM (zs.set j x) := by
  simp [valM, Mod.store, Mod.put, Mod.genAt, h, List.map_set]
theorem valM_count (zs : List Int) : (valM zs).count = zs.length := by
  simp [valM, Mod.count, List.countP_map, Function.comp_def]
theorem valM_at (zs : List Int) (j : Nat) (h : j < zs.length) : (valM zs).slots[j]? = some ⟨1, true, .int .i64 (zs.getD j 0)⟩ := by
  simp [valM, h, List.getD]

def setAt (zs : List Int) (at' v : Int) : List Int := if 0 ≤ at' ∧ at' < zs.length then zs.set at'.toNat v else zs
theorem setAt_len (zs : List Int) (at' v : Int) : (setAt zs at' v).length = zs.length := by
  unfold setAt
  split <;> simp
theorem setAt_at (zs : List Int) (at' v : Int) (j : Nat) (h : j < zs.length) : (setAt zs at' v).getD j 0 = if (j : Int) = at' then v else zs.getD j 0 := by
  unfold setAt
  split
  · rename_i h1
    simp only [List.getD, List.getElem?_set]
    by_cases hj : (j : Int) = at'
    · have h2 : at'.toNat = j := by omega
      simp [h2, h, hj]
    · have h2 : ¬ at'.toNat = j := by omega
      simp [h2, hj]
  · rename_i h1
    rw [if_neg (by omega)]

theorem values_long (p : Option Addr) (len cap : Nat) (at' v : Int) (w : World) (h : 60 < len) :
    Calls Try.prog 8 #[.slice p len cap, .int .i64 at', .int .i64 v] w fun e w' => e = .returned (.bool true) ∧ Turn NoBlock w w' := by
  have c1 : ∀ w, Calls Try.prog 9 #[.int .i64 64] w _ := fun w => inew_yes 64 w (by decide)
  have c2 := awake_any
  have h' : (60 : Int) < len := by omega
  go_enter Try.func8, Try.ntmps8
  go_wp2_with (first | (go_at_call 9; (with_reducible refine (c1 _).mono ?_); rintro e w1 ⟨rfl, F1, A1, T1, L1⟩; have T1' : Hid (Turn NoBlock _ w1) := T1; clear A1 L1 T1) | (go_at_call 10; (with_reducible refine (c2 _).mono ?_); rintro e w2 ⟨rfl, T2⟩; have T2' : Hid (Turn NoBlock _ w2) := T2; clear T2))
  go_ret
  exact ⟨rfl, T1'.out.trans T2'.out (fun k h => .inl h)⟩

theorem values_walk (zs : List Int) (p : Option Addr) (len cap : Nat) (at' v : Int) (w : World) (hl : zs.length = len) (h60 : len ≤ 60)
    (hp : 0 < len → ∃ b off, p = some ⟨b, off, none⟩ ∧ ∀ j, j < len → w.cell? ⟨b, off + j, none⟩ = some (.int .i64 (zs.getD j 0))) :
    Calls Try.prog 8 #[.slice p len cap, .int .i64 at', .int .i64 v] w fun e w' => e = .returned (.bool true) ∧ Turn NoBlock w w' := by
  obtain ⟨ii, hi, hz0, hz1, hz2⟩ := info_parts iinfo3
  have c1 : ∀ w, Calls Try.prog 9 #[.int .i64 64] w _ := fun w => inew_yes 64 w (by decide)
  have c2 := awake_any
  have HL : Hid (zs.length = len) := hl
  have HP : Hid (0 < len → ∃ b off, p = some ⟨b, off, none⟩ ∧ ∀ j, j < len → w.cell? ⟨b, off + j, none⟩ = some (.int .i64 (zs.getD j 0))) := hp
  clear hl hp
  go_enter Try.func8, Try.ntmps8
  go_wp2_with (first | (go_at_call 9; (with_reducible refine (c1 _).mono ?_); rintro e w1 ⟨rfl, F1, A1, T1, L1⟩; have S1 : Hid (St w w1 F1 (fun w' => iArena w' w.heap.size F1 (valM [])) (Blk (.slice none 0 0)) (Ints (.slice none 0 0) []) NoBlock Nothing) := ((St.begin w).step1 (iown _ _ _) A1 (T1.mono (fun _ h => .inl h)) (fun k hk => .inr (L1 k hk))).step2 (own_ints _ _) (ints_nil _) (Turn.refl _ _) (fun k hk => (blk_nil k hk).elim); clear A1 T1 L1))
  go_loopg [8, 33] len (fun n u c wr => ∃ i : Nat, i ≤ len ∧ n = len - i ∧ c = .int .i64 i ∧ ∃ F, Hid (St w wr F (fun w' => iArena w' w.heap.size F (valM (zs.take i))) (Blk u) (Ints u (valIds i)) NoBlock Nothing))
  case atStart => exact ⟨0, by omega, by omega, rfl, F1, by simpa [valIds] using S1⟩
  case round =>
    obtain ⟨i, hi', hgk, rfl, F, S2⟩ := hrel
    by_cases hlt : i < len
    · obtain ⟨b, off, rfl, hc⟩ := HP.out (by omega)
      have hcx := S2.out.cell (hc i hlt)
      have HC : Hid (∀ j, j < len → w.cell? ⟨b, off + j, none⟩ = some (.int .i64 (zs.getD j 0))) := hc
      obtain ⟨x, hx⟩ : ∃ x, zs.getD i 0 = x := ⟨_, rfl⟩
      rw [hx] at hcx
      have hx1 : zs.take (i + 1) = zs.take i ++ [x] := by
        rw [List.take_add_one, ← hx]
        simp [List.getD, List.getElem?_eq_getElem (show i < zs.length by have := HL.out; omega)]
      have HX : Hid (zs.take (i + 1) = zs.take i ++ [x]) := hx1
      have htl : (zs.take i).length = i := by have := HL.out; rw [List.length_take]; omega
      have d1 : ∀ wx, iArena wx w.heap.size F (valM (zs.take i)) → Calls Try.prog 11 #[.pointer (some ⟨w.heap.size, 0, none⟩), .int .i64 x] wx fun e w' => e = .returned (.tuple #[.int .i64 ((65536 : Int) + i), .int .i64 0]) ∧
          ∃ F', iArena w' w.heap.size F' (valM (zs.take (i + 1))) ∧ Turn F wx w' ∧ ∀ k, F' k → F k ∨ wx.heap.size ≤ k := fun wx h => by
        have := ialloc_some x wx w.heap.size F _ _ _ h (valM_alloc (zs.take i) x (by omega))
        rw [htl, ← HX.out] at this
        exact this
      have q3 : i + 1 ≤ maxLen := by unfold maxLen; omega
      have q4 : (i + 1) * 8 ≤ 140737488355328 := by omega
      have q2 : ∀ u ∈ [Value.int .i64 ((65536 : Int) + i)], u.oneCell' = true := by
        intro u hu
        simp at hu
        subst hu
        rfl
      clear hc hx htl hx1
      go_wp2_with (first
        | (go_at_call 11; (with_reducible refine (d1 _ (Hid.out S2).n1).mono ?_); rintro e w2 ⟨rfl, F3, A3, T3, L3⟩; have S3 : Hid (St w w2 F3 (fun w' => iArena w' w.heap.size F3 (valM (zs.take (i + 1)))) (Blk u8) (Ints u8 (valIds i)) NoBlock Nothing) := (Hid.out S2).step1 (iown _ _ _) A3 T3 L3; have O3 : w2.ownsRow 0 3 1 u8 i ((valIds i).map (Value.int .i64)) := (by have := (Hid.out S3).n2; unfold Ints at this; rw [valIds_len] at this; exact this); clear A3 T3 L3)
        | (at_builtin; refine wpList_append_lies _ rfl (.tmp 43) (.tmp 45) 27 rfl 0 3 ii _ 1 8 iints hi hz0 hz1 hz2 rfl (by decide) u8 i ((valIds i).map (Value.int .i64)) rfl (World.ownsRow.alloc O3 _) ⟨w2.heap.size, 0, none⟩ 1 1 [.int .i64 ((65536 : Int) + i)] rfl rfl (fun j u hu => World.news_of_block (heap_alloc_new w2 _) j u (by simpa using hu)) q2 (by decide) q3 q4 (Nat.zero_le _) (w2.heap.size + 1) (by simp) ?_; intro g cc w3 hown hgrow hat hlt3; have S4 : Hid (St w w3 F3 (fun w' => iArena w' w.heap.size F3 (valM (zs.take (i + 1)))) (Blk (.slice (some ⟨g, 0, none⟩) (i + 1) cc)) (Ints (.slice (some ⟨g, 0, none⟩) (i + 1) cc) (valIds (i + 1))) NoBlock Nothing) := (by obtain ⟨r1, r2, r3⟩ := ints_push (valIds_len i) hown hgrow hat; rw [← valIds_succ] at r1; exact (Hid.out S3).step2 (own_ints _ _) r1 r2 r3); clear hown hgrow hat O3))
      go_roundg (len - (i + 1))
      case measure => omega
      case rel => exact ⟨i + 1, by omega, by omega, by go_num, F3, S4⟩
    · obtain rfl : i = len := by omega
      have S3 : Hid (St w wr F (fun w' => iArena w' w.heap.size F (valM zs)) (Blk u8) (Ints u8 (valIds i)) NoBlock Nothing) := by
        have := S2.out
        rw [List.take_of_length_le (by have := HL.out; omega)] at this
        exact this
      obtain ⟨pu, cu, hu⟩ := ints_slice S3.out.n2
      rw [valIds_len] at hu
      subst hu
      have hii : Hid (0 < i → ∃ g, pu = some ⟨g, 0, none⟩ ∧ i ≤ cu ∧ cu ≤ 9223372036854775807) := fun h0 => by
        obtain ⟨g, c, he, h1, h2⟩ := ints_shape S3.out.n2 (by rw [valIds_len]; exact h0)
        rw [valIds_len] at he h1
        simp at he
        exact ⟨g, he.1, he.2 ▸ h1, he.2 ▸ h2⟩
      have d7 : ∀ wx, iArena wx w.heap.size F (valM (setAt zs at' v)) → Calls Try.prog 19 #[.pointer (some ⟨w.heap.size, 0, none⟩)] wx fun e w' => e = .returned (.int .i64 i) ∧ w' = wx := fun wx h => by
        have := icount_any wx w.heap.size F _ h
        rw [valM_count, setAt_len, HL.out] at this
        exact this
      have d6 : ∀ (j : Nat), j < i → ∀ wx, iArena wx w.heap.size F (valM (setAt zs at' v)) → Calls Try.prog 17 #[.pointer (some ⟨w.heap.size, 0, none⟩), .int .i64 ((65536 : Int) + j)] wx fun e w' => e = .returned (.tuple #[.int .i64 (if (j : Int) = at' then v else zs.getD j 0), .bool true]) ∧ ∃ n, w' = wx.drewN n := fun j hj wx h => by
        have hll := HL.out
        have := iget_some wx w.heap.size F _ ((65536 : Int) + j) j _ _ h (by omega) (valM_find _ j (by rw [setAt_len]; omega) (by rw [setAt_len]; omega)) (valM_at _ j (by rw [setAt_len]; omega)) rfl
        rw [setAt_at zs at' v j (by omega)] at this
        exact this
      by_cases hin : 0 ≤ at' ∧ at' < i
      · obtain ⟨k, rfl⟩ : ∃ k : Nat, at' = k := ⟨at'.toNat, by omega⟩
        have hk : k < i := by omega
        obtain ⟨g, rfl, h1, h2⟩ := hii.out (by omega)
        have c3 := ints_cell S3.out.n2 k (by rw [valIds_len]; exact hk)
        rw [valIds_at i k hk] at c3
        have d5 : ∀ wx, iArena wx w.heap.size F (valM zs) → Calls Try.prog 15 #[.pointer (some ⟨w.heap.size, 0, none⟩), .int .i64 ((65536 : Int) + k), .int .i64 v] wx fun e w' => e = .returned (.int .i64 0) ∧ iArena w' w.heap.size F (valM (setAt zs k v)) ∧ Turn F wx w' := fun wx h => by
          have hll := HL.out
          have := iset_some v wx w.heap.size F _ ((65536 : Int) + k) k h (by omega) (valM_find _ k (by omega) (by omega))
          rw [valM_store _ _ _ (by omega)] at this
          have e : setAt zs k v = zs.set k v := by
            unfold setAt
            rw [if_pos (by omega)]
            simp
          rw [e]
          exact this
        clear hin
        go_wp2_with (go_at_call 15; (with_reducible refine (d5 _ (Hid.out S3).n1).mono ?_); rintro e w5 ⟨rfl, A5, T5⟩; have S5 : Hid (St w w5 F (fun w' => iArena w' w.heap.size F (valM (setAt zs k v))) (Blk (.slice (some ⟨g, 0, none⟩) i cu)) (Ints (.slice (some ⟨g, 0, none⟩) i cu) (valIds i)) NoBlock Nothing) := (Hid.out S3).step1 (iown _ _ _) A5 T5 (fun _ h => .inl h); clear A5 T5)
        go_loopg [68] i (fun n c wr => ∃ j : Nat, j ≤ i ∧ n = i - j ∧ c = .int .i64 j ∧ Hid (St w wr F (fun w' => iArena w' w.heap.size F (valM (setAt zs (k : Int) v))) (Blk (.slice (some ⟨g, 0, none⟩) i cu)) (Ints (.slice (some ⟨g, 0, none⟩) i cu) (valIds i)) NoBlock Nothing))
        case atStart => exact ⟨0, by omega, by omega, rfl, S5⟩
        case round =>
          obtain ⟨j, hj', hgk2, rfl, S6⟩ := hrel
          by_cases hlt2 : j < i
          · obtain ⟨b, off, rfl, hc⟩ := HP.out (by omega)
            have hcx := S6.out.cell (hc j hlt2)
            have c3 := ints_cell S6.out.n2 j (by rw [valIds_len]; exact hlt2)
            rw [valIds_at i j hlt2] at c3
            have e6 := d6 j hlt2
            obtain ⟨x, hx⟩ : ∃ x, zs.getD j 0 = x := ⟨_, rfl⟩
            rw [hx] at hcx
            rw [hx] at e6
            have HC : Hid (∀ j, j < i → w.cell? ⟨b, off + j, none⟩ = some (.int .i64 (zs.getD j 0))) := hc
            clear hc hx
            by_cases hja : (j : Int) = (k : Int)
            · simp only [if_pos hja] at e6
              have hb : ((j : Int) == (k : Int)) = true := by simp [hja]
              clear hja
              go_wp2_with (go_at_call 17; (with_reducible refine (e6 _ (Hid.out S6).n1).mono ?_); rintro e w7 ⟨rfl, nn, rfl⟩)
              go_roundg (i - (j + 1))
              case measure => omega
              case rel => exact ⟨j + 1, by omega, by omega, by go_num, (Hid.out S6).drewN nn⟩
            · simp only [if_neg hja] at e6
              have hb : ((j : Int) == (k : Int)) = false := by simp [hja]
              clear hja
              go_wp2_with (go_at_call 17; (with_reducible refine (e6 _ (Hid.out S6).n1).mono ?_); rintro e w7 ⟨rfl, nn, rfl⟩)
              go_roundg (i - (j + 1))
              case measure => omega
              case rel => exact ⟨j + 1, by omega, by omega, by go_num, (Hid.out S6).drewN nn⟩
          · obtain rfl : j = i := by omega
            go_wp2_with (first
              | (go_at_call 19; (with_reducible refine (same (d7 _ (Hid.out S6).n1)).mono ?_); rintro e w8 ⟨rfl, rfl⟩)
              | (go_at_call 10; (with_reducible refine (c2 _).mono ?_); rintro e w9 ⟨rfl, T9⟩; have T9' : Hid (Turn NoBlock _ w9) := T9; clear T9))
            go_ret
            exact ⟨rfl, S6.out.turn.trans T9'.out (fun k h => .inl h)⟩
      · have hout : Hid (¬(0 ≤ at' ∧ at' < (i : Int))) := hin
        have S5 : Hid (St w wr F (fun w' => iArena w' w.heap.size F (valM (setAt zs at' v))) (Blk (.slice pu i cu)) (Ints (.slice pu i cu) (valIds i)) NoBlock Nothing) := by
          have e : setAt zs at' v = zs := by
            unfold setAt
            rw [if_neg (by have := HL.out; omega)]
          rw [e]
          exact S3
        have hd : (decide (0 ≤ at') && decide (at' < (i : Int))) = false := by
          simp only [Bool.and_eq_false_iff, decide_eq_false_iff_not]
          omega
        rcases (show at' < 0 ∨ (0 ≤ at' ∧ (i : Int) ≤ at') from by omega) with h8 | ⟨h8, h9⟩
        all_goals clear hin hd
        all_goals go_wp2_with fail
        all_goals
          go_loopg [68] i (fun n c wr => ∃ j : Nat, j ≤ i ∧ n = i - j ∧ c = .int .i64 j ∧ Hid (St w wr F (fun w' => iArena w' w.heap.size F (valM (setAt zs at' v))) (Blk (.slice pu i cu)) (Ints (.slice pu i cu) (valIds i)) NoBlock Nothing))
          case atStart => exact ⟨0, by omega, by omega, rfl, S5⟩
          case round =>
            obtain ⟨j, hj', hgk2, rfl, S6⟩ := hrel
            by_cases hlt2 : j < i
            · obtain ⟨b, off, rfl, hc⟩ := HP.out (by omega)
              have hcx := S6.out.cell (hc j hlt2)
              obtain ⟨g, rfl, h1, h2⟩ := hii.out (by omega)
              have c3 := ints_cell S6.out.n2 j (by rw [valIds_len]; exact hlt2)
              rw [valIds_at i j hlt2] at c3
              have e6 := d6 j hlt2
              obtain ⟨x, hx⟩ : ∃ x, zs.getD j 0 = x := ⟨_, rfl⟩
              rw [hx] at hcx
              rw [hx] at e6
              have HC : Hid (∀ j, j < i → w.cell? ⟨b, off + j, none⟩ = some (.int .i64 (zs.getD j 0))) := hc
              clear hc hx
              by_cases hja : (j : Int) = at'
              · simp only [if_pos hja] at e6
                have hb : ((j : Int) == at') = true := by simp [hja]
                clear hja
                go_wp2_with (go_at_call 17; (with_reducible refine (e6 _ (Hid.out S6).n1).mono ?_); rintro e w7 ⟨rfl, nn, rfl⟩)
                go_roundg (i - (j + 1))
                case measure => omega
                case rel => exact ⟨j + 1, by omega, by omega, by go_num, (Hid.out S6).drewN nn⟩
              · simp only [if_neg hja] at e6
                have hb : ((j : Int) == at') = false := by simp [hja]
                clear hja
                go_wp2_with (go_at_call 17; (with_reducible refine (e6 _ (Hid.out S6).n1).mono ?_); rintro e w7 ⟨rfl, nn, rfl⟩)
                go_roundg (i - (j + 1))
                case measure => omega
                case rel => exact ⟨j + 1, by omega, by omega, by go_num, (Hid.out S6).drewN nn⟩
            · obtain rfl : j = i := by omega
              go_wp2_with (first
                | (go_at_call 19; (with_reducible refine (same (d7 _ (Hid.out S6).n1)).mono ?_); rintro e w8 ⟨rfl, rfl⟩)
                | (go_at_call 10; (with_reducible refine (c2 _).mono ?_); rintro e w9 ⟨rfl, T9⟩; have T9' : Hid (Turn NoBlock _ w9) := T9; clear T9))
              go_ret
              exact ⟨rfl, S6.out.turn.trans T9'.out (fun k h => .inl h)⟩

end Go.Proofs.Ytfpmbbplgdkogaa
