/-
  The statement ArenaLast answers true at all numbers and all slices of numbers.
-/
import Derived.Test.YtfpmbbplgdkogaaAwake
import Derived.Test.YtfpmbbplgdkogaaThings
import Derived.Test.YtfpmbbplgdkogaaLastModel
import Derived.Test.YtfpmbbplgdkogaaOwnArena
import Derived.Deep.LoopGhost
import Derived.BigQuiet
import Derived.BigQuiet
namespace Go.Proofs.Ytfpmbbplgdkogaa
open Go.ChangeShapes Go.WideShapes Go.ChangeAt Go.RowKit

theorem last_none (c n : Int) (p : Option Addr) (len cap : Nat) (w : World) (h : c < 0 ∨ 65536 < c) :
    Calls Try.prog 7 #[.int .i64 c, .int .i64 n, .slice p len cap] w fun e w' => e = .returned (.bool true) ∧ Turn NoBlock w w' := by
  have c1 := fun w => inew_no c w h
  have c2 := awake_any
  rcases h with h | h
  all_goals
    go_enter Try.func7, Try.ntmps7
    go_wp2_with (first | (go_at_call 9; (with_reducible refine (same (c1 _)).mono ?_); rintro e w1 ⟨rfl, rfl⟩) | (go_at_call 10; (with_reducible refine (c2 _).mono ?_); rintro e w2 ⟨rfl, T2⟩; have T2' : Hid (Turn NoBlock _ w2) := T2; clear T2))
    go_ret
    exact ⟨rfl, T2'.out⟩

theorem last_past (C : Nat) (n : Int) (p : Option Addr) (len cap : Nat) (w : World) (hC : C ≤ 65536) (h : n < 0 ∨ 50 < n ∨ 100 < len) :
    Calls Try.prog 7 #[.int .i64 C, .int .i64 n, .slice p len cap] w fun e w' => e = .returned (.bool true) ∧ Turn NoBlock w w' := by
  have c1 := fun w => inew_yes C w hC
  have c2 := awake_any
  rcases (show n < 0 ∨ (0 ≤ n ∧ 50 < n) ∨ (0 ≤ n ∧ n ≤ 50 ∧ (100 : Int) < len) from by omega) with h1 | ⟨h1, h2⟩ | ⟨h1, h2, h3⟩
  all_goals
    clear h
    go_enter Try.func7, Try.ntmps7
    go_wp2_with (first | (go_at_call 9; (with_reducible refine (c1 _).mono ?_); rintro e w1 ⟨rfl, F1, A1, T1, L1⟩; have T1' : Hid (Turn NoBlock _ w1) := T1; clear A1 L1 T1) | (go_at_call 10; (with_reducible refine (c2 _).mono ?_); rintro e w2 ⟨rfl, T2⟩; have T2' : Hid (Turn NoBlock _ w2) := T2; clear T2))
    go_ret
    exact ⟨rfl, T1'.out.trans T2'.out (fun k h => .inl h)⟩

theorem last_walk_n (zs : List Int) (C n : Nat) (p : Option Addr) (len cap : Nat) (w : World) (hC : C ≤ 65536) (hn : n ≤ 50) (hl : zs.length = len) (h100 : len ≤ 100) (hle : n ≤ C)
    (hp : 0 < len → ∃ b off, p = some ⟨b, off, none⟩ ∧ ∀ j, j < len → w.cell? ⟨b, off + j, none⟩ = some (.int .i64 (zs.getD j 0))) :
    Calls Try.prog 7 #[.int .i64 C, .int .i64 n, .slice p len cap] w fun e w' => e = .returned (.bool true) ∧ Turn NoBlock w w' := by
  obtain ⟨ii, hi, hz0, hz1, hz2⟩ := info_parts iinfo3
  have c1 := fun w => inew_yes C w hC
  have c2 := awake_any
  have HL : Hid (zs.length = len) := hl
  have HP : Hid (0 < len → ∃ b off, p = some ⟨b, off, none⟩ ∧ ∀ j, j < len → w.cell? ⟨b, off + j, none⟩ = some (.int .i64 (zs.getD j 0))) := hp
  clear hl hp
  go_enter Try.func7, Try.ntmps7
  go_wp2_with (first | (go_at_call 9; (with_reducible refine (c1 _).mono ?_); rintro e w1 ⟨rfl, F1, A1, T1, L1⟩; have S1 : Hid (St w w1 F1 (fun w' => iArena w' w.heap.size F1 (rngM C 0 (lastF [] 0) [])) (Blk (.slice none 0 0)) (Ints (.slice none 0 0) (firstIds (List.range 0))) NoBlock Nothing) := ((St.begin w).step1 (iown _ _ _) A1 (T1.mono (fun _ h => .inl h)) (fun k hk => .inr (L1 k hk))).step2 (own_ints _ _) (ints_nil _) (Turn.refl _ _) (fun k hk => (blk_nil k hk).elim); clear A1 T1 L1))
  go_loopg [8, 51] n (fun g u c wr => ∃ i : Nat, i ≤ n ∧ g = n - i ∧ c = .int .i64 i ∧ ∃ F, Hid (St w wr F (fun w' => iArena w' w.heap.size F (rngM C i (lastF [] 0) [])) (Blk u) (Ints u (firstIds (List.range i))) NoBlock Nothing))
  case atStart => exact ⟨0, by omega, by omega, rfl, F1, S1⟩
  case round =>
    obtain ⟨i, hi', hgk, rfl, F, S2⟩ := hrel
    by_cases hlt : i < n
    · have d1 : ∀ wx, iArena wx w.heap.size F (rngM C i (lastF [] 0) []) → Calls Try.prog 11 #[.pointer (some ⟨w.heap.size, 0, none⟩), .int .i64 i] wx fun e w' => e = .returned (.tuple #[.int .i64 ((65536 : Int) + i), .int .i64 0]) ∧
          ∃ F', iArena w' w.heap.size F' (rngM C (i + 1) (lastF [] 0) []) ∧ Turn F wx w' ∧ ∀ k, F' k → F k ∨ wx.heap.size ≤ k := fun wx h =>
        ialloc_some i wx w.heap.size F _ _ _ h (rng_push C i _ _ (by omega) rfl)
      have hlen : (firstIds (List.range i)).length = i := by rw [firstIds_len, List.length_range]
      have HLen : Hid ((firstIds (List.range i)).length = i) := hlen
      have d2 := fun w => slot_yes ((65536 : Int) + i) w (by omega) (by omega)
      simp only [show ((65536 : Int) + i) % 65536 = i from by omega] at d2
      have hsucc : firstIds (List.range (i + 1)) = firstIds (List.range i) ++ [(65536 : Int) + i] := by rw [List.range_succ, firstIds_push]
      have HS : Hid (firstIds (List.range (i + 1)) = firstIds (List.range i) ++ [(65536 : Int) + i]) := hsucc
      have q3 : i + 1 ≤ maxLen := by unfold maxLen; omega
      have q4 : (i + 1) * 8 ≤ 140737488355328 := by omega
      have q2 : ∀ u ∈ [Value.int .i64 ((65536 : Int) + i)], u.oneCell' = true := by
        intro u hu
        simp at hu
        subst hu
        rfl
      clear hlen hsucc
      go_wp2_with (first
        | (go_at_call 11; (with_reducible refine (d1 _ (Hid.out S2).n1).mono ?_); rintro e w2 ⟨rfl, F3, A3, T3, L3⟩; have S3 : Hid (St w w2 F3 (fun w' => iArena w' w.heap.size F3 (rngM C (i + 1) (lastF [] 0) [])) (Blk u8) (Ints u8 (firstIds (List.range i))) NoBlock Nothing) := (Hid.out S2).step1 (iown _ _ _) A3 T3 L3; have O3 : w2.ownsRow 0 3 1 u8 i ((firstIds (List.range i)).map (Value.int .i64)) := (by have := (Hid.out S3).n2; unfold Ints at this; rw [Hid.out HLen] at this; exact this); clear A3 T3 L3)
        | (go_at_call 24; (with_reducible refine (same (d2 _)).mono ?_); rintro e w' ⟨rfl, rfl⟩)
        | (at_builtin; refine wpList_append_lies _ rfl (.tmp 68) (.tmp 70) 27 rfl 0 3 ii _ 1 8 iints hi hz0 hz1 hz2 rfl (by decide) u8 i ((firstIds (List.range i)).map (Value.int .i64)) rfl (World.ownsRow.alloc O3 _) ⟨w2.heap.size, 0, none⟩ 1 1 [.int .i64 ((65536 : Int) + i)] rfl rfl (fun j u hu => World.news_of_block (heap_alloc_new w2 _) j u (by simpa using hu)) q2 (by decide) q3 q4 (Nat.zero_le _) (w2.heap.size + 1) (by simp) ?_; intro g cc w3 hown hgrow hat hlt3; have S4 : Hid (St w w3 F3 (fun w' => iArena w' w.heap.size F3 (rngM C (i + 1) (lastF [] 0) [])) (Blk (.slice (some ⟨g, 0, none⟩) (i + 1) cc)) (Ints (.slice (some ⟨g, 0, none⟩) (i + 1) cc) (firstIds (List.range (i + 1)))) NoBlock Nothing) := (by obtain ⟨r1, r2, r3⟩ := ints_push (Hid.out HLen) hown hgrow hat; rw [← Hid.out HS] at r1; exact (Hid.out S3).step2 (own_ints _ _) r1 r2 r3); clear hown hgrow hat O3))
      go_roundg (n - (i + 1))
      case measure => omega
      case rel => exact ⟨i + 1, by omega, by omega, by go_num, F3, S4⟩
    · obtain rfl : i = n := by omega
      obtain ⟨pu, cu, hu⟩ := ints_slice S2.out.n2
      rw [firstIds_len, List.length_range] at hu
      subst hu
      have S3 : Hid (St w wr F (fun w' => iArena w' w.heap.size F (rngM C i (lastF [] 0) [])) (Blk (.slice pu i cu)) (Ints (.slice pu i cu) (firstIds (List.range i))) (Blk (.slice none 0 0)) (Ints (.slice none 0 0) (firstIds []))) := S2.out.step3 (own_ints _ _) (ints_nil _) (Turn.refl _ _) (fun k hk => (blk_nil k hk).elim)
      have hii : Hid (0 < i → ∃ g, pu = some ⟨g, 0, none⟩ ∧ i ≤ cu ∧ cu ≤ 9223372036854775807) := fun h0 => by
        obtain ⟨g, c, he, h1, h2⟩ := ints_shape S3.out.n2 (by rw [firstIds_len, List.length_range]; exact h0)
        rw [firstIds_len, List.length_range] at he h1
        simp at he
        exact ⟨g, he.1, he.2 ▸ h1, he.2 ▸ h2⟩
      go_wp2_with fail
      go_loopg [12, 75] len (fun g u c wr => ∃ j : Nat, j ≤ len ∧ g = len - j ∧ c = .int .i64 j ∧ ∃ F fr, Hid (fr.Nodup ∧ (∀ x ∈ fr, x < i) ∧ fr.length ≤ j) ∧ Hid (St w wr F (fun w' => iArena w' w.heap.size F (rngM C i (lastF fr fr.length) fr)) (Blk (.slice pu i cu)) (Ints (.slice pu i cu) (firstIds (List.range i))) (Blk u) (Ints u (firstIds fr))))
      case atStart => exact ⟨0, by omega, by omega, rfl, F, [], ⟨by simp, by simp, by simp⟩, S3⟩
      case round =>
        obtain ⟨j, hj', hgk2, rfl, F2, fr, hfr, S6⟩ := hrel
        by_cases hlt2 : j < len
        · obtain ⟨b, off, rfl, hc⟩ := HP.out (by omega)
          have hcx := S6.out.cell (hc j hlt2)
          have HC : Hid (∀ j, j < len → w.cell? ⟨b, off + j, none⟩ = some (.int .i64 (zs.getD j 0))) := hc
          obtain ⟨x, hx⟩ : ∃ x, zs.getD j 0 = x := ⟨_, rfl⟩
          rw [hx] at hcx
          clear hc hx
          by_cases hin : 0 ≤ x ∧ x < i
          · obtain ⟨k, rfl⟩ : ∃ k : Nat, x = k := ⟨x.toNat, by omega⟩
            have hk : k < i := by omega
            obtain ⟨g, rfl, h1, h2⟩ := hii.out (by omega)
            have c3 := ints_cell S6.out.n2 k (by rw [firstIds_len, List.length_range]; exact hk)
            rw [firstIds_at (List.range i) k k (by simp [hk])] at c3
            by_cases hkf : k ∈ fr
            · have d3 : ∀ wx, iArena wx w.heap.size F2 (rngM C i (lastF fr fr.length) fr) → Calls Try.prog 13 #[.pointer (some ⟨w.heap.size, 0, none⟩), .int .i64 ((65536 : Int) + k)] wx fun e w' => e = .returned (.int .i64 (-25)) ∧ ∃ n, w' = wx.drewN n := fun wx h =>
                ifree_none wx w.heap.size F2 _ _ h (by omega) (rng_gone _ _ _ _ _ hk (by omega) (by rw [lastF_taken]; simp [hkf]))
              clear hin hkf
              go_wp2_with (go_at_call 13; (with_reducible refine (d3 _ (Hid.out S6).n1).mono ?_); rintro e w7 ⟨rfl, nn, rfl⟩)
              go_roundg (len - (j + 1))
              case measure => omega
              case rel => exact ⟨j + 1, by omega, by omega, by go_num, F2, fr, ⟨hfr.out.1, hfr.out.2.1, by have := hfr.out.2.2; omega⟩, (Hid.out S6).drewN nn⟩
            · have d3 : ∀ wx, iArena wx w.heap.size F2 (rngM C i (lastF fr fr.length) fr) → Calls Try.prog 13 #[.pointer (some ⟨w.heap.size, 0, none⟩), .int .i64 ((65536 : Int) + k)] wx fun e w' => e = .returned (.int .i64 0) ∧ ∃ F', iArena w' w.heap.size F' (rngM C i (lastF (fr ++ [k]) (fr ++ [k]).length) (fr ++ [k])) ∧ Turn F2 wx w' ∧ ∀ j, F' j → F2 j ∨ wx.heap.size ≤ j := fun wx h => by
                have := ifree_some wx w.heap.size F2 _ _ k h (by omega) (rng_find _ _ _ _ _ hk (by omega) (lastF_gen _ _) (by rw [lastF_taken]; simp [hkf]))
                rw [rng_free _ _ _ _ _ hk (lastF_gen _ _)] at this
                simp only [lastF_free] at this
                exact this
              have HK : Hid (k ∉ fr) := hkf
              obtain ⟨nf, hnf⟩ : ∃ nf, fr.length = nf := ⟨_, rfl⟩
              have HNF : Hid (fr.length = nf) := hnf
              have hnf1 : nf ≤ j := by have := hfr.out.2.2; omega
              have q3 : nf + 1 ≤ maxLen := by unfold maxLen; omega
              have q4 : (nf + 1) * 8 ≤ 140737488355328 := by omega
              have q2 : ∀ u ∈ [Value.int .i64 ((65536 : Int) + k)], u.oneCell' = true := by
                intro u hu
                simp at hu
                subst hu
                rfl
              clear hin hkf hnf
              go_wp2_with (first
                | (go_at_call 13; (with_reducible refine (d3 _ (Hid.out S6).n1).mono ?_); rintro e w7 ⟨rfl, F7, A7, T7, L7⟩; have S7 : Hid (St w w7 F7 (fun w' => iArena w' w.heap.size F7 (rngM C i (lastF (fr ++ [k]) (fr ++ [k]).length) (fr ++ [k]))) (Blk (.slice (some ⟨g, 0, none⟩) i cu)) (Ints (.slice (some ⟨g, 0, none⟩) i cu) (firstIds (List.range i))) (Blk u12) (Ints u12 (firstIds fr))) := (Hid.out S6).step1 (iown _ _ _) A7 T7 L7; have O7 : w7.ownsRow 0 3 1 u12 nf ((firstIds fr).map (Value.int .i64)) := (by have := (Hid.out S7).n3; unfold Ints at this; rw [firstIds_len, Hid.out HNF] at this; exact this); have c7 := ints_cell (Hid.out S7).n2 k (by rw [firstIds_len, List.length_range]; exact hk); rw [firstIds_at (List.range i) k k (by simp [hk])] at c7; clear A7 T7 L7)
                | (at_builtin; refine wpList_append_lies _ rfl (.tmp 96) (.tmp 101) 27 rfl 0 3 ii _ 1 8 iints hi hz0 hz1 hz2 rfl (by decide) u12 nf ((firstIds fr).map (Value.int .i64)) rfl (World.ownsRow.alloc O7 _) ⟨w7.heap.size, 0, none⟩ 1 1 [.int .i64 ((65536 : Int) + k)] rfl rfl (fun j u hu => World.news_of_block (heap_alloc_new w7 _) j u (by simpa using hu)) q2 (by decide) q3 q4 (Nat.zero_le _) (w7.heap.size + 1) (by simp) ?_; intro g8 cc8 w8 hown hgrow hat hlt3; have S8 : Hid (St w w8 F7 (fun w' => iArena w' w.heap.size F7 (rngM C i (lastF (fr ++ [k]) (fr ++ [k]).length) (fr ++ [k]))) (Blk (.slice (some ⟨g, 0, none⟩) i cu)) (Ints (.slice (some ⟨g, 0, none⟩) i cu) (firstIds (List.range i))) (Blk (.slice (some ⟨g8, 0, none⟩) (nf + 1) cc8)) (Ints (.slice (some ⟨g8, 0, none⟩) (nf + 1) cc8) (firstIds (fr ++ [k])))) := (by obtain ⟨r1, r2, r3⟩ := ints_push (by rw [firstIds_len]; exact Hid.out HNF) hown hgrow hat; rw [← firstIds_push] at r1; exact (Hid.out S7).step3 (own_ints _ _) r1 r2 r3); clear hown hgrow hat O7))
              go_roundg (len - (j + 1))
              case measure => omega
              case rel => exact ⟨j + 1, by omega, by omega, by go_num, F7, fr ++ [k], ⟨by
                rw [List.nodup_append]
                exact ⟨hfr.out.1, by simp, fun x hx y hy => by simp at hy; subst hy; intro e; subst e; exact HK.out hx⟩, by
                intro x hx
                rcases List.mem_append.1 hx with hx | hx
                · exact hfr.out.2.1 x hx
                · simp at hx; omega, by
                have := HNF.out
                simp
                omega⟩, S8⟩
          · rcases (show x < 0 ∨ (0 ≤ x ∧ (i : Int) ≤ x) from by omega) with h8 | ⟨h8, h9⟩
            all_goals
              clear hin
              go_wp2_with fail
              go_roundg (len - (j + 1))
              case measure => omega
              case rel => exact ⟨j + 1, by omega, by omega, by go_num, F2, fr, ⟨hfr.out.1, hfr.out.2.1, by have := hfr.out.2.2; omega⟩, S6⟩
        · obtain rfl : j = len := by omega
          obtain ⟨pf, cf, hf⟩ := ints_slice S6.out.n3
          rw [firstIds_len] at hf
          subst hf
          obtain ⟨nf, hnf⟩ : ∃ nf, fr.length = nf := ⟨_, rfl⟩
          have hnf1 : nf ≤ 100 := by have := hfr.out.2.2; omega
          have hff : Hid (0 < nf → ∃ g, pf = some ⟨g, 0, none⟩ ∧ nf ≤ cf ∧ cf ≤ 9223372036854775807) := fun h0 => by
            obtain ⟨g, c, he, h1, h2⟩ := ints_shape S6.out.n3 (by rw [firstIds_len, hnf]; exact h0)
            rw [firstIds_len, hnf] at he h1
            simp at he
            exact ⟨g, he.1, he.2 ▸ h1, he.2 ▸ h2⟩
          have S7 : Hid (St w wr F2 (fun w' => iArena w' w.heap.size F2 (rngM C i (lastF fr nf) (fr.take nf))) (Blk (.slice pu i cu)) (Ints (.slice pu i cu) (firstIds (List.range i))) (Blk (.slice pf nf cf)) (Ints (.slice pf nf cf) (firstIds fr))) := by
            have := S6.out
            rw [hnf] at this
            rw [← hnf, List.take_length, hnf]
            exact this
          have HNF : Hid (fr.length = nf) := hnf
          rw [hnf]
          clear hnf
          go_wp2_with fail
          go_loopg [15] nf (fun g c wr => ∃ r : Nat, r ≤ nf ∧ g = r ∧ c = .int .i64 ((r : Int) - 1) ∧ ∃ F, Hid (St w wr F (fun w' => iArena w' w.heap.size F (rngM C i (lastF fr r) (fr.take r))) (Blk (.slice pu i cu)) (Ints (.slice pu i cu) (firstIds (List.range i))) (Blk (.slice pf nf cf)) (Ints (.slice pf nf cf) (firstIds fr))))
          case atStart => exact ⟨nf, by omega, by omega, rfl, F2, S7⟩
          case round =>
            obtain ⟨r, hr, hgk3, rfl, F3, S8⟩ := hrel
            cases r with
            | zero =>
              have d7 : ∀ wx, iArena wx w.heap.size F3 (rngM C i (lastF fr 0) (fr.take 0)) → Calls Try.prog 19 #[.pointer (some ⟨w.heap.size, 0, none⟩)] wx fun e w' => e = .returned (.int .i64 i) ∧ w' = wx := fun wx h => by
                have := icount_any wx w.heap.size F3 _ h
                rw [rng_count _ _ _ _ (fun k _ => by unfold lastF; by_cases hm : k ∈ fr <;> simp [hm])] at this
                exact this
              go_wp2_with (first
                | (go_at_call 19; (with_reducible refine (same (d7 _ (Hid.out S8).n1)).mono ?_); rintro e w8 ⟨rfl, rfl⟩)
                | (go_at_call 10; (with_reducible refine (c2 _).mono ?_); rintro e w9 ⟨rfl, T9⟩; have T9' : Hid (Turn NoBlock _ w9) := T9; clear T9))
              go_ret
              exact ⟨rfl, S8.out.turn.trans T9'.out (fun k h => .inl h)⟩
            | succ q =>
              have hq : (((q + 1 : Nat) : Int) - 1) = q := by omega
              rw [hq]
              obtain ⟨x, hx⟩ : ∃ x, fr[q]? = some x := ⟨fr[q]'(by have := HNF.out; omega), List.getElem?_eq_getElem (by have := HNF.out; omega)⟩
              have hxi : x < i := hfr.out.2.1 x (List.mem_of_getElem? hx)
              obtain ⟨gf, rfl, h1, h2⟩ := hff.out (by omega)
              have hat : fr.take (q + 1) = fr.take q ++ [x] := by rw [List.take_add_one, hx]; rfl
              have d1 : ∀ wx, iArena wx w.heap.size F3 (rngM C i (lastF fr (q + 1)) (fr.take (q + 1))) → Calls Try.prog 11 #[.pointer (some ⟨w.heap.size, 0, none⟩), .int .i64 7] wx fun e w' => e = .returned (.tuple #[.int .i64 ((131072 : Int) + x), .int .i64 0]) ∧
                  ∃ F', iArena w' w.heap.size F' (rngM C i (lastF fr q) (fr.take q)) ∧ Turn F3 wx w' ∧ ∀ k, F' k → F3 k ∨ wx.heap.size ≤ k := fun wx h => by
                rw [hat] at h
                have := ialloc_some 7 wx w.heap.size F3 _ _ _ h (rng_pop _ _ _ _ _ _ hxi)
                simp only [lastF_pop fr q x _ hfr.out.1 hx] at this
                rw [lastF_gen2 fr q x hx] at this
                have e : (((1 : Nat) : Int) + 1) * 65536 + (x : Int) = 131072 + x := by omega
                rw [e] at this
                exact this
              have d2 := fun w => slot_yes ((131072 : Int) + x) w (by omega) (by omega)
              have d3 := fun w => gen_yes ((131072 : Int) + x) w (by omega) (by omega)
              have d4 := fun w => slot_yes ((65536 : Int) + x) w (by omega) (by omega)
              have d5 := fun w => gen_yes ((65536 : Int) + x) w (by omega) (by omega)
              simp only [show ((131072 : Int) + x) % 65536 = x from by omega] at d2
              simp only [show ((131072 : Int) + x) / 65536 = 2 from by omega] at d3
              simp only [show ((65536 : Int) + x) % 65536 = x from by omega] at d4
              simp only [show ((65536 : Int) + x) / 65536 = 1 from by omega] at d5
              have hqn : q < nf := by omega
              have HX : Hid (fr[q]? = some x) := hx
              clear hx hat hq
              go_wp2_with (go_at_call 11; (with_reducible refine (d1 _ (Hid.out S8).n1).mono ?_); rintro e w9 ⟨rfl, F9, A9, T9, L9⟩; have S9 : Hid (St w w9 F9 (fun w' => iArena w' w.heap.size F9 (rngM C i (lastF fr q) (fr.take q))) (Blk (.slice pu i cu)) (Ints (.slice pu i cu) (firstIds (List.range i))) (Blk (.slice (some ⟨gf, 0, none⟩) nf cf)) (Ints (.slice (some ⟨gf, 0, none⟩) nf cf) (firstIds fr))) := (Hid.out S8).step1 (iown _ _ _) A9 T9 L9; have c9 := ints_cell (Hid.out S9).n3 q (by rw [firstIds_len, Hid.out HNF]; exact hqn); rw [firstIds_at fr q x (Hid.out HX)] at c9; clear A9 T9 L9)
              go_quiet (first
                | (go_at_call 24; (with_reducible refine Calls.quiet_of_same (d2 _)))
                | (go_at_call 24; (with_reducible refine Calls.quiet_of_same (d4 _)))
                | (go_at_call 25; (with_reducible refine Calls.quiet_of_same (d3 _)))
                | (go_at_call 25; (with_reducible refine Calls.quiet_of_same (d5 _))))
              go_wp2_with fail
              go_roundg q
              case measure => omega
              case rel => exact ⟨q, by omega, by omega, by go_num, F9, (Hid.out S9).drewN _⟩

theorem last_walk_C (zs : List Int) (C n : Nat) (p : Option Addr) (len cap : Nat) (w : World) (hC : C ≤ 65536) (hn : n ≤ 50) (hl : zs.length = len) (h100 : len ≤ 100) (hle : C < n)
    (hp : 0 < len → ∃ b off, p = some ⟨b, off, none⟩ ∧ ∀ j, j < len → w.cell? ⟨b, off + j, none⟩ = some (.int .i64 (zs.getD j 0))) :
    Calls Try.prog 7 #[.int .i64 C, .int .i64 n, .slice p len cap] w fun e w' => e = .returned (.bool true) ∧ Turn NoBlock w w' := by
  obtain ⟨ii, hi, hz0, hz1, hz2⟩ := info_parts iinfo3
  have c1 := fun w => inew_yes C w hC
  have c2 := awake_any
  have HL : Hid (zs.length = len) := hl
  have HP : Hid (0 < len → ∃ b off, p = some ⟨b, off, none⟩ ∧ ∀ j, j < len → w.cell? ⟨b, off + j, none⟩ = some (.int .i64 (zs.getD j 0))) := hp
  clear hl hp
  go_enter Try.func7, Try.ntmps7
  go_wp2_with (first | (go_at_call 9; (with_reducible refine (c1 _).mono ?_); rintro e w1 ⟨rfl, F1, A1, T1, L1⟩; have S1 : Hid (St w w1 F1 (fun w' => iArena w' w.heap.size F1 (rngM C 0 (lastF [] 0) [])) (Blk (.slice none 0 0)) (Ints (.slice none 0 0) (firstIds (List.range 0))) NoBlock Nothing) := ((St.begin w).step1 (iown _ _ _) A1 (T1.mono (fun _ h => .inl h)) (fun k hk => .inr (L1 k hk))).step2 (own_ints _ _) (ints_nil _) (Turn.refl _ _) (fun k hk => (blk_nil k hk).elim); clear A1 T1 L1))
  go_loopg [8, 51] C (fun g u c wr => ∃ i : Nat, i ≤ C ∧ g = C - i ∧ c = .int .i64 i ∧ ∃ F, Hid (St w wr F (fun w' => iArena w' w.heap.size F (rngM C i (lastF [] 0) [])) (Blk u) (Ints u (firstIds (List.range i))) NoBlock Nothing))
  case atStart => exact ⟨0, by omega, by omega, rfl, F1, S1⟩
  case round =>
    obtain ⟨i, hi', hgk, rfl, F, S2⟩ := hrel
    by_cases hlt : i < C
    · have d1 : ∀ wx, iArena wx w.heap.size F (rngM C i (lastF [] 0) []) → Calls Try.prog 11 #[.pointer (some ⟨w.heap.size, 0, none⟩), .int .i64 i] wx fun e w' => e = .returned (.tuple #[.int .i64 ((65536 : Int) + i), .int .i64 0]) ∧
          ∃ F', iArena w' w.heap.size F' (rngM C (i + 1) (lastF [] 0) []) ∧ Turn F wx w' ∧ ∀ k, F' k → F k ∨ wx.heap.size ≤ k := fun wx h =>
        ialloc_some i wx w.heap.size F _ _ _ h (rng_push C i _ _ (by omega) rfl)
      have hlen : (firstIds (List.range i)).length = i := by rw [firstIds_len, List.length_range]
      have HLen : Hid ((firstIds (List.range i)).length = i) := hlen
      have d2 := fun w => slot_yes ((65536 : Int) + i) w (by omega) (by omega)
      simp only [show ((65536 : Int) + i) % 65536 = i from by omega] at d2
      have hsucc : firstIds (List.range (i + 1)) = firstIds (List.range i) ++ [(65536 : Int) + i] := by rw [List.range_succ, firstIds_push]
      have HS : Hid (firstIds (List.range (i + 1)) = firstIds (List.range i) ++ [(65536 : Int) + i]) := hsucc
      have q3 : i + 1 ≤ maxLen := by unfold maxLen; omega
      have q4 : (i + 1) * 8 ≤ 140737488355328 := by omega
      have q2 : ∀ u ∈ [Value.int .i64 ((65536 : Int) + i)], u.oneCell' = true := by
        intro u hu
        simp at hu
        subst hu
        rfl
      clear hlen hsucc
      go_wp2_with (first
        | (go_at_call 11; (with_reducible refine (d1 _ (Hid.out S2).n1).mono ?_); rintro e w2 ⟨rfl, F3, A3, T3, L3⟩; have S3 : Hid (St w w2 F3 (fun w' => iArena w' w.heap.size F3 (rngM C (i + 1) (lastF [] 0) [])) (Blk u8) (Ints u8 (firstIds (List.range i))) NoBlock Nothing) := (Hid.out S2).step1 (iown _ _ _) A3 T3 L3; have O3 : w2.ownsRow 0 3 1 u8 i ((firstIds (List.range i)).map (Value.int .i64)) := (by have := (Hid.out S3).n2; unfold Ints at this; rw [Hid.out HLen] at this; exact this); clear A3 T3 L3)
        | (go_at_call 24; (with_reducible refine (same (d2 _)).mono ?_); rintro e w' ⟨rfl, rfl⟩)
        | (at_builtin; refine wpList_append_lies _ rfl (.tmp 68) (.tmp 70) 27 rfl 0 3 ii _ 1 8 iints hi hz0 hz1 hz2 rfl (by decide) u8 i ((firstIds (List.range i)).map (Value.int .i64)) rfl (World.ownsRow.alloc O3 _) ⟨w2.heap.size, 0, none⟩ 1 1 [.int .i64 ((65536 : Int) + i)] rfl rfl (fun j u hu => World.news_of_block (heap_alloc_new w2 _) j u (by simpa using hu)) q2 (by decide) q3 q4 (Nat.zero_le _) (w2.heap.size + 1) (by simp) ?_; intro g cc w3 hown hgrow hat hlt3; have S4 : Hid (St w w3 F3 (fun w' => iArena w' w.heap.size F3 (rngM C (i + 1) (lastF [] 0) [])) (Blk (.slice (some ⟨g, 0, none⟩) (i + 1) cc)) (Ints (.slice (some ⟨g, 0, none⟩) (i + 1) cc) (firstIds (List.range (i + 1)))) NoBlock Nothing) := (by obtain ⟨r1, r2, r3⟩ := ints_push (Hid.out HLen) hown hgrow hat; rw [← Hid.out HS] at r1; exact (Hid.out S3).step2 (own_ints _ _) r1 r2 r3); clear hown hgrow hat O3))
      go_roundg (C - (i + 1))
      case measure => omega
      case rel => exact ⟨i + 1, by omega, by omega, by go_num, F3, S4⟩
    · obtain rfl : i = C := by omega
      obtain ⟨pu, cu, hu⟩ := ints_slice S2.out.n2
      rw [firstIds_len, List.length_range] at hu
      subst hu
      have S3 : Hid (St w wr F (fun w' => iArena w' w.heap.size F (rngM i i (lastF [] 0) [])) (Blk (.slice pu i cu)) (Ints (.slice pu i cu) (firstIds (List.range i))) (Blk (.slice none 0 0)) (Ints (.slice none 0 0) (firstIds []))) := S2.out.step3 (own_ints _ _) (ints_nil _) (Turn.refl _ _) (fun k hk => (blk_nil k hk).elim)
      have hii : Hid (0 < i → ∃ g, pu = some ⟨g, 0, none⟩ ∧ i ≤ cu ∧ cu ≤ 9223372036854775807) := fun h0 => by
        obtain ⟨g, c, he, h1, h2⟩ := ints_shape S3.out.n2 (by rw [firstIds_len, List.length_range]; exact h0)
        rw [firstIds_len, List.length_range] at he h1
        simp at he
        exact ⟨g, he.1, he.2 ▸ h1, he.2 ▸ h2⟩
      go_wp2_with fail
      go_loopg [12, 75] len (fun g u c wr => ∃ j : Nat, j ≤ len ∧ g = len - j ∧ c = .int .i64 j ∧ ∃ F fr, Hid (fr.Nodup ∧ (∀ x ∈ fr, x < i) ∧ fr.length ≤ j) ∧ Hid (St w wr F (fun w' => iArena w' w.heap.size F (rngM i i (lastF fr fr.length) fr)) (Blk (.slice pu i cu)) (Ints (.slice pu i cu) (firstIds (List.range i))) (Blk u) (Ints u (firstIds fr))))
      case atStart => exact ⟨0, by omega, by omega, rfl, F, [], ⟨by simp, by simp, by simp⟩, S3⟩
      case round =>
        obtain ⟨j, hj', hgk2, rfl, F2, fr, hfr, S6⟩ := hrel
        by_cases hlt2 : j < len
        · obtain ⟨b, off, rfl, hc⟩ := HP.out (by omega)
          have hcx := S6.out.cell (hc j hlt2)
          have HC : Hid (∀ j, j < len → w.cell? ⟨b, off + j, none⟩ = some (.int .i64 (zs.getD j 0))) := hc
          obtain ⟨x, hx⟩ : ∃ x, zs.getD j 0 = x := ⟨_, rfl⟩
          rw [hx] at hcx
          clear hc hx
          by_cases hin : 0 ≤ x ∧ x < i
          · obtain ⟨k, rfl⟩ : ∃ k : Nat, x = k := ⟨x.toNat, by omega⟩
            have hk : k < i := by omega
            obtain ⟨g, rfl, h1, h2⟩ := hii.out (by omega)
            have c3 := ints_cell S6.out.n2 k (by rw [firstIds_len, List.length_range]; exact hk)
            rw [firstIds_at (List.range i) k k (by simp [hk])] at c3
            by_cases hkf : k ∈ fr
            · have d3 : ∀ wx, iArena wx w.heap.size F2 (rngM i i (lastF fr fr.length) fr) → Calls Try.prog 13 #[.pointer (some ⟨w.heap.size, 0, none⟩), .int .i64 ((65536 : Int) + k)] wx fun e w' => e = .returned (.int .i64 (-25)) ∧ ∃ n, w' = wx.drewN n := fun wx h =>
                ifree_none wx w.heap.size F2 _ _ h (by omega) (rng_gone _ _ _ _ _ hk (by omega) (by rw [lastF_taken]; simp [hkf]))
              clear hin hkf
              go_wp2_with (go_at_call 13; (with_reducible refine (d3 _ (Hid.out S6).n1).mono ?_); rintro e w7 ⟨rfl, nn, rfl⟩)
              go_roundg (len - (j + 1))
              case measure => omega
              case rel => exact ⟨j + 1, by omega, by omega, by go_num, F2, fr, ⟨hfr.out.1, hfr.out.2.1, by have := hfr.out.2.2; omega⟩, (Hid.out S6).drewN nn⟩
            · have d3 : ∀ wx, iArena wx w.heap.size F2 (rngM i i (lastF fr fr.length) fr) → Calls Try.prog 13 #[.pointer (some ⟨w.heap.size, 0, none⟩), .int .i64 ((65536 : Int) + k)] wx fun e w' => e = .returned (.int .i64 0) ∧ ∃ F', iArena w' w.heap.size F' (rngM i i (lastF (fr ++ [k]) (fr ++ [k]).length) (fr ++ [k])) ∧ Turn F2 wx w' ∧ ∀ j, F' j → F2 j ∨ wx.heap.size ≤ j := fun wx h => by
                have := ifree_some wx w.heap.size F2 _ _ k h (by omega) (rng_find _ _ _ _ _ hk (by omega) (lastF_gen _ _) (by rw [lastF_taken]; simp [hkf]))
                rw [rng_free _ _ _ _ _ hk (lastF_gen _ _)] at this
                simp only [lastF_free] at this
                exact this
              have HK : Hid (k ∉ fr) := hkf
              obtain ⟨nf, hnf⟩ : ∃ nf, fr.length = nf := ⟨_, rfl⟩
              have HNF : Hid (fr.length = nf) := hnf
              have hnf1 : nf ≤ j := by have := hfr.out.2.2; omega
              have q3 : nf + 1 ≤ maxLen := by unfold maxLen; omega
              have q4 : (nf + 1) * 8 ≤ 140737488355328 := by omega
              have q2 : ∀ u ∈ [Value.int .i64 ((65536 : Int) + k)], u.oneCell' = true := by
                intro u hu
                simp at hu
                subst hu
                rfl
              clear hin hkf hnf
              go_wp2_with (first
                | (go_at_call 13; (with_reducible refine (d3 _ (Hid.out S6).n1).mono ?_); rintro e w7 ⟨rfl, F7, A7, T7, L7⟩; have S7 : Hid (St w w7 F7 (fun w' => iArena w' w.heap.size F7 (rngM i i (lastF (fr ++ [k]) (fr ++ [k]).length) (fr ++ [k]))) (Blk (.slice (some ⟨g, 0, none⟩) i cu)) (Ints (.slice (some ⟨g, 0, none⟩) i cu) (firstIds (List.range i))) (Blk u12) (Ints u12 (firstIds fr))) := (Hid.out S6).step1 (iown _ _ _) A7 T7 L7; have O7 : w7.ownsRow 0 3 1 u12 nf ((firstIds fr).map (Value.int .i64)) := (by have := (Hid.out S7).n3; unfold Ints at this; rw [firstIds_len, Hid.out HNF] at this; exact this); have c7 := ints_cell (Hid.out S7).n2 k (by rw [firstIds_len, List.length_range]; exact hk); rw [firstIds_at (List.range i) k k (by simp [hk])] at c7; clear A7 T7 L7)
                | (at_builtin; refine wpList_append_lies _ rfl (.tmp 96) (.tmp 101) 27 rfl 0 3 ii _ 1 8 iints hi hz0 hz1 hz2 rfl (by decide) u12 nf ((firstIds fr).map (Value.int .i64)) rfl (World.ownsRow.alloc O7 _) ⟨w7.heap.size, 0, none⟩ 1 1 [.int .i64 ((65536 : Int) + k)] rfl rfl (fun j u hu => World.news_of_block (heap_alloc_new w7 _) j u (by simpa using hu)) q2 (by decide) q3 q4 (Nat.zero_le _) (w7.heap.size + 1) (by simp) ?_; intro g8 cc8 w8 hown hgrow hat hlt3; have S8 : Hid (St w w8 F7 (fun w' => iArena w' w.heap.size F7 (rngM i i (lastF (fr ++ [k]) (fr ++ [k]).length) (fr ++ [k]))) (Blk (.slice (some ⟨g, 0, none⟩) i cu)) (Ints (.slice (some ⟨g, 0, none⟩) i cu) (firstIds (List.range i))) (Blk (.slice (some ⟨g8, 0, none⟩) (nf + 1) cc8)) (Ints (.slice (some ⟨g8, 0, none⟩) (nf + 1) cc8) (firstIds (fr ++ [k])))) := (by obtain ⟨r1, r2, r3⟩ := ints_push (by rw [firstIds_len]; exact Hid.out HNF) hown hgrow hat; rw [← firstIds_push] at r1; exact (Hid.out S7).step3 (own_ints _ _) r1 r2 r3); clear hown hgrow hat O7))
              go_roundg (len - (j + 1))
              case measure => omega
              case rel => exact ⟨j + 1, by omega, by omega, by go_num, F7, fr ++ [k], ⟨by
                rw [List.nodup_append]
                exact ⟨hfr.out.1, by simp, fun x hx y hy => by simp at hy; subst hy; intro e; subst e; exact HK.out hx⟩, by
                intro x hx
                rcases List.mem_append.1 hx with hx | hx
                · exact hfr.out.2.1 x hx
                · simp at hx; omega, by
                have := HNF.out
                simp
                omega⟩, S8⟩
          · rcases (show x < 0 ∨ (0 ≤ x ∧ (i : Int) ≤ x) from by omega) with h8 | ⟨h8, h9⟩
            all_goals
              clear hin
              go_wp2_with fail
              go_roundg (len - (j + 1))
              case measure => omega
              case rel => exact ⟨j + 1, by omega, by omega, by go_num, F2, fr, ⟨hfr.out.1, hfr.out.2.1, by have := hfr.out.2.2; omega⟩, S6⟩
        · obtain rfl : j = len := by omega
          obtain ⟨pf, cf, hf⟩ := ints_slice S6.out.n3
          rw [firstIds_len] at hf
          subst hf
          obtain ⟨nf, hnf⟩ : ∃ nf, fr.length = nf := ⟨_, rfl⟩
          have hnf1 : nf ≤ 100 := by have := hfr.out.2.2; omega
          have hff : Hid (0 < nf → ∃ g, pf = some ⟨g, 0, none⟩ ∧ nf ≤ cf ∧ cf ≤ 9223372036854775807) := fun h0 => by
            obtain ⟨g, c, he, h1, h2⟩ := ints_shape S6.out.n3 (by rw [firstIds_len, hnf]; exact h0)
            rw [firstIds_len, hnf] at he h1
            simp at he
            exact ⟨g, he.1, he.2 ▸ h1, he.2 ▸ h2⟩
          have S7 : Hid (St w wr F2 (fun w' => iArena w' w.heap.size F2 (rngM i i (lastF fr nf) (fr.take nf))) (Blk (.slice pu i cu)) (Ints (.slice pu i cu) (firstIds (List.range i))) (Blk (.slice pf nf cf)) (Ints (.slice pf nf cf) (firstIds fr))) := by
            have := S6.out
            rw [hnf] at this
            rw [← hnf, List.take_length, hnf]
            exact this
          have HNF : Hid (fr.length = nf) := hnf
          rw [hnf]
          clear hnf
          go_wp2_with fail
          go_loopg [15] nf (fun g c wr => ∃ r : Nat, r ≤ nf ∧ g = r ∧ c = .int .i64 ((r : Int) - 1) ∧ ∃ F, Hid (St w wr F (fun w' => iArena w' w.heap.size F (rngM i i (lastF fr r) (fr.take r))) (Blk (.slice pu i cu)) (Ints (.slice pu i cu) (firstIds (List.range i))) (Blk (.slice pf nf cf)) (Ints (.slice pf nf cf) (firstIds fr))))
          case atStart => exact ⟨nf, by omega, by omega, rfl, F2, S7⟩
          case round =>
            obtain ⟨r, hr, hgk3, rfl, F3, S8⟩ := hrel
            cases r with
            | zero =>
              have d7 : ∀ wx, iArena wx w.heap.size F3 (rngM i i (lastF fr 0) (fr.take 0)) → Calls Try.prog 19 #[.pointer (some ⟨w.heap.size, 0, none⟩)] wx fun e w' => e = .returned (.int .i64 i) ∧ w' = wx := fun wx h => by
                have := icount_any wx w.heap.size F3 _ h
                rw [rng_count _ _ _ _ (fun k _ => by unfold lastF; by_cases hm : k ∈ fr <;> simp [hm])] at this
                exact this
              go_wp2_with (first
                | (go_at_call 19; (with_reducible refine (same (d7 _ (Hid.out S8).n1)).mono ?_); rintro e w8 ⟨rfl, rfl⟩)
                | (go_at_call 10; (with_reducible refine (c2 _).mono ?_); rintro e w9 ⟨rfl, T9⟩; have T9' : Hid (Turn NoBlock _ w9) := T9; clear T9))
              go_ret
              exact ⟨rfl, S8.out.turn.trans T9'.out (fun k h => .inl h)⟩
            | succ q =>
              have hq : (((q + 1 : Nat) : Int) - 1) = q := by omega
              rw [hq]
              obtain ⟨x, hx⟩ : ∃ x, fr[q]? = some x := ⟨fr[q]'(by have := HNF.out; omega), List.getElem?_eq_getElem (by have := HNF.out; omega)⟩
              have hxi : x < i := hfr.out.2.1 x (List.mem_of_getElem? hx)
              obtain ⟨gf, rfl, h1, h2⟩ := hff.out (by omega)
              have hat : fr.take (q + 1) = fr.take q ++ [x] := by rw [List.take_add_one, hx]; rfl
              have d1 : ∀ wx, iArena wx w.heap.size F3 (rngM i i (lastF fr (q + 1)) (fr.take (q + 1))) → Calls Try.prog 11 #[.pointer (some ⟨w.heap.size, 0, none⟩), .int .i64 7] wx fun e w' => e = .returned (.tuple #[.int .i64 ((131072 : Int) + x), .int .i64 0]) ∧
                  ∃ F', iArena w' w.heap.size F' (rngM i i (lastF fr q) (fr.take q)) ∧ Turn F3 wx w' ∧ ∀ k, F' k → F3 k ∨ wx.heap.size ≤ k := fun wx h => by
                rw [hat] at h
                have := ialloc_some 7 wx w.heap.size F3 _ _ _ h (rng_pop _ _ _ _ _ _ hxi)
                simp only [lastF_pop fr q x _ hfr.out.1 hx] at this
                rw [lastF_gen2 fr q x hx] at this
                have e : (((1 : Nat) : Int) + 1) * 65536 + (x : Int) = 131072 + x := by omega
                rw [e] at this
                exact this
              have d2 := fun w => slot_yes ((131072 : Int) + x) w (by omega) (by omega)
              have d3 := fun w => gen_yes ((131072 : Int) + x) w (by omega) (by omega)
              have d4 := fun w => slot_yes ((65536 : Int) + x) w (by omega) (by omega)
              have d5 := fun w => gen_yes ((65536 : Int) + x) w (by omega) (by omega)
              simp only [show ((131072 : Int) + x) % 65536 = x from by omega] at d2
              simp only [show ((131072 : Int) + x) / 65536 = 2 from by omega] at d3
              simp only [show ((65536 : Int) + x) % 65536 = x from by omega] at d4
              simp only [show ((65536 : Int) + x) / 65536 = 1 from by omega] at d5
              have hqn : q < nf := by omega
              have HX : Hid (fr[q]? = some x) := hx
              clear hx hat hq
              go_wp2_with (go_at_call 11; (with_reducible refine (d1 _ (Hid.out S8).n1).mono ?_); rintro e w9 ⟨rfl, F9, A9, T9, L9⟩; have S9 : Hid (St w w9 F9 (fun w' => iArena w' w.heap.size F9 (rngM i i (lastF fr q) (fr.take q))) (Blk (.slice pu i cu)) (Ints (.slice pu i cu) (firstIds (List.range i))) (Blk (.slice (some ⟨gf, 0, none⟩) nf cf)) (Ints (.slice (some ⟨gf, 0, none⟩) nf cf) (firstIds fr))) := (Hid.out S8).step1 (iown _ _ _) A9 T9 L9; have c9 := ints_cell (Hid.out S9).n3 q (by rw [firstIds_len, Hid.out HNF]; exact hqn); rw [firstIds_at fr q x (Hid.out HX)] at c9; clear A9 T9 L9)
              go_quiet (first
                | (go_at_call 24; (with_reducible refine Calls.quiet_of_same (d2 _)))
                | (go_at_call 24; (with_reducible refine Calls.quiet_of_same (d4 _)))
                | (go_at_call 25; (with_reducible refine Calls.quiet_of_same (d3 _)))
                | (go_at_call 25; (with_reducible refine Calls.quiet_of_same (d5 _))))
              go_wp2_with fail
              go_roundg q
              case measure => omega
              case rel => exact ⟨q, by omega, by omega, by go_num, F9, (Hid.out S9).drewN _⟩

end Go.Proofs.Ytfpmbbplgdkogaa
