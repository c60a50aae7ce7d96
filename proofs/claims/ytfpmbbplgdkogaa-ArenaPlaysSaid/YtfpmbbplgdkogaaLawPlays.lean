/-
  The statement ArenaPlays answers true at all numbers and all slices of calls.
-/
import Derived.Test.YtfpmbbplgdkogaaPlaysParts
namespace Go.Proofs.Ytfpmbbplgdkogaa
open Go.ChangeShapes Go.WideShapes Go.ChangeAt Go.RowKit

set_option maxHeartbeats 4000000 in
set_option maxRecDepth 20000 in
theorem plays_walk (os : Nat → OpV) (C : Nat) (p : Option Addr) (len cap : Nat) (w : World) (hC : C ≤ 65536) (h200 : len ≤ 200) (hp : OpsAt w p len os) (hfit : OpsFit len os) :
    Calls Try.prog 3 #[.int .i64 C, .slice p len cap] w fun e w' => e = .returned (.bool true) ∧ Turn NoBlock w w' := by
  obtain ⟨ii, hi, hz0, hz1, hz2⟩ := info_parts iinfo3
  have c1 := fun w => inew_yes C w hC
  have c2 := awake_any
  have HP : Hid (OpsAt w p len os) := hp
  have HFit : Hid (OpsFit len os) := hfit
  clear hp hfit
  go_enter Try.func3, Try.ntmps3
  go_wp2_with (go_at_call 9; (with_reducible refine (c1 _).mono ?_); rintro e w1 ⟨rfl, F1, A1, T1, L1⟩; have S1 : Hid (St w w1 F1 (fun w' => iArena w' w.heap.size F1 ⟨C, [], []⟩) NoBlock Nothing NoBlock Nothing) := (St.begin w).step1 (iown _ _ _) A1 (T1.mono (fun _ h => .inl h)) (fun k hk => .inr (L1 k hk)); clear A1 T1 L1)
  obtain ⟨B, hB⟩ : ∃ B, w1.heap.size = B := ⟨_, rfl⟩
  have S2 : Hid (∃ G, St w (w1.alloc (.cells #[.slice none 0 0, .slice none 0 0, .slice none 0 0, .slice none 0 0, .int .i64 C] 30)) F1 (fun w' => iArena w' w.heap.size F1 ⟨C, [], []⟩) G (fun w' => Ref w' B G ⟨C, [], []⟩) (Blk (.slice none 0 0)) (Ints (.slice none 0 0) [])) := by
    have hr : Ref (w1.alloc (.cells #[.slice none 0 0, .slice none 0 0, .slice none 0 0, .slice none 0 0, .int .i64 C] 30)) B (RFoot B (.slice none 0 0) (.slice none 0 0) (.slice none 0 0) (.slice none 0 0)) ⟨C, [], []⟩ := by
      rw [← hB]
      exact ⟨_, _, _, _, ⟨heap_alloc_new w1 _, World.ownsRow_nil _ _ _ _, World.ownsRow_nil _ _ _ _, World.ownsRow_nil _ _ _ _, ⟨none, 0, rfl, Nat.le_refl _, by omega, .inl ⟨rfl, rfl, rfl⟩⟩, fun k h => by simp [Value.ownBlock] at h, fun k h => by simp [Value.ownBlock] at h, fun k h => by simp [Value.ownBlock] at h⟩, S1.out.n1.ok, rfl⟩
    refine ⟨_, ((S1.out.step2 (own_ref B _ _) hr ((Turn.refl _ w1).alloc _) (fun k hk => .inr ?_)).step3 (own_ints _ _) (ints_nil _) (Turn.refl _ _) (fun k hk => (blk_nil k hk).elim))⟩
    rcases hk with hk | hk | hk | hk | hk
    · omega
    all_goals simp [Value.ownBlock] at hk
  obtain ⟨G1, S3⟩ := S2.out
  have S4 := (show Hid _ from S3)
  rw [hB]
  clear hB S1 S2 S3
  go_loopg [7, 51] len (fun g u c wr => ∃ i : Nat, i ≤ len ∧ g = len - i ∧ c = .int .i64 i ∧ ∃ F G m told, Hid (Plain m C i ∧ told.length ≤ i ∧ ∀ id ∈ told, 0 ≤ id ∧ id ≤ 9223372036854775807) ∧ Hid (St w wr F (fun w' => iArena w' w.heap.size F m) G (fun w' => Ref w' B G m) (Blk u) (Ints u told)))
  case atStart => exact ⟨0, by omega, by omega, rfl, F1, G1, _, [], ⟨⟨rfl, by simp, by simp⟩, by simp, by simp⟩, S4⟩
  case round =>
    obtain ⟨i, hi', hgk, rfl, F, G, m, told, hO, S5⟩ := hrel
    by_cases hlt : i < len
    · obtain ⟨b, off, rfl, hc⟩ := HP.out (by omega)
      obtain ⟨k0, k1, k2, k3⟩ := hc i hlt
      have k0 := S5.out.cell k0
      have k1 := S5.out.cell k1
      have k2 := S5.out.cell k2
      have k3 := S5.out.cell k3
      obtain ⟨o, ho⟩ : ∃ o, os i = o := ⟨_, rfl⟩
      rw [ho] at k0 k1 k2 k3
      have hof := HFit.out i hlt
      rw [ho] at hof
      have hob := bounds_i64 hof.2.1
      have HC := (show Hid _ from hc)
      clear hc ho hof
      obtain ⟨pu, cu, hu⟩ := ints_slice S5.out.n3
      subst hu
      obtain ⟨nt, hnt⟩ : ∃ nt, told.length = nt := ⟨_, rfl⟩
      have HNT : Hid (told.length = nt) := hnt
      have hnti : nt ≤ i := by have := hO.out.2.1; omega
      rw [hnt] at S5 ⊢
      clear hnt
      go_upto_region 11 with fail
      obtain ⟨W, hW⟩ : ∃ W, wr.alloc (.cells #[.int .i64 o.kind, .int .i64 o.id, .int .i64 o.n, .int .i64 o.v] 32) = W := ⟨_, rfl⟩
      obtain ⟨ob, hob⟩ : ∃ ob, wr.heap.size = ob := ⟨_, rfl⟩
      have m0 : (wr.alloc (.cells #[.int .i64 o.kind, .int .i64 o.id, .int .i64 o.n, .int .i64 o.v] 32)).cell? ⟨wr.heap.size, 0, none⟩ = some (.int .i64 o.kind) := by simp
      have m1 : (wr.alloc (.cells #[.int .i64 o.kind, .int .i64 o.id, .int .i64 o.n, .int .i64 o.v] 32)).cell? ⟨wr.heap.size, 1, none⟩ = some (.int .i64 o.id) := by simp
      have m2 : (wr.alloc (.cells #[.int .i64 o.kind, .int .i64 o.id, .int .i64 o.n, .int .i64 o.v] 32)).cell? ⟨wr.heap.size, 2, none⟩ = some (.int .i64 o.n) := by simp
      have m3 : (wr.alloc (.cells #[.int .i64 o.kind, .int .i64 o.id, .int .i64 o.n, .int .i64 o.v] 32)).cell? ⟨wr.heap.size, 3, none⟩ = some (.int .i64 o.v) := by simp
      have S6 := S5.out.alloc (.cells #[.int .i64 o.kind, .int .i64 o.id, .int .i64 o.n, .int .i64 o.v] 32)
      have F1' : Hid (∀ k, F k → k ≠ ob) := fun k hk => by have := S5.out.o1.lt _ S5.out.n1 _ hk; omega
      have F2' : Hid (∀ k, G k → k ≠ ob) := fun k hk => by have := S5.out.o2.lt _ S5.out.n2 _ hk; omega
      rw [hW] at m0 m1 m2 m3 S6 ⊢
      rw [hob] at m0 m1 m2 m3 ⊢
      have S7 := (show Hid _ from S6)
      clear hW hob k0 k1 k2 k3 S6
      iterate 14 go_step
      go_cut [10] (fun s10 wx => W = wx ∧ ∃ id : Int, s10 = .int .i64 id ∧ id ≤ 9223372036854775807)
      case first => as_aux_lemma =>
        by_cases hk3 : o.kind ≤ 3
        · have hkb : decide (3 < o.kind) = false := by simp only [decide_eq_false_iff_not]; omega
          go_wp2_with fail
          go_meet
          exact ⟨rfl, o.id, rfl, by omega⟩
        · have hkb : decide (3 < o.kind) = true := by simp only [decide_eq_true_eq]; omega
          by_cases hin : 0 ≤ o.n ∧ o.n < nt
          · obtain ⟨k, hk⟩ : ∃ k : Nat, o.n = k := ⟨o.n.toNat, by omega⟩
            rw [hk] at m2
            have hkn : k < nt := by omega
            obtain ⟨g, c, he, h1, h2⟩ := ints_shape S5.out.n3 (by rw [HNT.out]; omega)
            rw [HNT.out] at he h1
            simp at he
            obtain ⟨rfl, rfl⟩ := he
            have c3 := ints_cell S7.out.n3 k (by rw [HNT.out]; exact hkn)
            have hk2 : k < told.length := by rw [HNT.out]; exact hkn
            have hm : told.getD k 0 ∈ told := by
              simp only [List.getD, List.getElem?_eq_getElem hk2, Option.getD_some]
              exact List.getElem_mem hk2
            obtain ⟨id, hid⟩ : ∃ id, told.getD k 0 = id := ⟨_, rfl⟩
            rw [hid] at c3 hm
            have hidm : id ≤ 9223372036854775807 := (hO.out.2.2 id hm).2
            clear hin hk hid hm hk2 hk3
            go_wp2_with fail
            go_meet
            exact ⟨rfl, id, rfl, hidm⟩
          · rcases (show o.n < 0 ∨ (0 ≤ o.n ∧ (nt : Int) ≤ o.n) from by omega) with h8 | ⟨h8, h9⟩
            all_goals
              clear hin hk3
              go_wp2_with fail
              go_meet
              exact ⟨rfl, o.id, rfl, by omega⟩
      case rest =>
        obtain ⟨rfl, id, rfl, hidm⟩ := hcut
        have hpl := hO.out.1
        go_step
        go_step
        go_cut [7, 11, 12, 13, 14, 15, 16, 17] (fun s7 s11 s12 s13 s14 s15 s16 s17 wx => ∃ F' G' m' told', Hid (Plain m' C (i + 1) ∧ told'.length ≤ i + 1 ∧ ∀ id ∈ told', 0 ≤ id ∧ id ≤ 9223372036854775807) ∧ Hid (St w wx F' (fun w' => iArena w' w.heap.size F' m') G' (fun w' => Ref w' B G' m') (Blk s7) (Ints s7 told')))
        case first =>
          by_cases q1 : o.kind = 1
          · rw [q1] at m0
            clear q1
            have hal := ref_alloc o.v
            have q3 : nt + 1 ≤ maxLen := by unfold maxLen; omega
            have q4 : (nt + 1) * 8 ≤ 140737488355328 := by omega
            cases ha : m.alloc (.int .i64 0) (.int .i64 o.v) with
            | none => as_aux_lemma =>
              have d1 : ∀ wx, iArena wx w.heap.size F m → Calls Try.prog 11 #[.pointer (some ⟨w.heap.size, 0, none⟩), .int .i64 o.v] wx fun e w' => e = .returned (.tuple #[.int .i64 0, .int .i64 (-4)]) ∧ w' = wx := fun wx h => ialloc_none o.v wx w.heap.size F m h ha
              have d2 : ∀ wx, Ref wx B G m → Calls Try.prog 12 #[.pointer (some ⟨B, 0, none⟩), .int .i64 o.v] wx fun e w' => e = .returned (.int .i64 (-1)) ∧ w' = wx := fun wx h => by
                have := ref_alloc o.v wx B G m h
                rw [ha] at this
                exact this
              clear ha hal
              go_wp2_with (first
                | (go_at_call 11; (with_reducible refine (same (d1 _ (Hid.out S7).n1)).mono ?_); rintro e w' ⟨rfl, rfl⟩)
                | (go_at_call 12; (with_reducible refine (same (d2 _ (Hid.out S7).n2)).mono ?_); rintro e w' ⟨rfl, rfl⟩))
              go_meet
              case rel => exact ⟨F, G, m, told, ⟨hpl.later, by have := hO.out.2.1; omega, hO.out.2.2⟩, S7⟩
            | some qq => as_aux_lemma =>
              obtain ⟨id1, mm⟩ := qq
              have hidb := alloc_fits S7.out.n1.ok rfl ha
              have hidb0 := hidb.1
              have HIB : Hid (0 ≤ id1 ∧ id1 ≤ 9223372036854775807) := hidb
              have HPL : Hid (Plain mm C (i + 1)) := hpl.alloc S7.out.n1.ok ha
              have d1 : ∀ wx, iArena wx w.heap.size F m → Calls Try.prog 11 #[.pointer (some ⟨w.heap.size, 0, none⟩), .int .i64 o.v] wx fun e w' => e = .returned (.tuple #[.int .i64 id1, .int .i64 0]) ∧ ∃ F', iArena w' w.heap.size F' mm ∧ Turn F wx w' ∧ ∀ k, F' k → F k ∨ wx.heap.size ≤ k := fun wx h => ialloc_some o.v wx w.heap.size F m mm id1 h ha
              have d2 : ∀ wx, Ref wx B G m → Calls Try.prog 12 #[.pointer (some ⟨B, 0, none⟩), .int .i64 o.v] wx fun e w' => e = .returned (.int .i64 id1) ∧ ∃ G', Ref w' B G' mm ∧ Turn G wx w' ∧ ∀ k, G' k → G k ∨ wx.heap.size ≤ k := fun wx h => by
                have := ref_alloc o.v wx B G m h
                rw [ha] at this
                exact this
              have q2 : ∀ u ∈ [Value.int .i64 id1], u.oneCell' = true := by
                intro u hu
                simp at hu
                subst hu
                rfl
              clear ha hal hidb
              go_wp2_with (first
                | (go_at_call 11; (with_reducible refine (d1 _ (Hid.out S7).n1).mono ?_); rintro e w2 ⟨rfl, F2, A2, T2, L2⟩; have S8 : Hid (St w w2 F2 (fun w' => iArena w' w.heap.size F2 mm) G (fun w' => Ref w' B G m) (Blk (.slice pu nt cu)) (Ints (.slice pu nt cu) told)) := (Hid.out S7).step1 (iown _ _ _) A2 T2 L2; have v2 : w2.cell? ⟨ob, 3, none⟩ = some (.int .i64 o.v) := T2.cell (v := .int .i64 o.v) m3 (fun hf => Hid.out F1' _ hf rfl); clear A2 T2 L2 m0 m1 m2 m3)
                | (go_at_call 12; (with_reducible refine (d2 _ (Hid.out S8).n2).mono ?_); rintro e w3 ⟨rfl, G3, A3, T3, L3⟩; have S9 : Hid (St w w3 F2 (fun w' => iArena w' w.heap.size F2 mm) G3 (fun w' => Ref w' B G3 mm) (Blk (.slice pu nt cu)) (Ints (.slice pu nt cu) told)) := (Hid.out S8).step2 (own_ref _ _ _) A3 T3 L3; have O9 : w3.ownsRow 0 3 1 (.slice pu nt cu) nt (told.map (Value.int .i64)) := (by have := (Hid.out S9).n3; unfold Ints at this; rw [Hid.out HNT] at this; exact this); clear A3 T3 L3 v2)
                | (at_builtin; refine wpList_append_lies _ rfl (.tmp 117) (.tmp 119) 27 rfl 0 3 ii _ 1 8 iints hi hz0 hz1 hz2 rfl (by decide) (.slice pu nt cu) nt (told.map (Value.int .i64)) rfl (World.ownsRow.alloc O9 _) ⟨w3.heap.size, 0, none⟩ 1 1 [.int .i64 id1] rfl rfl (fun j u hu => World.news_of_block (heap_alloc_new w3 _) j u (by simpa using hu)) q2 (by decide) q3 q4 (Nat.zero_le _) (w3.heap.size + 1) (by simp) ?_; intro g5 cc5 w5 hown hgrow hat hlt5; have S10 : Hid (St w w5 F2 (fun w' => iArena w' w.heap.size F2 mm) G3 (fun w' => Ref w' B G3 mm) (Blk (.slice (some ⟨g5, 0, none⟩) (nt + 1) cc5)) (Ints (.slice (some ⟨g5, 0, none⟩) (nt + 1) cc5) (told ++ [id1]))) := (by obtain ⟨r1, r2, r3⟩ := ints_push (Hid.out HNT) hown hgrow hat; exact (Hid.out S9).step3 (own_ints _ _) r1 r2 r3); clear hown hgrow hat O9))
              go_meet
              case rel => exact ⟨F2, G3, mm, told ++ [id1], ⟨HPL.out, by have := hO.out.2.1; simp; omega, fun x hx => by
                rcases List.mem_append.1 hx with h | h
                · exact hO.out.2.2 x h
                · simp at h; subst h; exact HIB.out⟩, S10⟩
          · by_cases q24 : o.kind = 2 ∨ o.kind = 4
            · clear q1
              cases hf : m.find id with
              | none => as_aux_lemma =>
                have d1 : ∀ wx, iArena wx w.heap.size F m → Calls Try.prog 13 #[.pointer (some ⟨w.heap.size, 0, none⟩), .int .i64 id] wx fun e w' => e = .returned (.int .i64 (-25)) ∧ ∃ n, w' = wx.drewN n := fun wx h => ifree_none wx w.heap.size F m id h hidm hf
                have d2 : ∀ wx, Ref wx B G m → Calls Try.prog 14 #[.pointer (some ⟨B, 0, none⟩), .int .i64 id] wx fun e w' => e = .returned (.bool false) ∧ w' = wx := fun wx h => ref_free_none wx B G m id h hf
                clear hf
                rcases q24 with q | q
                all_goals
                  rw [q] at m0
                  clear q
                  go_wp2_with (first
                    | (go_at_call 13; (with_reducible refine (d1 _ (Hid.out S7).n1).mono ?_); rintro e w' ⟨rfl, nn, rfl⟩)
                    | (go_at_call 14; (with_reducible refine (same (d2 _ ((Hid.out S7).drewN _).n2)).mono ?_); rintro e w' ⟨rfl, rfl⟩))
                  go_meet
                  case rel => exact ⟨F, G, m, told, ⟨hpl.later, by have := hO.out.2.1; omega, hO.out.2.2⟩, S7.out.drewN _⟩
              | some kk => as_aux_lemma =>
                obtain ⟨_, _, sl, hsl, _, _⟩ := Mod.find_some hf
                have hlow : sl.gen < 1073741824 := by have := hpl.gens kk sl hsl; omega
                have HPL : Hid (Plain (m.free (.int .i64 0) kk) C (i + 1)) := (hpl.free hsl).later
                have d1 : ∀ wx, iArena wx w.heap.size F m → Calls Try.prog 13 #[.pointer (some ⟨w.heap.size, 0, none⟩), .int .i64 id] wx fun e w' => e = .returned (.int .i64 0) ∧ ∃ F', iArena w' w.heap.size F' (m.free (.int .i64 0) kk) ∧ Turn F wx w' ∧ ∀ j, F' j → F j ∨ wx.heap.size ≤ j := fun wx h => ifree_some wx w.heap.size F m id kk h hidm hf
                have d2 : ∀ wx, Ref wx B G m → Calls Try.prog 14 #[.pointer (some ⟨B, 0, none⟩), .int .i64 id] wx fun e w' => e = .returned (.bool true) ∧ ∃ G', Ref w' B G' (m.free (.int .i64 0) kk) ∧ Turn G wx w' ∧ ∀ j, G' j → G j ∨ wx.heap.size ≤ j := fun wx h => ref_free_some wx B G m id kk sl h hf hsl hlow
                clear hf hsl hlow
                rcases q24 with q | q
                all_goals
                  rw [q] at m0
                  clear q
                  go_wp2_with (first
                    | (go_at_call 13; (with_reducible refine (d1 _ (Hid.out S7).n1).mono ?_); rintro e w2 ⟨rfl, F2, A2, T2, L2⟩; have S8 : Hid (St w w2 F2 (fun w' => iArena w' w.heap.size F2 (m.free (.int .i64 0) kk)) G (fun w' => Ref w' B G m) (Blk (.slice pu nt cu)) (Ints (.slice pu nt cu) told)) := (Hid.out S7).step1 (iown _ _ _) A2 T2 L2; clear A2 T2 L2)
                    | (go_at_call 14; (with_reducible refine (d2 _ (Hid.out S8).n2).mono ?_); rintro e w3 ⟨rfl, G3, A3, T3, L3⟩; have S9 : Hid (St w w3 F2 (fun w' => iArena w' w.heap.size F2 (m.free (.int .i64 0) kk)) G3 (fun w' => Ref w' B G3 (m.free (.int .i64 0) kk)) (Blk (.slice pu nt cu)) (Ints (.slice pu nt cu) told)) := (Hid.out S8).step2 (own_ref _ _ _) A3 T3 L3; clear A3 T3 L3))
                  go_meet
                  case rel => exact ⟨F2, G3, _, told, ⟨HPL.out, by have := hO.out.2.1; omega, hO.out.2.2⟩, S9⟩
            · by_cases q35 : o.kind = 3 ∨ o.kind = 5
              · clear q1 q24
                cases hf : m.find id with
                | none => as_aux_lemma =>
                  have ht : m.told id = -1 := by unfold Mod.told; rw [hf]
                  have d1 : ∀ wx, iArena wx w.heap.size F m → Calls Try.prog 15 #[.pointer (some ⟨w.heap.size, 0, none⟩), .int .i64 id, .int .i64 o.v] wx fun e w' => e = .returned (.int .i64 (-25)) ∧ ∃ n, w' = wx.drewN n := fun wx h => iset_none o.v wx w.heap.size F m id h hidm hf
                  have d2 : ∀ wx, Ref wx B G m → Calls Try.prog 16 #[.pointer (some ⟨B, 0, none⟩), .int .i64 id] wx fun e w' => e = .returned (.int .i64 (-1)) ∧ w' = wx := fun wx h => by
                    have := ref_find wx B G m id h
                    rw [ht] at this
                    exact this
                  clear hf ht
                  rcases q35 with q | q
                  all_goals
                    rw [q] at m0
                    clear q
                    go_wp2_with (first
                      | (go_at_call 15; (with_reducible refine (d1 _ (Hid.out S7).n1).mono ?_); rintro e w' ⟨rfl, nn, rfl⟩)
                      | (go_at_call 16; (with_reducible refine (same (d2 _ ((Hid.out S7).drewN _).n2)).mono ?_); rintro e w' ⟨rfl, rfl⟩))
                    go_meet
                    case rel => exact ⟨F, G, m, told, ⟨hpl.later, by have := hO.out.2.1; omega, hO.out.2.2⟩, S7.out.drewN _⟩
                | some kk => as_aux_lemma =>
                  obtain ⟨_, _, sl, hsl, hst, _⟩ := Mod.find_some hf
                  have ht : m.told id = kk := by unfold Mod.told; rw [hf]
                  have HPL : Hid (Plain (m.store kk (.int .i64 o.v)) C (i + 1)) := (hpl.store hsl).later
                  have HSL : Hid (m.slots[kk]? = some sl ∧ sl.taken = true) := ⟨hsl, hst⟩
                  obtain ⟨z, hz⟩ : ∃ z, sl.val = .int .i64 z := hpl.ints kk sl hsl
                  have HZ : Hid (sl.val = .int .i64 z) := hz
                  have d1 : ∀ wx, iArena wx w.heap.size F m → Calls Try.prog 15 #[.pointer (some ⟨w.heap.size, 0, none⟩), .int .i64 id, .int .i64 o.v] wx fun e w' => e = .returned (.int .i64 0) ∧ iArena w' w.heap.size F (m.store kk (.int .i64 o.v)) ∧ Turn F wx w' := fun wx h => iset_some o.v wx w.heap.size F m id kk h hidm hf
                  have d2 : ∀ wx, Ref wx B G m → Calls Try.prog 16 #[.pointer (some ⟨B, 0, none⟩), .int .i64 id] wx fun e w' => e = .returned (.int .i64 kk) ∧ w' = wx := fun wx h => by
                    have := ref_find wx B G m id h
                    rw [ht] at this
                    exact this
                  clear hf ht hsl hst hz
                  rcases q35 with q | q
                  all_goals
                    rw [q] at m0
                    clear q
                    go_wp2_with (first
                      | (go_at_call 15; (with_reducible refine (d1 _ (Hid.out S7).n1).mono ?_); rintro e w2 ⟨rfl, A2, T2⟩; have S8 : Hid (St w w2 F (fun w' => iArena w' w.heap.size F (m.store kk (.int .i64 o.v))) G (fun w' => Ref w' B G m) (Blk (.slice pu nt cu)) (Ints (.slice pu nt cu) told)) := (Hid.out S7).step1 (iown _ _ _) A2 T2 (fun _ h => .inl h); have v2 : w2.cell? ⟨ob, 3, none⟩ = some (.int .i64 o.v) := T2.cell (v := .int .i64 o.v) m3 (fun hf => Hid.out F1' _ hf rfl); obtain ⟨gg, gn, gc, r1, r2, r3, r4, r5⟩ := ref_store (Hid.out S8).n2 (Hid.out HSL).1 (Hid.out HSL).2; rw [Hid.out HZ] at r3; have R5 := (show Hid _ from r5); clear r5 A2 T2)
                      | (go_at_call 16; (with_reducible refine (same (d2 _ (Hid.out S8).n2)).mono ?_); rintro e w' ⟨rfl, rfl⟩))
                    go_region
                    all_goals
                      go_wp2_with fail
                      go_meet
                      case rel => exact ⟨F, G, _, told, ⟨HPL.out, by have := hO.out.2.1; omega, hO.out.2.2⟩, (S8.out.step2 (own_ref _ _ _) (R5.out o.v).1 (R5.out o.v).2 (fun _ h => .inl h)).drew⟩
              · have x1 : (o.kind == 1) = false := by simp only [beq_eq_false_iff_ne]; exact q1
                have x2 : (o.kind == 2) = false := by simp only [beq_eq_false_iff_ne]; exact fun h => q24 (.inl h)
                have x4 : (o.kind == 4) = false := by simp only [beq_eq_false_iff_ne]; exact fun h => q24 (.inr h)
                have x3 : (o.kind == 3) = false := by simp only [beq_eq_false_iff_ne]; exact fun h => q35 (.inl h)
                have x5 : (o.kind == 5) = false := by simp only [beq_eq_false_iff_ne]; exact fun h => q35 (.inr h)
                clear q1 q24 q35
                go_wp2_with fail
                go_meet
                case rel => exact ⟨F, G, m, told, ⟨hpl.later, by have := hO.out.2.1; omega, hO.out.2.2⟩, S7⟩
        case rest =>
          obtain ⟨F9, G9, m9, told9, hO9, S9⟩ := hcut
          obtain ⟨cn, hcn⟩ : ∃ cn, m9.count = cn := ⟨_, rfl⟩
          have HL : Hid (m9.ids.length = cn) := (ids_len m9).trans hcn
          have hcap : m9.cap = C := hO9.out.1.cap
          have d5 : ∀ wx, iArena wx w.heap.size F9 m9 → Calls Try.prog 19 #[.pointer (some ⟨w.heap.size, 0, none⟩)] wx fun e w' => e = .returned (.int .i64 cn) ∧ w' = wx := fun wx h => by
            have := icount_any wx w.heap.size F9 m9 h
            rw [hcn] at this
            exact this
          have d6 : ∀ wx, iArena wx w.heap.size F9 m9 → Calls Try.prog 21 #[.pointer (some ⟨w.heap.size, 0, none⟩)] wx fun e w' => e = .returned (.int .i64 C) ∧ w' = wx := fun wx h => by
            have := icap_any wx w.heap.size F9 m9 h
            rw [hcap] at this
            exact this
          have d7 := fun wx (h : iArena wx w.heap.size F9 m9) => iids_any wx w.heap.size F9 m9 h
          have d8 := fun wx (h : Ref wx B G9 m9) => ref_ids wx B G9 m9 h
          have hil : m9.ids.length ≤ 9223372036854775807 := by
            have h1 := idsUpto_len m9.slots m9.slots.length
            have h2 := S9.out.n1.ok.len
            have h3 := S9.out.n1.ok.cap
            unfold Mod.ids
            omega
          have HIL : Hid (m9.ids.length ≤ 9223372036854775807) := hil
          have hfd := fun wx (h : Ref wx B G9 m9) => ref_find wx B G9 m9 id h
          clear hcn hcap hil
          cases hf : m9.find id with
          | none => as_aux_lemma =>
            have ht : m9.told id = -1 := by unfold Mod.told; rw [hf]
            rw [ht] at hfd
            have d1 : ∀ wx, iArena wx w.heap.size F9 m9 → Calls Try.prog 17 #[.pointer (some ⟨w.heap.size, 0, none⟩), .int .i64 id] wx fun e w' => e = .returned (.tuple #[.int .i64 0, .bool false]) ∧ ∃ n, w' = wx.drewN n := fun wx h => iget_none wx w.heap.size F9 m9 id h hidm hf
            have d2 : ∀ wx, iArena wx w.heap.size F9 m9 → Calls Try.prog 18 #[.pointer (some ⟨w.heap.size, 0, none⟩), .int .i64 id] wx fun e w' => e = .returned (.bool false) ∧ ∃ n, w' = wx.drewN n := fun wx h => ihas_none wx w.heap.size F9 m9 id h hidm hf
            clear hf ht
            go_wp2_with (first
              | (go_at_call 16; (with_reducible refine (same (hfd _ (Hid.out S9).n2)).mono ?_); rintro e w' ⟨rfl, rfl⟩)
              | (go_at_call 17; (with_reducible refine (d1 _ (Hid.out S9).n1).mono ?_); rintro e w' ⟨rfl, n1, rfl⟩)
              | (go_at_call 18; (with_reducible refine (d2 _ ((Hid.out S9).drewN _).n1).mono ?_); rintro e w' ⟨rfl, n2, rfl⟩)
              | (go_at_call 19; (with_reducible refine (same (d5 _ ((Hid.out S9).drewN _).n1)).mono ?_); rintro e w' ⟨rfl, rfl⟩)
              | (go_at_call 20; (with_reducible refine (d8 _ (Hid.out S12).n2).mono ?_); rintro e w13 ⟨v13, rfl, I13, T13⟩; have J13 : Hid (Ints v13 m9.ids w13) := I13; have J12 : Hid (Ints v12 m9.ids w13) := (Hid.out I12').past T13; have S13 : Hid (St w w13 F9 (fun w' => iArena w' w.heap.size F9 m9) G9 (fun w' => Ref w' B G9 m9) (Blk u7) (Ints u7 told9)) := (Hid.out S12).past T13; clear I13 T13)
              | (go_at_call 20; (with_reducible refine (d8 _ ((Hid.out S9).drewN _).n2).mono ?_); rintro e w11 ⟨v11, rfl, I11, T11⟩; obtain ⟨p11, c11, hv11⟩ := ints_slice I11; rw [Hid.out HL] at hv11; subst hv11; have S11 : Hid (St w w11 F9 (fun w' => iArena w' w.heap.size F9 m9) G9 (fun w' => Ref w' B G9 m9) (Blk u7) (Ints u7 told9)) := ((Hid.out S9).drewN _).past T11; clear I11 T11)
              | (go_at_call 21; (with_reducible refine (same (d6 _ (Hid.out S11).n1)).mono ?_); rintro e w' ⟨rfl, rfl⟩)
              | (go_at_call 23; (with_reducible refine (d7 _ (Hid.out S11).n1).mono ?_); rintro e w12 ⟨v12, rfl, O12, B12⟩; have S12 : Hid (St w w12 F9 (fun w' => iArena w' w.heap.size F9 m9) G9 (fun w' => Ref w' B G9 m9) (Blk u7) (Ints u7 told9)) := (Hid.out S11).past (turn_of_below B12); have I12' : Hid (Ints v12 m9.ids w12) := own_base O12; clear O12 B12)
              | (go_at_call 22; (with_reducible refine (ints_same _ _ _ _ (Hid.out J12) (Hid.out J13) (Hid.out HIL)).mono ?_); rintro e w' ⟨rfl, n14, rfl⟩))
            go_roundg (len - (i + 1))
            case measure => omega
            case rel => exact ⟨i + 1, by omega, by omega, by go_num, F9, G9, m9, told9, hO9, S13.out.drewN _⟩
          | some kk => as_aux_lemma =>
            have ht : m9.told id = kk := by unfold Mod.told; rw [hf]
            rw [ht] at hfd
            obtain ⟨_, _, sl, hsl, hst, _⟩ := Mod.find_some hf
            obtain ⟨z, hz⟩ : ∃ z, sl.val = .int .i64 z := hO9.out.1.ints kk sl hsl
            obtain ⟨gg, gn, gc, r1, r2, r3, r4, _⟩ := ref_store S9.out.n2 hsl hst
            rw [hz] at r3
            have d1 : ∀ wx, iArena wx w.heap.size F9 m9 → Calls Try.prog 17 #[.pointer (some ⟨w.heap.size, 0, none⟩), .int .i64 id] wx fun e w' => e = .returned (.tuple #[.int .i64 z, .bool true]) ∧ ∃ n, w' = wx.drewN n := fun wx h => iget_some wx w.heap.size F9 m9 id kk sl z h hidm hf hsl hz
            have d2 : ∀ wx, iArena wx w.heap.size F9 m9 → Calls Try.prog 18 #[.pointer (some ⟨w.heap.size, 0, none⟩), .int .i64 id] wx fun e w' => e = .returned (.bool true) ∧ ∃ n, w' = wx.drewN n := fun wx h => ihas_some wx w.heap.size F9 m9 id kk h hidm hf
            clear hf ht hsl hst hz
            go_wp2_with (first
              | (go_at_call 16; (with_reducible refine (same (hfd _ (Hid.out S9).n2)).mono ?_); rintro e w' ⟨rfl, rfl⟩)
              | (go_at_call 17; (with_reducible refine (d1 _ (Hid.out S9).n1).mono ?_); rintro e w' ⟨rfl, n1, rfl⟩)
              | (go_at_call 18; (with_reducible refine (d2 _ ((Hid.out S9).drewN _).n1).mono ?_); rintro e w' ⟨rfl, n2, rfl⟩)
              | (go_at_call 19; (with_reducible refine (same (d5 _ ((Hid.out S9).drewN _).n1)).mono ?_); rintro e w' ⟨rfl, rfl⟩)
              | (go_at_call 20; (with_reducible refine (d8 _ (Hid.out S12).n2).mono ?_); rintro e w13 ⟨v13, rfl, I13, T13⟩; have J13 : Hid (Ints v13 m9.ids w13) := I13; have J12 : Hid (Ints v12 m9.ids w13) := (Hid.out I12').past T13; have S13 : Hid (St w w13 F9 (fun w' => iArena w' w.heap.size F9 m9) G9 (fun w' => Ref w' B G9 m9) (Blk u7) (Ints u7 told9)) := (Hid.out S12).past T13; clear I13 T13)
              | (go_at_call 20; (with_reducible refine (d8 _ ((Hid.out S9).drewN _).n2).mono ?_); rintro e w11 ⟨v11, rfl, I11, T11⟩; obtain ⟨p11, c11, hv11⟩ := ints_slice I11; rw [Hid.out HL] at hv11; subst hv11; have S11 : Hid (St w w11 F9 (fun w' => iArena w' w.heap.size F9 m9) G9 (fun w' => Ref w' B G9 m9) (Blk u7) (Ints u7 told9)) := ((Hid.out S9).drewN _).past T11; clear I11 T11)
              | (go_at_call 21; (with_reducible refine (same (d6 _ (Hid.out S11).n1)).mono ?_); rintro e w' ⟨rfl, rfl⟩)
              | (go_at_call 23; (with_reducible refine (d7 _ (Hid.out S11).n1).mono ?_); rintro e w12 ⟨v12, rfl, O12, B12⟩; have S12 : Hid (St w w12 F9 (fun w' => iArena w' w.heap.size F9 m9) G9 (fun w' => Ref w' B G9 m9) (Blk u7) (Ints u7 told9)) := (Hid.out S11).past (turn_of_below B12); have I12' : Hid (Ints v12 m9.ids w12) := own_base O12; clear O12 B12)
              | (go_at_call 22; (with_reducible refine (ints_same _ _ _ _ (Hid.out J12) (Hid.out J13) (Hid.out HIL)).mono ?_); rintro e w' ⟨rfl, n14, rfl⟩))
            go_roundg (len - (i + 1))
            case measure => omega
            case rel => exact ⟨i + 1, by omega, by omega, by go_num, F9, G9, m9, told9, hO9, S13.out.drewN _⟩
    · obtain rfl : i = len := by omega
      go_wp2_with (go_at_call 10; (with_reducible refine (c2 _).mono ?_); rintro e w9 ⟨rfl, T9⟩; have T9' : Hid (Turn NoBlock _ w9) := T9; clear T9)
      go_ret
      exact ⟨rfl, S5.out.turn.trans T9'.out (fun k h => .inl h)⟩

end Go.Proofs.Ytfpmbbplgdkogaa
