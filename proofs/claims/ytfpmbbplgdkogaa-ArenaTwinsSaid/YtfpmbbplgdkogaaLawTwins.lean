/-
  The statement ArenaTwins answers true at all numbers and all slices of calls.
-/
import Derived.Test.YtfpmbbplgdkogaaAwake
import Derived.Test.YtfpmbbplgdkogaaThings
import Derived.Test.YtfpmbbplgdkogaaOwnArena
import Derived.Test.YtfpmbbplgdkogaaSOwnArena
import Derived.Test.YtfpmbbplgdkogaaSFree
import Derived.Test.YtfpmbbplgdkogaaIDs
import Derived.Test.YtfpmbbplgdkogaaSIDs
import Derived.Test.YtfpmbbplgdkogaaTwinModel
import Derived.Test.YtfpmbbplgdkogaaOpArg
import Derived.Test.YtfpmbbplgdkogaaIntsEq
import Derived.Deep.LoopGhost
import Derived.Deep.RegionHeld3
import Derived.BigQuiet
namespace Go.Proofs.Ytfpmbbplgdkogaa
open Go.ChangeShapes Go.WideShapes Go.ChangeAt Go.RowKit

theorem twins_none (c : Int) (p : Option Addr) (len cap : Nat) (w : World) (h : c < 0 ∨ 65536 < c) :
    Calls Try.prog 6 #[.int .i64 c, .slice p len cap] w fun e w' => e = .returned (.bool true) ∧ Turn NoBlock w w' := by
  have c1 := fun w => inew_no c w h
  have c3 := fun w => snew_no c w h
  have c2 := awake_any
  rcases h with h | h
  all_goals
    go_enter Try.func6, Try.ntmps6
    go_wp2_with (first | (go_at_call 9; (with_reducible refine (same (c1 _)).mono ?_); rintro e w1 ⟨rfl, rfl⟩) | (go_at_call 26; (with_reducible refine (same (c3 _)).mono ?_); rintro e w1 ⟨rfl, rfl⟩) | (go_at_call 10; (with_reducible refine (c2 _).mono ?_); rintro e w2 ⟨rfl, T2⟩; have T2' : Hid (Turn NoBlock _ w2) := T2; clear T2))
    go_ret
    exact ⟨rfl, T2'.out⟩

theorem twins_past (C : Nat) (p : Option Addr) (len cap : Nat) (w : World) (hC : C ≤ 65536) (h : (200 : Int) < len) :
    Calls Try.prog 6 #[.int .i64 C, .slice p len cap] w fun e w' => e = .returned (.bool true) ∧ Turn NoBlock w w' := by
  have c1 := fun w => inew_yes C w hC
  have c3 := fun w => snew_yes C w hC
  have c2 := awake_any
  go_enter Try.func6, Try.ntmps6
  go_wp2_with (first | (go_at_call 9; (with_reducible refine (c1 _).mono ?_); rintro e w1 ⟨rfl, F1, A1, T1, L1⟩; have T1' : Hid (Turn NoBlock _ w1) := T1; clear A1 L1 T1) | (go_at_call 26; (with_reducible refine (c3 _).mono ?_); rintro e w3 ⟨rfl, F3, A3, T3, L3⟩; have T3' : Hid (Turn NoBlock _ w3) := T3; clear A3 L3 T3) | (go_at_call 10; (with_reducible refine (c2 _).mono ?_); rintro e w2 ⟨rfl, T2⟩; have T2' : Hid (Turn NoBlock _ w2) := T2; clear T2))
  go_ret
  exact ⟨rfl, (T1'.out.trans T3'.out (fun k h => .inl h)).trans T2'.out (fun k h => .inl h)⟩

set_option maxHeartbeats 1000000 in
set_option maxRecDepth 20000 in
theorem twins_walk (os : Nat → OpV) (C : Nat) (p : Option Addr) (len cap : Nat) (w : World) (hC : C ≤ 65536) (h200 : len ≤ 200) (hp : OpsAt w p len os) :
    Calls Try.prog 6 #[.int .i64 C, .slice p len cap] w fun e w' => e = .returned (.bool true) ∧ Turn NoBlock w w' := by
  obtain ⟨ii, hi, hz0, hz1, hz2⟩ := info_parts iinfo3
  have c1 := fun w => inew_yes C w hC
  have c3 := fun w => snew_yes C w hC
  have c2 := awake_any
  have HP : Hid (OpsAt w p len os) := hp
  clear hp
  go_enter Try.func6, Try.ntmps6
  go_wp2_with (first
    | (go_at_call 9; (with_reducible refine (c1 _).mono ?_); rintro e w1 ⟨rfl, F1, A1, T1, L1⟩; have S1 : Hid (St w w1 F1 (fun w' => iArena w' w.heap.size F1 ⟨C, [], []⟩) NoBlock Nothing NoBlock Nothing) := (St.begin w).step1 (iown _ _ _) A1 (T1.mono (fun _ h => .inl h)) (fun k hk => .inr (L1 k hk)); clear A1 T1 L1)
    | (go_at_call 26; (with_reducible refine (c3 _).mono ?_); rintro e w2 ⟨rfl, F2, A2, T2, L2⟩; have S2 : Hid (St w w2 F1 (fun w' => iArena w' w.heap.size F1 ⟨C, [], []⟩) F2 (fun w' => sArena w' w1.heap.size F2 (Mod.tw ⟨C, [], []⟩)) (Blk (.slice none 0 0)) (Ints (.slice none 0 0) [])) := ((Hid.out S1).step2 (sown _ _ _) A2 (T2.mono (fun _ h => .inl h)) (fun k hk => .inr (L2 k hk))).step3 (own_ints _ _) (ints_nil _) (Turn.refl _ _) (fun k hk => (blk_nil k hk).elim); clear A2 T2 L2))
  obtain ⟨B, hB⟩ : ∃ B, w1.heap.size = B := ⟨_, rfl⟩
  rw [hB] at S2 ⊢
  clear hB S1
  go_loopg [7, 43] len (fun g u c wr => ∃ i : Nat, i ≤ len ∧ g = len - i ∧ c = .int .i64 i ∧ ∃ F G m told, Hid (told.length ≤ i ∧ ∀ id ∈ told, 0 ≤ id ∧ id ≤ 9223372036854775807) ∧ Hid (St w wr F (fun w' => iArena w' w.heap.size F m) G (fun w' => sArena w' B G m.tw) (Blk u) (Ints u told)))
  case atStart => exact ⟨0, by omega, by omega, rfl, F1, F2, _, [], ⟨by simp, by simp⟩, S2⟩
  case round =>
    obtain ⟨i, hi', hgk, rfl, F, G, m, told, hO, S3⟩ := hrel
    by_cases hlt : i < len
    · obtain ⟨b, off, rfl, hc⟩ := HP.out (by omega)
      obtain ⟨k0, k1, k2, k3⟩ := hc i hlt
      have k0 := S3.out.cell k0
      have k1 := S3.out.cell k1
      have k2 := S3.out.cell k2
      have k3 := S3.out.cell k3
      obtain ⟨o, ho⟩ : ∃ o, os i = o := ⟨_, rfl⟩
      rw [ho] at k0 k1 k2 k3
      have HC := (show Hid _ from hc)
      clear hc ho
      have hll := hO.out.1
      have htr : i < 200 := by omega
      obtain ⟨pu, cu, hu⟩ := ints_slice S3.out.n3
      subst hu
      obtain ⟨nt, hnt⟩ : ∃ nt, told.length = nt := ⟨_, rfl⟩
      have HNT : Hid (told.length = nt) := hnt
      rw [hnt] at hll S3 ⊢
      have hsh : Hid (0 < nt → ∃ g, pu = some ⟨g, 0, none⟩ ∧ nt ≤ cu ∧ cu ≤ 9223372036854775807) := fun h0 => by
        obtain ⟨g, c, he, h1, h2⟩ := ints_shape S3.out.n3 (by rw [hnt]; exact h0)
        rw [hnt] at he h1
        simp at he
        exact ⟨g, he.1, he.2 ▸ h1, he.2 ▸ h2⟩
      clear hnt
      by_cases hkind : o.kind = 1
      · rw [hkind] at k0
        clear hkind
        have htw := tw_alloc m (.int .i64 0) (.int .i64 o.v)
        have q3 : nt + 1 ≤ maxLen := by unfold maxLen; omega
        have q4 : (nt + 1) * 8 ≤ 140737488355328 := by omega
        cases ha : m.alloc (.int .i64 0) (.int .i64 o.v) with
        | none =>
          rw [ha] at htw
          have d1 : ∀ wx, iArena wx w.heap.size F m → Calls Try.prog 11 #[.pointer (some ⟨w.heap.size, 0, none⟩), .int .i64 o.v] wx fun e w' => e = .returned (.tuple #[.int .i64 0, .int .i64 (-4)]) ∧ w' = wx := fun wx h => ialloc_none o.v wx w.heap.size F m h ha
          have d2 : ∀ wx, sArena wx B G m.tw → Calls Try.prog 27 #[.pointer (some ⟨B, 0, none⟩), .string { data := #[120] }] wx fun e w' => e = .returned (.tuple #[.int .i64 0, .int .i64 (-4)]) ∧ w' = wx := fun wx h => salloc_none _ wx B G m.tw h htw
          have q2 : ∀ u ∈ [Value.int .i64 0], u.oneCell' = true := by
            intro u hu
            simp at hu
            subst hu
            rfl
          clear ha htw
          go_wp2_with (first
            | (go_at_call 11; (with_reducible refine (d1 _ ((Hid.out S3).alloc _).n1).mono ?_); rintro e w2 ⟨rfl, hw2⟩; have S4 : Hid (St w w2 F (fun w' => iArena w' w.heap.size F m) G (fun w' => sArena w' B G m.tw) (Blk (.slice pu nt cu)) (Ints (.slice pu nt cu) told)) := (by rw [hw2]; exact (Hid.out S3).alloc _); have O4 : w2.ownsRow 0 3 1 (.slice pu nt cu) nt (told.map (Value.int .i64)) := (by have := (Hid.out S4).n3; unfold Ints at this; rw [Hid.out HNT] at this; exact this); clear hw2 k0 k1 k2 k3)
            | (go_at_call 27; (with_reducible refine (same (d2 _ (Hid.out S4).n2)).mono ?_); rintro e w' ⟨rfl, rfl⟩)
            | (at_builtin; refine wpList_append_lies _ rfl (.tmp 70) (.tmp 72) 27 rfl 0 3 ii _ 1 8 iints hi hz0 hz1 hz2 rfl (by decide) (.slice pu nt cu) nt (told.map (Value.int .i64)) rfl (World.ownsRow.alloc O4 _) ⟨w2.heap.size, 0, none⟩ 1 1 [.int .i64 0] rfl rfl (fun j u hu => World.news_of_block (heap_alloc_new w2 _) j u (by simpa using hu)) q2 (by decide) q3 q4 (Nat.zero_le _) (w2.heap.size + 1) (by simp) ?_; intro g5 cc5 w5 hown hgrow hat hlt5; have S5 : Hid (St w w5 F (fun w' => iArena w' w.heap.size F m) G (fun w' => sArena w' B G m.tw) (Blk (.slice (some ⟨g5, 0, none⟩) (nt + 1) cc5)) (Ints (.slice (some ⟨g5, 0, none⟩) (nt + 1) cc5) (told ++ [0]))) := (by obtain ⟨r1, r2, r3⟩ := ints_push (Hid.out HNT) hown hgrow hat; exact (Hid.out S4).step3 (own_ints _ _) r1 r2 r3); clear hown hgrow hat O4))
          go_roundg (len - (i + 1))
          case measure => omega
          case rel => exact ⟨i + 1, by omega, by omega, by go_num, F, G, m, told ++ [0], ⟨by have := hO.out.1; simp; omega, fun id hid => by
            rcases List.mem_append.1 hid with h | h
            · exact hO.out.2 id h
            · simp at h; subst h; exact ⟨by omega, by omega⟩⟩, S5⟩
        | some q =>
          obtain ⟨id, m'⟩ := q
          rw [ha] at htw
          have hidb := alloc_fits S3.out.n1.ok rfl ha
          have HIB : Hid (0 ≤ id ∧ id ≤ 9223372036854775807) := hidb
          have d1 : ∀ wx, iArena wx w.heap.size F m → Calls Try.prog 11 #[.pointer (some ⟨w.heap.size, 0, none⟩), .int .i64 o.v] wx fun e w' => e = .returned (.tuple #[.int .i64 id, .int .i64 0]) ∧ ∃ F', iArena w' w.heap.size F' m' ∧ Turn F wx w' ∧ ∀ k, F' k → F k ∨ wx.heap.size ≤ k := fun wx h => ialloc_some o.v wx w.heap.size F m m' id h ha
          have d2 : ∀ wx, sArena wx B G m.tw → Calls Try.prog 27 #[.pointer (some ⟨B, 0, none⟩), .string { data := #[120] }] wx fun e w' => e = .returned (.tuple #[.int .i64 id, .int .i64 0]) ∧ ∃ G', sArena w' B G' m'.tw ∧ Turn G wx w' ∧ ∀ k, G' k → G k ∨ wx.heap.size ≤ k := fun wx h => salloc_some _ wx B G m.tw m'.tw id h htw
          have q2 : ∀ u ∈ [Value.int .i64 id], u.oneCell' = true := by
            intro u hu
            simp at hu
            subst hu
            rfl
          clear ha htw hidb
          go_wp2_with (first
            | (go_at_call 11; (with_reducible refine (d1 _ ((Hid.out S3).alloc _).n1).mono ?_); rintro e w2 ⟨rfl, F2, A2, T2, L2⟩; have S4 : Hid (St w w2 F2 (fun w' => iArena w' w.heap.size F2 m') G (fun w' => sArena w' B G m.tw) (Blk (.slice pu nt cu)) (Ints (.slice pu nt cu) told)) := ((Hid.out S3).alloc _).step1 (iown _ _ _) A2 T2 L2; clear A2 T2 L2 k0 k1 k2 k3)
            | (go_at_call 27; (with_reducible refine (d2 _ (Hid.out S4).n2).mono ?_); rintro e w3 ⟨rfl, G3, A3, T3, L3⟩; have S5 : Hid (St w w3 F2 (fun w' => iArena w' w.heap.size F2 m') G3 (fun w' => sArena w' B G3 m'.tw) (Blk (.slice pu nt cu)) (Ints (.slice pu nt cu) told)) := (Hid.out S4).step2 (sown _ _ _) A3 T3 L3; have O5 : w3.ownsRow 0 3 1 (.slice pu nt cu) nt (told.map (Value.int .i64)) := (by have := (Hid.out S5).n3; unfold Ints at this; rw [Hid.out HNT] at this; exact this); clear A3 T3 L3)
            | (at_builtin; refine wpList_append_lies _ rfl (.tmp 70) (.tmp 72) 27 rfl 0 3 ii _ 1 8 iints hi hz0 hz1 hz2 rfl (by decide) (.slice pu nt cu) nt (told.map (Value.int .i64)) rfl (World.ownsRow.alloc O5 _) ⟨w3.heap.size, 0, none⟩ 1 1 [.int .i64 id] rfl rfl (fun j u hu => World.news_of_block (heap_alloc_new w3 _) j u (by simpa using hu)) q2 (by decide) q3 q4 (Nat.zero_le _) (w3.heap.size + 1) (by simp) ?_; intro g5 cc5 w5 hown hgrow hat hlt5; have S6 : Hid (St w w5 F2 (fun w' => iArena w' w.heap.size F2 m') G3 (fun w' => sArena w' B G3 m'.tw) (Blk (.slice (some ⟨g5, 0, none⟩) (nt + 1) cc5)) (Ints (.slice (some ⟨g5, 0, none⟩) (nt + 1) cc5) (told ++ [id]))) := (by obtain ⟨r1, r2, r3⟩ := ints_push (Hid.out HNT) hown hgrow hat; exact (Hid.out S5).step3 (own_ints _ _) r1 r2 r3); clear hown hgrow hat O5))
          go_roundg (len - (i + 1))
          case measure => omega
          case rel => exact ⟨i + 1, by omega, by omega, by go_num, F2, G3, m', told ++ [id], ⟨by have := hO.out.1; simp; omega, fun x hx => by
            rcases List.mem_append.1 hx with h | h
            · exact hO.out.2 x h
            · simp at h; subst h; exact HIB.out⟩, S6⟩
      · have hkb : (o.kind == 1) = false := by simp only [beq_eq_false_iff_ne]; exact hkind
        clear hkind
        by_cases hin : 0 ≤ o.n ∧ o.n < nt
        · obtain ⟨k, hk⟩ : ∃ k : Nat, o.n = k := ⟨o.n.toNat, by omega⟩
          rw [hk] at k2
          have hkn : k < nt := by omega
          obtain ⟨g, rfl, h1, h2⟩ := hsh.out (by omega)
          have S4 : Hid (St w (wr.alloc (.cells #[.int .i64 o.kind, .int .i64 o.id, .int .i64 k, .int .i64 o.v] 32)) F (fun w' => iArena w' w.heap.size F m) G (fun w' => sArena w' B G m.tw) (Blk (.slice (some ⟨g, 0, none⟩) nt cu)) (Ints (.slice (some ⟨g, 0, none⟩) nt cu) told)) := S3.out.alloc _
          have c3 := ints_cell S4.out.n3 k (by rw [HNT.out]; exact hkn)
          have hk2 : k < told.length := by rw [HNT.out]; exact hkn
          have hm : told.getD k 0 ∈ told := by
            simp only [List.getD, List.getElem?_eq_getElem hk2, Option.getD_some]
            exact List.getElem_mem hk2
          obtain ⟨id, hid⟩ : ∃ id, told.getD k 0 = id := ⟨_, rfl⟩
          have HID : Hid (told.getD k 0 = id) := hid
          rw [hid] at c3 hm
          have hidb := hO.out.2 id hm
          have hidm : id ≤ 9223372036854775807 := hidb.2
          have hki : (k : Int) < (nt : Int) := by omega
          clear hin hk hid hm hidb hk2
          cases hf : m.find id with
          | none =>
            have d3 : ∀ wx, iArena wx w.heap.size F m → Calls Try.prog 13 #[.pointer (some ⟨w.heap.size, 0, none⟩), .int .i64 id] wx fun e w' => e = .returned (.int .i64 (-25)) ∧ ∃ n, w' = wx.drewN n := fun wx h => ifree_none wx w.heap.size F m id h hidm hf
            have d4 : ∀ wx, sArena wx B G m.tw → Calls Try.prog 28 #[.pointer (some ⟨B, 0, none⟩), .int .i64 id] wx fun e w' => e = .returned (.int .i64 (-25)) ∧ ∃ n, w' = wx.drewN n := fun wx h => sfree_none wx B G m.tw id h hidm (by rw [tw_find]; exact hf)
            clear hf
            go_wp2_with fail
            go_quiet (first
              | (go_at_call 13; refine Calls.quiet_of (d3 _ ?_); exact ((Hid.out S4).drewN _).n1)
              | (go_at_call 28; refine Calls.quiet_of (d4 _ ?_); exact ((Hid.out S4).drewN _).n2))
            go_wp2_with fail
            go_roundg (len - (i + 1))
            case measure => omega
            case rel => exact ⟨i + 1, by omega, by omega, by go_num, F, G, m, told, ⟨by have := hO.out.1; omega, hO.out.2⟩, S4.out.drewN _⟩
          | some kk =>
            have d3 : ∀ wx, iArena wx w.heap.size F m → Calls Try.prog 13 #[.pointer (some ⟨w.heap.size, 0, none⟩), .int .i64 id] wx fun e w' => e = .returned (.int .i64 0) ∧ ∃ F', iArena w' w.heap.size F' (m.free (.int .i64 0) kk) ∧ Turn F wx w' ∧ ∀ j, F' j → F j ∨ wx.heap.size ≤ j := fun wx h => ifree_some wx w.heap.size F m id kk h hidm hf
            have d4 : ∀ wx, sArena wx B G m.tw → Calls Try.prog 28 #[.pointer (some ⟨B, 0, none⟩), .int .i64 id] wx fun e w' => e = .returned (.int .i64 0) ∧ ∃ G', sArena w' B G' (m.free (.int .i64 0) kk).tw ∧ Turn G wx w' ∧ ∀ j, G' j → G j ∨ wx.heap.size ≤ j := fun wx h => by
              have := sfree_some wx B G m.tw id kk h hidm (by rw [tw_find]; exact hf)
              rw [show m.tw.free (.string { data := #[] }) kk = (m.free (.int .i64 0) kk).tw from tw_free m kk _] at this
              exact this
            clear hf
            go_wp2_with fail
            obtain ⟨W, hW⟩ : ∃ W, wr.alloc (.cells #[.int .i64 o.kind, .int .i64 o.id, .int .i64 k, .int .i64 o.v] 32) = W := ⟨_, rfl⟩
            have v4 : (wr.alloc (.cells #[.int .i64 o.kind, .int .i64 o.id, .int .i64 k, .int .i64 o.v] 32)).cell? ⟨wr.heap.size, 2, none⟩ = some (.int .i64 (k : Int)) := by simp
            rw [hW] at S4 c3 v4 ⊢
            obtain ⟨ob, hob⟩ : ∃ ob, wr.heap.size = ob := ⟨_, rfl⟩
            have F1 : Hid (∀ k, F k → k ≠ ob) := fun k hk => by have := S3.out.o1.lt _ S3.out.n1 _ hk; omega
            have F2 : Hid (∀ k, G k → k ≠ ob) := fun k hk => by have := S3.out.o2.lt _ S3.out.n2 _ hk; omega
            rw [hob] at v4 ⊢
            clear hW hob k0 k1 k2 k3
            go_region_held3 (fun W' => W'.cell? ⟨ob, 2, none⟩ = some (.int .i64 (k : Int)) ∧ W'.cell? ⟨g, k, none⟩ = some (.int .i64 id)) (first | (exact ⟨v4, c3⟩) | (exact ⟨v7, c7⟩) | (exact ⟨v8, c8⟩))
              (first
              | (go_at_call 13; (with_reducible refine (d3 _ ((Hid.out S4).drew).n1).mono ?_); rintro e w7 ⟨rfl, F7, A7, T7, L7⟩; have S7 : Hid (St w w7 F7 (fun w' => iArena w' w.heap.size F7 (m.free (.int .i64 0) kk)) G (fun w' => sArena w' B G m.tw) (Blk (.slice (some ⟨g, 0, none⟩) nt cu)) (Ints (.slice (some ⟨g, 0, none⟩) nt cu) told)) := ((Hid.out S4).drew).step1 (iown _ _ _) A7 T7 L7; have v7 : w7.cell? ⟨ob, 2, none⟩ = some (.int .i64 (k : Int)) := T7.cell (v := .int .i64 (k : Int)) v4 (fun hf => Hid.out F1 _ hf rfl); have c7 := ints_cell (Hid.out S7).n3 k (by rw [Hid.out HNT]; exact hkn); rw [Hid.out HID] at c7; clear A7 T7 L7)
              | (go_at_call 28; (with_reducible refine (d4 _ (Hid.out S7).n2).mono ?_); rintro e w8 ⟨rfl, G8, A8, T8, L8⟩; have S8 : Hid (St w w8 F7 (fun w' => iArena w' w.heap.size F7 (m.free (.int .i64 0) kk)) G8 (fun w' => sArena w' B G8 (m.free (.int .i64 0) kk).tw) (Blk (.slice (some ⟨g, 0, none⟩) nt cu)) (Ints (.slice (some ⟨g, 0, none⟩) nt cu) told)) := (Hid.out S7).step2 (sown _ _ _) A8 T8 L8; have v8 : w8.cell? ⟨ob, 2, none⟩ = some (.int .i64 (k : Int)) := T8.cell (v := .int .i64 (k : Int)) v7 (fun hf => Hid.out F2 _ hf rfl); have c8 := ints_cell (Hid.out S8).n3 k (by rw [Hid.out HNT]; exact hkn); rw [Hid.out HID] at c8; clear A8 T8 L8))
            go_wp2_with fail
            go_roundg (len - (i + 1))
            case measure => omega
            case rel => exact ⟨i + 1, by omega, by omega, by go_num, F7, G8, _, told, ⟨by have := hO.out.1; omega, hO.out.2⟩, S8⟩
        · rcases (show o.n < 0 ∨ (0 ≤ o.n ∧ (nt : Int) ≤ o.n) from by omega) with h8 | ⟨h8, h9⟩
          · have hd : decide (0 ≤ o.n) = false := by simp only [decide_eq_false_iff_not]; omega
            clear hin
            go_wp2_with fail
            go_quiet (fail)
            go_wp2_with fail
            go_roundg (len - (i + 1))
            case measure => omega
            case rel => exact ⟨i + 1, by omega, by omega, by go_num, F, G, m, told, ⟨by have := hO.out.1; omega, hO.out.2⟩, (S3.out.alloc (.cells #[.int .i64 o.kind, .int .i64 o.id, .int .i64 o.n, .int .i64 o.v] 32)).drewN _⟩
          · have hd : decide (o.n < (nt : Int)) = false := by simp only [decide_eq_false_iff_not]; omega
            clear hin
            go_wp2_with fail
            go_quiet (fail)
            go_wp2_with fail
            go_roundg (len - (i + 1))
            case measure => omega
            case rel => exact ⟨i + 1, by omega, by omega, by go_num, F, G, m, told, ⟨by have := hO.out.1; omega, hO.out.2⟩, (S3.out.alloc (.cells #[.int .i64 o.kind, .int .i64 o.id, .int .i64 o.n, .int .i64 o.v] 32)).drewN _⟩
    · obtain rfl : i = len := by omega
      obtain ⟨pu, cu, hu⟩ := ints_slice S3.out.n3
      subst hu
      obtain ⟨nt, hnt⟩ : ∃ nt, told.length = nt := ⟨_, rfl⟩
      have HNT : Hid (told.length = nt) := hnt
      have hntl : nt ≤ i := by have := hO.out.1; omega
      rw [hnt] at S3 ⊢
      have hsh : Hid (0 < nt → ∃ g, pu = some ⟨g, 0, none⟩ ∧ nt ≤ cu ∧ cu ≤ 9223372036854775807) := fun h0 => by
        obtain ⟨g, c, he, h1, h2⟩ := ints_shape S3.out.n3 (by rw [hnt]; exact h0)
        rw [hnt] at he h1
        simp at he
        exact ⟨g, he.1, he.2 ▸ h1, he.2 ▸ h2⟩
      clear hnt
      go_wp2_with fail
      go_loopg [104] nt (fun g c wx => ∃ j : Nat, j ≤ nt ∧ g = nt - j ∧ c = .int .i64 j ∧ Hid (St w wx F (fun w' => iArena w' w.heap.size F m) G (fun w' => sArena w' B G m.tw) (Blk (.slice pu nt cu)) (Ints (.slice pu nt cu) told)))
      case atStart => exact ⟨0, by omega, by omega, rfl, S3⟩
      case round =>
        obtain ⟨j, hj', hgk2, rfl, S4⟩ := hrel
        by_cases hlt2 : j < nt
        · obtain ⟨g, rfl, h1, h2⟩ := hsh.out (by omega)
          have c3 := ints_cell S4.out.n3 j (by rw [HNT.out]; exact hlt2)
          have hk2 : j < told.length := by rw [HNT.out]; exact hlt2
          have hm : told.getD j 0 ∈ told := by
            simp only [List.getD, List.getElem?_eq_getElem hk2, Option.getD_some]
            exact List.getElem_mem hk2
          obtain ⟨id, hid⟩ : ∃ id, told.getD j 0 = id := ⟨_, rfl⟩
          rw [hid] at c3 hm
          have hidm : id ≤ 9223372036854775807 := (hO.out.2 id hm).2
          clear hid hm hk2
          cases hf : m.find id with
          | none =>
            have d5 : ∀ wx, sArena wx B G m.tw → Calls Try.prog 29 #[.pointer (some ⟨B, 0, none⟩), .int .i64 id] wx fun e w' => e = .returned (.tuple #[.string { data := #[] }, .bool false]) ∧ ∃ n, w' = wx.drewN n := fun wx h => sget_none wx B G m.tw id h hidm (by rw [tw_find]; exact hf)
            have d6 : ∀ wx, iArena wx w.heap.size F m → Calls Try.prog 18 #[.pointer (some ⟨w.heap.size, 0, none⟩), .int .i64 id] wx fun e w' => e = .returned (.bool false) ∧ ∃ n, w' = wx.drewN n := fun wx h => ihas_none wx w.heap.size F m id h hidm hf
            clear hf
            go_wp2_with (first
              | (go_at_call 29; (with_reducible refine (d5 _ (Hid.out S4).n2).mono ?_); rintro e w7 ⟨rfl, nn, rfl⟩)
              | (go_at_call 18; (with_reducible refine (d6 _ ((Hid.out S4).drewN _).n1).mono ?_); rintro e w8 ⟨rfl, n2, rfl⟩))
            go_roundg (nt - (j + 1))
            case measure => omega
            case rel => exact ⟨j + 1, by omega, by omega, by go_num, S4.out.drewN _⟩
          | some kk =>
            obtain ⟨sl, hs1, hs2⟩ := tw_val hf
            have d5 : ∀ wx, sArena wx B G m.tw → Calls Try.prog 29 #[.pointer (some ⟨B, 0, none⟩), .int .i64 id] wx fun e w' => e = .returned (.tuple #[.string { data := #[120] }, .bool true]) ∧ ∃ n, w' = wx.drewN n := fun wx h => sget_some wx B G m.tw id kk sl _ h hidm (by rw [tw_find]; exact hf) hs1 hs2
            have d6 : ∀ wx, iArena wx w.heap.size F m → Calls Try.prog 18 #[.pointer (some ⟨w.heap.size, 0, none⟩), .int .i64 id] wx fun e w' => e = .returned (.bool true) ∧ ∃ n, w' = wx.drewN n := fun wx h => ihas_some wx w.heap.size F m id kk h hidm hf
            clear hf hs1 hs2
            go_wp2_with (first
              | (go_at_call 29; (with_reducible refine (d5 _ (Hid.out S4).n2).mono ?_); rintro e w7 ⟨rfl, nn, rfl⟩)
              | (go_at_call 18; (with_reducible refine (d6 _ ((Hid.out S4).drewN _).n1).mono ?_); rintro e w8 ⟨rfl, n2, rfl⟩))
            go_roundg (nt - (j + 1))
            case measure => omega
            case rel => exact ⟨j + 1, by omega, by omega, by go_num, S4.out.drewN _⟩
        · obtain rfl : j = nt := by omega
          have d7 := fun wx (h : iArena wx w.heap.size F m) => iids_any wx w.heap.size F m h
          have d8 := fun wx (h : sArena wx B G m.tw) => sids_any wx B G m.tw h
          rw [tw_ids] at d8
          have hil : m.ids.length ≤ 9223372036854775807 := by
            have h1 := idsUpto_len m.slots m.slots.length
            have h2 := S4.out.n1.ok.len
            have h3 := S4.out.n1.ok.cap
            unfold Mod.ids
            omega
          have HIL : Hid (m.ids.length ≤ 9223372036854775807) := hil
          clear hil
          go_wp2_with (first
            | (go_at_call 23; (with_reducible refine (d7 _ (Hid.out S4).n1).mono ?_); rintro e w7 ⟨v7, rfl, O7, B7⟩; have S7 : Hid (St w w7 F (fun w' => iArena w' w.heap.size F m) G (fun w' => sArena w' B G m.tw) (Blk (.slice pu j cu)) (Ints (.slice pu j cu) told)) := (Hid.out S4).past (turn_of_below B7); have I7 : Hid (Ints v7 m.ids w7) := own_base O7; clear O7 B7)
            | (go_at_call 30; (with_reducible refine (d8 _ (Hid.out S7).n2).mono ?_); rintro e w8 ⟨v8, rfl, O8, B8⟩; have S8 : Hid (St w w8 F (fun w' => iArena w' w.heap.size F m) G (fun w' => sArena w' B G m.tw) (Blk (.slice pu j cu)) (Ints (.slice pu j cu) told)) := (Hid.out S7).past (turn_of_below B8); have I8 : Hid (Ints v8 m.ids w8) := own_base O8; have I9 : Hid (Ints v7 m.ids w8) := (Hid.out I7).past (turn_of_below B8); clear O8 B8)
            | (go_at_call 22; (with_reducible refine (ints_same _ _ _ _ (Hid.out I9) (Hid.out I8) (Hid.out HIL)).mono ?_); rintro e w9 ⟨rfl, n9, rfl⟩)
            | (go_at_call 10; (with_reducible refine (c2 _).mono ?_); rintro e w9 ⟨rfl, T9⟩; have T9' : Hid (Turn NoBlock _ w9) := T9; clear T9))
          go_ret
          exact ⟨rfl, ((S8.out.turn).drewN _).trans T9'.out (fun k h => .inl h)⟩

end Go.Proofs.Ytfpmbbplgdkogaa
