/-
  The statement ArenaOnce answers true at all numbers and all slices of calls.
-/
import Derived.Test.YtfpmbbplgdkogaaAwake
import Derived.Test.YtfpmbbplgdkogaaThings
import Derived.Test.YtfpmbbplgdkogaaOwnArena
import Derived.Test.YtfpmbbplgdkogaaOnceModel
import Derived.Test.YtfpmbbplgdkogaaMapThing
import Derived.Test.YtfpmbbplgdkogaaOpArg
import Derived.Deep.LoopGhost
import Derived.Deep.Cut
namespace Go.Proofs.Ytfpmbbplgdkogaa
open Go.ChangeShapes Go.WideShapes Go.ChangeAt Go.RowKit Go.Maps

theorem once_none (c : Int) (p : Option Addr) (len cap : Nat) (w : World) (h : c < 0 ∨ 65536 < c) :
    Calls Try.prog 4 #[.int .i64 c, .slice p len cap] w fun e w' => e = .returned (.bool true) ∧ Turn NoBlock w w' := by
  have c1 := fun w => inew_no c w h
  have c2 := awake_any
  rcases h with h | h
  all_goals
    go_enter Try.func4, Try.ntmps4
    go_wp2_with (first | (go_at_call 9; (with_reducible refine (same (c1 _)).mono ?_); rintro e w1 ⟨rfl, rfl⟩) | (go_at_call 10; (with_reducible refine (c2 _).mono ?_); rintro e w2 ⟨rfl, T2⟩; have T2' : Hid (Turn NoBlock _ w2) := T2; clear T2))
    go_ret
    exact ⟨rfl, T2'.out⟩

theorem once_past (C : Nat) (p : Option Addr) (len cap : Nat) (w : World) (hC : C ≤ 65536) (h : (200 : Int) < len) :
    Calls Try.prog 4 #[.int .i64 C, .slice p len cap] w fun e w' => e = .returned (.bool true) ∧ Turn NoBlock w w' := by
  have c1 := fun w => inew_yes C w hC
  have c2 := awake_any
  go_enter Try.func4, Try.ntmps4
  go_wp2_with (first | (go_at_call 9; (with_reducible refine (c1 _).mono ?_); rintro e w1 ⟨rfl, F1, A1, T1, L1⟩; have T1' : Hid (Turn NoBlock _ w1) := T1; clear A1 L1 T1) | (go_at_call 10; (with_reducible refine (c2 _).mono ?_); rintro e w2 ⟨rfl, T2⟩; have T2' : Hid (Turn NoBlock _ w2) := T2; clear T2))
  go_ret
  exact ⟨rfl, T1'.out.trans T2'.out (fun k h => .inl h)⟩

set_option maxHeartbeats 1000000 in
set_option maxRecDepth 20000 in
theorem once_walk (os : Nat → OpV) (C : Nat) (p : Option Addr) (len cap : Nat) (w : World) (hC : C ≤ 65536) (h200 : len ≤ 200) (hp : OpsAt w p len os) (hfit : OpsFit len os) :
    Calls Try.prog 4 #[.int .i64 C, .slice p len cap] w fun e w' => e = .returned (.bool true) ∧ Turn NoBlock w w' := by
  obtain ⟨ii, hi, hz0, hz1, hz2⟩ := info_parts iinfo3
  have c1 := fun w => inew_yes C w hC
  have c2 := awake_any
  have HP : Hid (OpsAt w p len os) := hp
  have HFit : Hid (OpsFit len os) := hfit
  have hmm := @run_makeMap Try.prog
  clear hp hfit
  go_enter Try.func4, Try.ntmps4
  go_wp2_with (first | (go_at_call 9; (with_reducible refine (c1 _).mono ?_); rintro e w1 ⟨rfl, F1, A1, T1, L1⟩; have S1 : Hid (St w w1 F1 (fun w' => iArena w' w.heap.size F1 ⟨C, [], []⟩) (Blk (.slice none 0 0)) (Ints (.slice none 0 0) []) NoBlock Nothing) := ((St.begin w).step1 (iown _ _ _) A1 (T1.mono (fun _ h => .inl h)) (fun k hk => .inr (L1 k hk))).step2 (own_ints _ _) (ints_nil _) (Turn.refl _ _) (fun k hk => (blk_nil k hk).elim); clear A1 T1 L1))
  obtain ⟨B, hB⟩ : ∃ B, w1.heap.size = B := ⟨_, rfl⟩
  have S2 : Hid (St w (w1.alloc (.map #[] 0)) F1 (fun w' => iArena w' w.heap.size F1 ⟨C, [], []⟩) (Blk (.slice none 0 0)) (Ints (.slice none 0 0) []) (OneBlk B) (MapAt B 0 (.map []))) := by
    refine S1.out.step3 (own_map _ _ _) ?_ ((Turn.refl _ _).alloc _) (fun k hk => .inr ?_)
    · rw [← hB]; exact World.ownsMap_made _ _ _ _
    · unfold OneBlk at hk; omega
  rw [hB]
  clear hB S1 hmm
  go_loopg [6, 49] len (fun g u c wr => ∃ i : Nat, i ≤ len ∧ g = len - i ∧ c = .int .i64 i ∧ ∃ F m told L s D, Hid (Once m told L s i ∧ m.cap = C ∧ told.length ≤ i ∧ Says D L s) ∧ Hid (St w wr F (fun w' => iArena w' w.heap.size F m) (Blk u) (Ints u told) (OneBlk B) (MapAt B i D)))
  case atStart => exact ⟨0, by omega, by omega, rfl, F1, _, [], _, 0, _, ⟨Once.start C hC, rfl, by simp, says_made⟩, S2⟩
  case round =>
    obtain ⟨i, hi', hgk, rfl, F, m, told, L, s, D, hO, S3⟩ := hrel
    by_cases hlt : i < len
    · obtain ⟨b, off, rfl, hc⟩ := HP.out (by omega)
      obtain ⟨k0, k1, k2, k3⟩ := hc i hlt
      have k0 := S3.out.cell k0
      have k1 := S3.out.cell k1
      have k2 := S3.out.cell k2
      have k3 := S3.out.cell k3
      obtain ⟨o, ho⟩ : ∃ o, os i = o := ⟨_, rfl⟩
      rw [ho] at k0 k1 k2 k3
      have HO : Hid (os i = o) := ho
      have HC := (show Hid _ from hc)
      clear hc ho
      have hof := HFit.out i hlt
      rw [HO.out] at hof
      have hvw : Hid ((Lit.int .i64 o.v).wf = true) := hof.2.2.2
      have hll := hO.out.2.2.1
      have htr : i < 200 := by omega
      clear hof
      obtain ⟨pu, cu, hu⟩ := ints_slice S3.out.n2
      subst hu
      obtain ⟨nt, hnt⟩ : ∃ nt, told.length = nt := ⟨_, rfl⟩
      have HNT : Hid (told.length = nt) := hnt
      rw [hnt] at hll S3 ⊢
      have hsh : Hid (0 < nt → ∃ g, pu = some ⟨g, 0, none⟩ ∧ nt ≤ cu ∧ cu ≤ 9223372036854775807) := fun h0 => by
        obtain ⟨g, c, he, h1, h2⟩ := ints_shape S3.out.n2 (by rw [hnt]; exact h0)
        rw [hnt] at he h1
        simp at he
        exact ⟨g, he.1, he.2 ▸ h1, he.2 ▸ h2⟩
      clear hnt
      by_cases hkind : o.kind = 1
      · rw [hkind] at k0
        clear hkind
        cases ha : m.alloc (.int .i64 0) (.int .i64 o.v) with
        | none =>
          have d1 : ∀ wx, iArena wx w.heap.size F m → Calls Try.prog 11 #[.pointer (some ⟨w.heap.size, 0, none⟩), .int .i64 o.v] wx fun e w' => e = .returned (.tuple #[.int .i64 0, .int .i64 (-4)]) ∧ w' = wx := fun wx h => ialloc_none o.v wx w.heap.size F m h ha
          have hs : s = C := by rw [hO.out.1.none ha, hO.out.2.1]
          have hsz : size D = C := by rw [hO.out.2.2.2.2, hs]
          clear ha hs
          go_wp2_with (first
            | (go_at_call 11; (with_reducible refine (same (d1 _ (((Hid.out S3).alloc _).n1))).mono ?_); rintro e w2 ⟨rfl, rfl⟩)
            | (at_len; refine wpList_len_own _ rfl _ 46 rfl 3 3 mapUnder _ B i D rfl (((Hid.out S3).alloc _).n3) ?_))
          go_roundg (len - (i + 1))
          case measure => omega
          case rel =>
            have S4 := S3.out.alloc (.cells #[.int .i64 1, .int .i64 o.id, .int .i64 o.n, .int .i64 o.v] 32)
            exact ⟨i + 1, by omega, by omega, by go_num, F, m, told, L, s, D, ⟨hO.out.1.later, hO.out.2.1, by have := hO.out.2.2.1; omega, hO.out.2.2.2⟩, S4.step3 (own_map B (i + 1) D) (World.ownsMap.mono S4.n3 (Nat.le_succ _)) (Turn.refl _ _) (fun k hk => .inl hk)⟩
        | some q =>
          obtain ⟨id, m'⟩ := q
          obtain ⟨a1, a2, a3, a4⟩ := hO.out.1.alloc rfl ha
          have d1 : ∀ wx, iArena wx w.heap.size F m → Calls Try.prog 11 #[.pointer (some ⟨w.heap.size, 0, none⟩), .int .i64 o.v] wx fun e w' => e = .returned (.tuple #[.int .i64 id, .int .i64 0]) ∧ ∃ F', iArena w' w.heap.size F' m' ∧ Turn F wx w' ∧ ∀ k, F' k → F k ∨ wx.heap.size ≤ k := fun wx h => ialloc_some o.v wx w.heap.size F m m' id h ha
          have hidb := a4.bound (by omega) id (by simp)
          have HA1 : Hid (id ∉ told) := a1
          have HA2 : Hid (L id = none) := a2
          have HA3 : Hid (m'.cap = m.cap) := a3
          have HA4 : Hid (Once m' (told ++ [id]) (fun j => if j = id then some o.v else L j) (s + 1) (i + 1)) := a4
          have hidw : Hid ((Lit.int .i64 id).wf = true) := wf_int (by omega) (by omega)
          have q3 : nt + 1 ≤ maxLen := by unfold maxLen; omega
          have q4 : (nt + 1) * 8 ≤ 140737488355328 := by omega
          have q5 : i < maxLen := by unfold maxLen; omega
          have q2 : ∀ u ∈ [Value.int .i64 id], u.oneCell' = true := by
            intro u hu
            simp at hu
            subst hu
            rfl
          clear ha a1 a2 a3 a4 hidb
          go_wp2_with (go_at_call 11; (with_reducible refine (d1 _ (((Hid.out S3).alloc _).n1)).mono ?_); rintro e w2 ⟨rfl, F2, A2, T2, L2⟩; have S4 : Hid (St w w2 F2 (fun w' => iArena w' w.heap.size F2 m') (Blk (.slice pu nt cu)) (Ints (.slice pu nt cu) told) (OneBlk B) (MapAt B i D)) := ((Hid.out S3).alloc _).step1 (iown _ _ _) A2 T2 L2; have v2 : w2.cell? ⟨wr.heap.size, 3, none⟩ = some (.int .i64 o.v) := T2.cell (v := .int .i64 o.v) (by simp) (fun hf => by have := (Hid.out S3).o1.lt _ (Hid.out S3).n1 _ hf; simp at this); have lt2 : Hid (wr.heap.size < w2.heap.size) := World.block_lt_of_cell? w2 _ v2; have far2 : Hid (∀ k, Blk (.slice pu nt cu) k → k < wr.heap.size) := (Hid.out S3).o2.lt _ (Hid.out S3).n2; clear A2 T2 L2 k0 k1 k2 k3)
          go_loopg [71] nt (fun g c wx => ∃ j : Nat, j ≤ nt ∧ g = nt - j ∧ c = .int .i64 j ∧ w2 = wx)
          case atStart => exact ⟨0, by omega, by omega, rfl, rfl⟩
          case round =>
            obtain ⟨j, hj', hgk2, rfl, rfl⟩ := hrel
            by_cases hlt2 : j < nt
            · obtain ⟨g, rfl, h1, h2⟩ := hsh.out (by omega)
              have c3 := ints_cell S4.out.n2 j (by rw [HNT.out]; exact hlt2)
              have hne : (told.getD j 0 == id) = false := by
                have hj2 : j < told.length := by rw [HNT.out]; exact hlt2
                have hm : told.getD j 0 ∈ told := by
                  simp only [List.getD, List.getElem?_eq_getElem hj2, Option.getD_some]
                  exact List.getElem_mem hj2
                simp only [beq_eq_false_iff_ne]
                exact fun e => HA1.out (e ▸ hm)
              obtain ⟨y, hy⟩ : ∃ y, told.getD j 0 = y := ⟨_, rfl⟩
              rw [hy] at c3 hne
              clear hy
              go_wp2_with fail
              go_roundg (nt - (j + 1))
              case measure => omega
              case rel => exact ⟨j + 1, by omega, by omega, by go_num, rfl⟩
            · obtain rfl : j = nt := by omega
              have O4 : World.ownsRow w2 0 3 1 (.slice pu j cu) j (told.map (Value.int .i64)) := by
                have := S4.out.n2
                unfold Ints at this
                rw [HNT.out] at this
                exact this
              go_wp2_with (first
                | (at_builtin; refine wpList_append_lies _ rfl (.tmp 79) (.tmp 81) 27 rfl 0 3 ii _ 1 8 iints hi hz0 hz1 hz2 rfl (by decide) (.slice pu j cu) j (told.map (Value.int .i64)) rfl (World.ownsRow.alloc O4 _) ⟨w2.heap.size, 0, none⟩ 1 1 [.int .i64 id] rfl rfl (fun j u hu => World.news_of_block (heap_alloc_new w2 _) j u (by simpa using hu)) q2 (by decide) q3 q4 (Nat.zero_le _) (w2.heap.size + 1) (by simp) ?_; intro g5 cc5 w5 hown hgrow hat hlt5; have S5 : Hid (St w w5 F2 (fun w' => iArena w' w.heap.size F2 m') (Blk (.slice (some ⟨g5, 0, none⟩) (j + 1) cc5)) (Ints (.slice (some ⟨g5, 0, none⟩) (j + 1) cc5) (told ++ [id])) (OneBlk B) (MapAt B i D)) := (by obtain ⟨r1, r2, r3⟩ := ints_push (Hid.out HNT) hown hgrow hat; exact (Hid.out S4).step2 (own_ints _ _) r1 r2 r3); have v5 : w5.cell? ⟨wr.heap.size, 3, none⟩ = some (.int .i64 o.v) := (by obtain ⟨r1, r2, r3⟩ := ints_push (Hid.out HNT) hown hgrow hat; exact r2.cell v2 (fun hb => Nat.lt_irrefl _ (Hid.out far2 _ hb))); clear hown hgrow hat O4)
                | (at_mapUpdate; refine wpList_mapUpdate_own _ rfl _ _ _ 46 rfl 3 3 intKey mapUnder (plainElem Try.prog 3) B i D rfl (Hid.out S5).n3 q5 _ _ (.int .i64 id) rfl rfl (key_int (Hid.out hidw)) (.lit (.int .i64 o.v)) [] (plainElem_int Try.underlying3 (Hid.out hvw)) ?_; intro w6 hown6 hgrow6; have S6 : Hid (St w w6 F2 (fun w' => iArena w' w.heap.size F2 m') (Blk (.slice (some ⟨g5, 0, none⟩) (j + 1) cc5)) (Ints (.slice (some ⟨g5, 0, none⟩) (j + 1) cc5) (told ++ [id])) (OneBlk B) (MapAt B (i + 1) (D.put (.int .i64 id) (.lit (.int .i64 o.v))))) := (Hid.out S5).step3 (own_map _ _ _) hown6 ((Turn.refl _ _).grown hgrow6 (fun k hk => .inl (by injection hk with hk; exact hk.symm))) (fun k hk => .inl hk); clear hown6 hgrow6))
              go_roundg (len - (i + 1))
              case measure => omega
              case rel => exact ⟨i + 1, by omega, by omega, by go_num, F2, m', told ++ [id], _, s + 1, _, ⟨HA4.out, by rw [HA3.out]; exact hO.out.2.1, by have := HNT.out; simp; omega, says_put hO.out.2.2.2 S3.out.n3 id o.v HA2.out⟩, S6⟩
      · have hkb : (o.kind == 1) = false := by simp only [beq_eq_false_iff_ne]; exact hkind
        clear hkind
        by_cases hin : 0 ≤ o.n ∧ o.n < nt
        · obtain ⟨k, hk⟩ : ∃ k : Nat, o.n = k := ⟨o.n.toNat, by omega⟩
          rw [hk] at k2
          have hkn : k < nt := by omega
          obtain ⟨g, rfl, h1, h2⟩ := hsh.out (by omega)
          have S4 : Hid (St w (wr.alloc (.cells #[.int .i64 o.kind, .int .i64 o.id, .int .i64 k, .int .i64 o.v] 32)) F (fun w' => iArena w' w.heap.size F m) (Blk (.slice (some ⟨g, 0, none⟩) nt cu)) (Ints (.slice (some ⟨g, 0, none⟩) nt cu) told) (OneBlk B) (MapAt B i D)) := S3.out.alloc _
          have c3 := ints_cell S4.out.n2 k (by rw [HNT.out]; exact hkn)
          have hk2 : k < told.length := by rw [HNT.out]; exact hkn
          have hm : told.getD k 0 ∈ told := by
            simp only [List.getD, List.getElem?_eq_getElem hk2, Option.getD_some]
            exact List.getElem_mem hk2
          obtain ⟨id, hid⟩ : ∃ id, told.getD k 0 = id := ⟨_, rfl⟩
          rw [hid] at c3 hm
          have hidb := hO.out.1.bound (by omega) id hm
          have hidm : id ≤ 9223372036854775807 := hidb.2
          have hidw : Hid ((Lit.int .i64 id).wf = true) := wf_int (by omega) (by omega)
          have hsays := hO.out.2.2.2
          have hhas := (hsays.1 id).1
          clear hin hk hid hm hidb hk2
          cases hf : m.find id with
          | none =>
            obtain ⟨g1, g2⟩ := hO.out.1.gone hf
            rw [g1] at hhas
            simp only [Option.isSome_none] at hhas
            have d3 : ∀ wx, iArena wx w.heap.size F m → Calls Try.prog 13 #[.pointer (some ⟨w.heap.size, 0, none⟩), .int .i64 id] wx fun e w' => e = .returned (.int .i64 (-25)) ∧ ∃ n, w' = wx.drewN n := fun wx h => ifree_none wx w.heap.size F m id h hidm hf
            have HS : Hid (Says (D.del (.int .i64 id)) L s) := by
              have := says_del hsays S3.out.n3 id
              rw [g2, g1] at this
              show Says (D.del (.int .i64 id)) L s
              simpa using this
            clear hsays hf g1 g2
            go_wp2_with (first
              | (at_lookup; refine wpList_lookup_own_ok_int _ rfl _ _ 46 rfl 3 3 .i64 intKey mapUnder Try.underlying3 (zeroInt _) B i D rfl (Hid.out S4).n3 _ (.int .i64 id) rfl (key_int (Hid.out hidw)) ?_; intro c hat hwc; clear hat hwc)
              | (go_at_call 13; (with_reducible refine (d3 _ (Hid.out S4).n1).mono ?_); rintro e w7 ⟨rfl, nn, rfl⟩)
              | (at_delete; refine wpList_delete_own _ rfl _ _ 46 3 rfl 3 intKey mapUnder (plainElem Try.prog 3) B i D rfl ((Hid.out S4).drewN _).n3 _ (.int .i64 id) rfl (key_int (Hid.out hidw)) ?_; intro w8 hown8 hturn8; have S8 : Hid (St w w8 F (fun w' => iArena w' w.heap.size F m) (Blk (.slice (some ⟨g, 0, none⟩) nt cu)) (Ints (.slice (some ⟨g, 0, none⟩) nt cu) told) (OneBlk B) (MapAt B (i + 1) (D.del (.int .i64 id)))) := ((Hid.out S4).drewN _).step3 (own_map _ _ _) (World.ownsMap.mono hown8 (Nat.le_succ _)) ((Turn.refl _ _).grown hturn8.grown (fun k hk => .inl (by injection hk with hk; exact hk.symm))) (fun k hk => .inl hk); clear hown8 hturn8))
            go_roundg (len - (i + 1))
            case measure => omega
            case rel => exact ⟨i + 1, by omega, by omega, by go_num, F, m, told, L, s, _, ⟨hO.out.1.later, hO.out.2.1, by have := hO.out.2.2.1; omega, HS.out⟩, S8⟩
          | some kk =>
            obtain ⟨g1, g2, g3⟩ := hO.out.1.free (z := .int .i64 0) (by omega) rfl hf
            rw [g1] at hhas
            have d3 : ∀ wx, iArena wx w.heap.size F m → Calls Try.prog 13 #[.pointer (some ⟨w.heap.size, 0, none⟩), .int .i64 id] wx fun e w' => e = .returned (.int .i64 0) ∧ ∃ F', iArena w' w.heap.size F' (m.free (.int .i64 0) kk) ∧ Turn F wx w' ∧ ∀ j, F' j → F j ∨ wx.heap.size ≤ j := fun wx h => ifree_some wx w.heap.size F m id kk h hidm hf
            have HS : Hid (Says (D.del (.int .i64 id)) (fun j => if j = id then Option.none else L j) (s - 1)) := by
              have := says_del hsays S3.out.n3 id
              rw [if_pos g1] at this
              exact this
            have HG : Hid (Once (m.free (.int .i64 0) kk) told (fun j => if j = id then Option.none else L j) (s - 1) (i + 1)) := g2
            clear hsays hf g1 g2 g3
            go_wp2_with (first
              | (at_lookup; refine wpList_lookup_own_ok_int _ rfl _ _ 46 rfl 3 3 .i64 intKey mapUnder Try.underlying3 (zeroInt _) B i D rfl (Hid.out S4).n3 _ (.int .i64 id) rfl (key_int (Hid.out hidw)) ?_; intro c hat hwc; clear hat hwc)
              | (go_at_call 13; (with_reducible refine (d3 _ (Hid.out S4).n1).mono ?_); rintro e w7 ⟨rfl, F7, A7, T7, L7⟩; have S7 : Hid (St w w7 F7 (fun w' => iArena w' w.heap.size F7 (m.free (.int .i64 0) kk)) (Blk (.slice (some ⟨g, 0, none⟩) nt cu)) (Ints (.slice (some ⟨g, 0, none⟩) nt cu) told) (OneBlk B) (MapAt B i D)) := (Hid.out S4).step1 (iown _ _ _) A7 T7 L7; clear A7 T7 L7)
              | (at_delete; refine wpList_delete_own _ rfl _ _ 46 3 rfl 3 intKey mapUnder (plainElem Try.prog 3) B i D rfl (Hid.out S7).n3 _ (.int .i64 id) rfl (key_int (Hid.out hidw)) ?_; intro w8 hown8 hturn8; have S8 : Hid (St w w8 F7 (fun w' => iArena w' w.heap.size F7 (m.free (.int .i64 0) kk)) (Blk (.slice (some ⟨g, 0, none⟩) nt cu)) (Ints (.slice (some ⟨g, 0, none⟩) nt cu) told) (OneBlk B) (MapAt B (i + 1) (D.del (.int .i64 id)))) := (Hid.out S7).step3 (own_map _ _ _) (World.ownsMap.mono hown8 (Nat.le_succ _)) ((Turn.refl _ _).grown hturn8.grown (fun k hk => .inl (by injection hk with hk; exact hk.symm))) (fun k hk => .inl hk); clear hown8 hturn8))
            go_roundg (len - (i + 1))
            case measure => omega
            case rel => exact ⟨i + 1, by omega, by omega, by go_num, F7, _, told, _, s - 1, _, ⟨HG.out, hO.out.2.1, by have := hO.out.2.2.1; omega, HS.out⟩, S8⟩
        · rcases (show o.n < 0 ∨ (0 ≤ o.n ∧ (nt : Int) ≤ o.n) from by omega) with h8 | ⟨h8, h9⟩
          all_goals
            clear hin
            go_wp2_with fail
            go_roundg (len - (i + 1))
            case measure => omega
            case rel =>
              have S4 := S3.out.alloc (.cells #[.int .i64 o.kind, .int .i64 o.id, .int .i64 o.n, .int .i64 o.v] 32)
              exact ⟨i + 1, by omega, by omega, by go_num, F, m, told, L, s, D, ⟨hO.out.1.later, hO.out.2.1, by have := hO.out.2.2.1; omega, hO.out.2.2.2⟩, S4.step3 (own_map B (i + 1) D) (World.ownsMap.mono S4.n3 (Nat.le_succ _)) (Turn.refl _ _) (fun k hk => .inl hk)⟩
    · obtain rfl : i = len := by omega
      obtain ⟨pu, cu, hu⟩ := ints_slice S3.out.n2
      subst hu
      obtain ⟨nt, hnt⟩ : ∃ nt, told.length = nt := ⟨_, rfl⟩
      have HNT : Hid (told.length = nt) := hnt
      have hntl : nt ≤ i := by have := hO.out.2.2.1; omega
      rw [hnt] at S3 ⊢
      have hsh : Hid (0 < nt → ∃ g, pu = some ⟨g, 0, none⟩ ∧ nt ≤ cu ∧ cu ≤ 9223372036854775807) := fun h0 => by
        obtain ⟨g, c, he, h1, h2⟩ := ints_shape S3.out.n2 (by rw [hnt]; exact h0)
        rw [hnt] at he h1
        simp at he
        exact ⟨g, he.1, he.2 ▸ h1, he.2 ▸ h2⟩
      clear hnt
      go_wp2_with fail
      go_loopg [119] nt (fun g c wx => ∃ j : Nat, j ≤ nt ∧ g = nt - j ∧ c = .int .i64 j ∧ Hid (St w wx F (fun w' => iArena w' w.heap.size F m) (Blk (.slice pu nt cu)) (Ints (.slice pu nt cu) told) (OneBlk B) (MapAt B i D)))
      case atStart => exact ⟨0, by omega, by omega, rfl, S3⟩
      case round =>
        obtain ⟨j, hj', hgk2, rfl, S4⟩ := hrel
        by_cases hlt2 : j < nt
        · obtain ⟨g, rfl, h1, h2⟩ := hsh.out (by omega)
          have c3 := ints_cell S4.out.n2 j (by rw [HNT.out]; exact hlt2)
          have hk2 : j < told.length := by rw [HNT.out]; exact hlt2
          have hm : told.getD j 0 ∈ told := by
            simp only [List.getD, List.getElem?_eq_getElem hk2, Option.getD_some]
            exact List.getElem_mem hk2
          obtain ⟨id, hid⟩ : ∃ id, told.getD j 0 = id := ⟨_, rfl⟩
          rw [hid] at c3 hm
          have hidb := hO.out.1.bound (by omega) id hm
          have hidm : id ≤ 9223372036854775807 := hidb.2
          have hidw : Hid ((Lit.int .i64 id).wf = true) := wf_int (by omega) (by omega)
          have hsays := hO.out.2.2.2
          have hhas := (hsays.1 id).1
          have hatz := (hsays.1 id).2 (.lit (.int .i64 0))
          have hlv := hO.out.1.live id
          clear hid hm hidb hk2 hsays
          cases hL : L id with
          | none =>
            rw [hL] at hhas hatz hlv
            simp only [Option.isSome_none] at hhas
            have hf : m.find id = none := by
              cases hf : m.find id with
              | none => rfl
              | some kk =>
                obtain ⟨_, _, u, hu, _, _⟩ := Mod.find_some hf
                simp [Mod.look, hf, hu] at hlv
            have d5 : ∀ wx, iArena wx w.heap.size F m → Calls Try.prog 17 #[.pointer (some ⟨w.heap.size, 0, none⟩), .int .i64 id] wx fun e w' => e = .returned (.tuple #[.int .i64 0, .bool false]) ∧ ∃ n, w' = wx.drewN n := fun wx h => iget_none wx w.heap.size F m id h hidm hf
            have HZ : Hid (D.atKey (.int .i64 id) (.lit (.int .i64 0)) = .lit (.int .i64 0)) := hatz
            clear hL hlv hf hatz
            go_wp2_with (first
              | (at_lookup; refine wpList_lookup_own_ok_int _ rfl _ _ 46 rfl 3 3 .i64 intKey mapUnder Try.underlying3 (zeroInt _) B i D rfl (Hid.out S4).n3 _ (.int .i64 id) rfl (key_int (Hid.out hidw)) ?_; intro c hat hwc; obtain rfl : c = 0 := (by rw [Hid.out HZ] at hat; injection hat with hat; injection hat with _ hat; exact hat.symm); clear hat hwc)
              | (go_at_call 17; (with_reducible refine (d5 _ (Hid.out S4).n1).mono ?_); rintro e w7 ⟨rfl, nn, rfl⟩))
            go_roundg (nt - (j + 1))
            case measure => omega
            case rel => exact ⟨j + 1, by omega, by omega, by go_num, S4.out.drewN _⟩
          | some v =>
            rw [hL] at hhas hatz hlv
            simp only [Option.isSome_some] at hhas
            simp only [Option.map_some] at hlv
            have d5 : ∀ wx, iArena wx w.heap.size F m → Calls Try.prog 17 #[.pointer (some ⟨w.heap.size, 0, none⟩), .int .i64 id] wx fun e w' => e = .returned (.tuple #[.int .i64 v, .bool true]) ∧ ∃ n, w' = wx.drewN n := fun wx h => by
              obtain ⟨kk, u, g0, g1, g2, g3, g4, g5⟩ := (Mod.look_iff _ _ _).1 hlv
              exact iget_some wx w.heap.size F m id kk u v h hidm ((Mod.find_iff _ _ _).2 ⟨g0, g1, u, g2, g3, g4⟩) g2 g5
            have HZ : Hid (D.atKey (.int .i64 id) (.lit (.int .i64 0)) = .lit (.int .i64 v)) := hatz
            clear hL hlv hatz
            go_wp2_with (first
              | (at_lookup; refine wpList_lookup_own_ok_int _ rfl _ _ 46 rfl 3 3 .i64 intKey mapUnder Try.underlying3 (zeroInt _) B i D rfl (Hid.out S4).n3 _ (.int .i64 id) rfl (key_int (Hid.out hidw)) ?_; intro c hat hwc; obtain rfl : c = v := (by rw [Hid.out HZ] at hat; injection hat with hat; injection hat with _ hat; exact hat.symm); clear hat hwc)
              | (go_at_call 17; (with_reducible refine (d5 _ (Hid.out S4).n1).mono ?_); rintro e w7 ⟨rfl, nn, rfl⟩))
            go_roundg (nt - (j + 1))
            case measure => omega
            case rel => exact ⟨j + 1, by omega, by omega, by go_num, S4.out.drewN _⟩
        · obtain rfl : j = nt := by omega
          have d7 : ∀ wx, iArena wx w.heap.size F m → Calls Try.prog 19 #[.pointer (some ⟨w.heap.size, 0, none⟩)] wx fun e w' => e = .returned (.int .i64 s) ∧ w' = wx := fun wx h => by
            have := icount_any wx w.heap.size F m h
            rw [← hO.out.1.size] at this
            exact this
          have hsz : size D = s := hO.out.2.2.2.2
          go_wp2_with (first
            | (go_at_call 19; (with_reducible refine (same (d7 _ (Hid.out S4).n1)).mono ?_); rintro e w8 ⟨rfl, rfl⟩)
            | (at_len; refine wpList_len_own _ rfl _ 46 rfl 3 3 mapUnder _ B i D rfl (Hid.out S4).n3 ?_)
            | (go_at_call 10; (with_reducible refine (c2 _).mono ?_); rintro e w9 ⟨rfl, T9⟩; have T9' : Hid (Turn NoBlock _ w9) := T9; clear T9))
          go_ret
          exact ⟨rfl, S4.out.turn.trans T9'.out (fun k h => .inl h)⟩

end Go.Proofs.Ytfpmbbplgdkogaa
