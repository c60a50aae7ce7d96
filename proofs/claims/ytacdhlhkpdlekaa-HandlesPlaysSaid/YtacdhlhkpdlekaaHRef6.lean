/-
  What the reference's CloseMany and Take answer, and what they make of its places. No conditions but that the table is one that calls can make, and that the numbers lie apart from it.
-/
import Derived.Test.YtacdhlhkpdlekaaHRef5
import Derived.Test.YtacdhlhkpdlekaaHMany2
import Derived.Test.YtacdhlhkpdlekaaHEach
import Derived.Test.YtacdhlhkpdlekaaHAllData
namespace Go.Proofs.Ytacdhlhkpdlekaa
open Go.ChangeShapes Go.WideShapes Go.ChangeAt Go.RowKit

structure RMInv (w wr : World) (a : Nat) (F F' : Nat → Prop) (L : List Pl) (v : Value) (es : List Ent) : Prop where
  tab : RefAt wr a F' L
  ents : REnts v es wr
  turn : Turn F w wr
  lf : ∀ j, F' j → F j ∨ w.heap.size ≤ j
  lb : ∀ j, Blk v j → w.heap.size ≤ j
  ap : ∀ j, F' j → ¬ Blk v j
section
variable {w wr w' : World} {a : Nat} {F F' F2 : Nat → Prop} {L L2 : List Pl} {v v' : Value} {es es' : List Ent}
theorem RMInv.past (h : RMInv w wr a F F' L v es) (t : Turn NoBlock wr w') : RMInv w w' a F F' L v es :=
  ⟨h.tab.past t, t.own h.ents (fun _ _ h => h), h.turn.trans t (fun _ h => h.elim), h.lf, h.lb, h.ap⟩
theorem RMInv.close (h : RMInv w wr a F F' L v es) (t : Turn F' wr w') (h2 : RefAt w' a F2 L2) (l2 : ∀ j, F2 j → F' j ∨ wr.heap.size ≤ j) : RMInv w w' a F F2 L2 v es := by
  have hs := h.turn.size
  refine ⟨h2, t.own h.ents (fun k hk hF => h.ap k hF hk), h.turn.trans t h.lf, fun j hj => ?_, h.lb, fun j hj hb => ?_⟩
  · rcases l2 j hj with h1 | h1
    · exact h.lf j h1
    · right; omega
  · rcases l2 j hj with h1 | h1
    · exact h.ap j h1 hb
    · have := (own_rents v es).lt wr h.ents j hb
      omega
theorem RMInv.push (h : RMInv w wr a F F' L v es) (t : Turn (Blk v) wr w') (h2 : REnts v' es' w') (l2 : ∀ j, Blk v' j → Blk v j ∨ wr.heap.size ≤ j) : RMInv w w' a F F' L v' es' := by
  have hs := h.turn.size
  refine ⟨(ref_own a F' L).kept _ _ _ h.tab t (fun j hj hb => h.ap j hj hb), h2, h.turn.trans t (fun j hj => .inr (h.lb j hj)), h.lf, fun j hj => ?_, fun j hj hb => ?_⟩
  · rcases l2 j hj with h1 | h1
    · exact h.lb j h1
    · omega
  · rcases l2 j hb with h1 | h1
    · exact h.ap j hj h1
    · have := h.tab.lt hj
      omega
end
set_option maxRecDepth 20000 in
set_option maxHeartbeats 4000000 in
theorem rmany_any {w : World} {a : Nat} {F : Nat → Prop} {L : List Pl} (h : RefAt w a F L) (p : Option Addr) (len cap : Nat) (zs : List Int) (hl : len ≤ 65536) (hz : NumsBy F w p len zs) :
    Calls Try.prog 35 #[.pointer (some ⟨a, 0, none⟩), .slice p len cap] w fun e w' => ∃ v, e = .returned (.tuple #[v, .int .i64 (manyS L zs 0)]) ∧ ∃ F', RMInv w w' a F F' (manyL L zs) v (manyE L zs) := by
  obtain ⟨i0, hi, hz0, hz1, hz2⟩ := info_parts info76
  have HZ := Lib.hid hz
  have H0 := Lib.hid (show RMInv w w a F F L (.slice none 0 0) [] from ⟨h, World.ownsRow_nil _ _ _ _, Turn.refl _ _, fun j hj => .inl hj, fun j hj => (blk_nil j hj).elim, fun j _ hb => blk_nil j hb⟩)
  have hFl := Lib.hid (fun j (hj : F j) => h.lt hj)
  clear h hz
  go_enter Try.func35, Try.ntmps35
  go_wp2
  go_loopg [6, 7, 8] len (fun g s6 s7 s8 wr => ∃ (k : Nat) (F' : Nat → Prop), g = len - k ∧ k ≤ len ∧ s8 = .int .i64 k ∧ s7 = .int .i64 (manyS L (zs.take k) 0) ∧ Hid (RMInv w wr a F F' (manyL L (zs.take k)) s6 (manyE L (zs.take k))))
  case atStart => exact ⟨0, F, by omega, by omega, rfl, rfl, H0.out⟩
  case round =>
    obtain ⟨k, F', hg, hk, rfl, rfl, HR⟩ := hrel
    by_cases hlt : k < len
    · obtain ⟨b, off, rfl, hnb, hc⟩ := HZ.out.2.2 (by omega)
      have ck := HR.out.turn.cell (hc k hlt) hnb
      have hkz : k < zs.length := by rw [HZ.out.1]; exact hlt
      have ht := take_one' hkz
      have hfx : fit (zs.getD k 0) := HZ.out.2.1 _ (by simp only [List.getD, List.getElem?_eq_getElem hkz, Option.getD_some]; exact List.getElem_mem hkz)
      have hm := many_len L (zs.take k)
      have hm' : (manyE L (zs.take k)).length ≤ k := by rw [List.length_take] at hm; omega
      have E1 := Lib.hid ((congrArg (manyL L) ht).trans (manyL_snoc L _ _))
      have E2 := Lib.hid ((congrArg (manyE L) ht).trans (manyE_snoc L _ _))
      have E3 := Lib.hid ((congrArg (fun l => manyS L l 0) ht).trans (manyS_snoc L _ _ 0))
      generalize zs.getD k 0 = x at *
      clear hc ht hm hkz
      by_cases hx : x = 0
      · replace E1 := Lib.hid (E1.out.trans (if_pos hx))
        replace E2 := Lib.hid (E2.out.trans (congrArg _ (if_pos hx)))
        replace E3 := Lib.hid (E3.out.trans (if_pos hx))
        subst hx
        generalize manyS L (zs.take k) 0 = S0 at *
        go_wp2
        go_roundg (len - (k + 1))
        case measure => omega
        case rel => exact ⟨k + 1, F', rfl, by omega, by go_num, by rw [E3.out], by rw [E1.out, E2.out, List.append_nil]; exact HR.out⟩
      · have hb0 : (x == 0) = false := by simp [hx]
        replace E1 := Lib.hid (E1.out.trans (if_neg hx))
        replace E2 := Lib.hid (E2.out.trans (congrArg _ (if_neg hx)))
        replace E3 := Lib.hid (E3.out.trans (if_neg hx))
        have cC := rclose_any HR.out.tab x
        generalize manyL L (zs.take k) = L1 at *
        generalize manyS L (zs.take k) 0 = S0 at *
        generalize manyE L (zs.take k) = es at *
        obtain ⟨pv, cv, rfl⟩ := own_slice HR.out.ents
        obtain ⟨n, hn⟩ : ∃ n, es.length = n := ⟨_, rfl⟩
        rw [hn] at hm' HR ⊢
        have HN := Lib.hid hn
        by_cases hs : getS L1 x = 0
        · replace E2 := Lib.hid (E2.out.trans (congrArg _ (if_pos hs)))
          replace E3 := Lib.hid (E3.out.trans (if_pos hs))
          rw [hs] at cC
          generalize hE : getE L1 x = e at *
          obtain ⟨eo, ek, er⟩ := e
          unfold Ent.agg at cC
          have q2 : ∀ u ∈ [Value.int .i64 eo, .int .i64 ek, .int .i64 er], u.oneCell' = true := by
            intro u hu
            simp at hu
            rcases hu with rfl | rfl | rfl <;> rfl
          have q3 : n + 1 ≤ maxLen := by unfold maxLen; omega
          have q4 : (n + 1) * 24 ≤ 140737488355328 := by omega
          clear hs hE hn
          go_wp2_with (first
            | (go_at_call 34; (with_reducible refine cC.mono ?_); rintro y w2 ⟨rfl, F2, h2, t2, l2⟩; have K2 := Lib.hid ((RMInv.close HR.out t2 h2 l2).past ((Turn.refl NoBlock _).alloc (.cells #[.int .i64 eo, .int .i64 ek, .int .i64 er] 76))); have hO : (w2.alloc (.cells #[.int .i64 eo, .int .i64 ek, .int .i64 er] 76)).ownsRow 0 76 3 (.slice pv n cv) n (entsOf es) := (by have := K2.out.ents; unfold REnts at this; rw [HN.out] at this; exact this); clear h2 t2 l2)
            | (at_builtin; refine wpList_append_lies _ rfl (.tmp 34) (.tmp 36) 28 rfl 0 76 i0 _ 3 24 slice28 hi hz0 hz1 hz2 rfl (by decide) (.slice pv n cv) n (entsOf es) rfl (World.ownsRow.alloc hO _) ⟨w2.heap.size + 1, 0, none⟩ 1 1 [.int .i64 eo, .int .i64 ek, .int .i64 er] rfl rfl (fun j u hu => World.news_of_block (by have := heap_alloc_new (w2.alloc (.cells #[.int .i64 eo, .int .i64 ek, .int .i64 er] 76)) (.cells #[.int .i64 eo, .int .i64 ek, .int .i64 er] 76); rw [World.size_alloc] at this; exact this) j u (by simpa using hu)) q2 (by decide) q3 q4 (Nat.zero_le _) (w2.heap.size + 2) (by simp) ?_; intro g3 c3 w3 hown hgrow hat hlt3; have P3 := rents_push (x := ⟨eo, ek, er⟩) HN.out hown hgrow (by rcases hat with h | h; exact .inl h; right; rw [World.size_alloc]; omega); have K3 := Lib.hid (RMInv.push K2.out P3.2.1 P3.1 P3.2.2); clear hown hgrow hat P3))
          go_roundg (len - (k + 1))
          case measure => omega
          case rel => exact ⟨k + 1, F2, rfl, by omega, by go_num, by rw [E3.out], by rw [E1.out, E2.out]; exact K3.out⟩
        · replace E2 := Lib.hid (E2.out.trans (congrArg _ (if_neg hs)))
          replace E3 := Lib.hid (E3.out.trans (if_neg hs))
          have hsb : (getS L1 x != 0) = true := by simp [hs]
          generalize getS L1 x = S1 at *
          generalize getE L1 x = e at *
          obtain ⟨eo, ek, er⟩ := e
          unfold Ent.agg at cC
          clear hs hn
          go_wp2_with (go_at_call 34; (with_reducible refine cC.mono ?_); rintro y w2 ⟨rfl, F2, h2, t2, l2⟩; have K2 := Lib.hid ((RMInv.close HR.out t2 h2 l2).past ((Turn.refl NoBlock _).alloc (.cells #[.int .i64 eo, .int .i64 ek, .int .i64 er] 76))); clear h2 t2 l2)
          go_roundg (len - (k + 1))
          case measure => omega
          case rel => exact ⟨k + 1, F2, rfl, by omega, by go_num, by rw [E3.out], by rw [E1.out, E2.out, List.append_nil]; exact K2.out⟩
    · obtain rfl : k = len := by omega
      have e := List.take_of_length_le (Nat.le_of_eq HZ.out.1)
      rw [e] at HR ⊢
      go_wp2
      go_ret2
      exact ⟨_, rfl, F', HR.out⟩

theorem rfind_any {w : World} {x : Nat} {G : Nat → Prop} {L : List Pl} (h : RefAt w x G L) (v : Int) :
    Calls Try.prog 48 #[.pointer (some ⟨x, 0, none⟩), .int .i64 v] w fun e w' => e = .returned (.int .i64 (findI L v)) ∧ w = w' := by
  obtain ⟨va, ea, cap, R, hM, ok, rfl, rfl⟩ := h
  exact rfind_mem hM ok v
theorem findI_or (L : List Pl) (v : Int) : (findL L v = none ∧ findI L v = -1) ∨ (findL L v ≠ none ∧ 0 ≤ findI L v) := by
  unfold findI
  cases findL L v with
  | none => exact .inl ⟨rfl, rfl⟩
  | some k => exact .inr ⟨by simp, by simp⟩
theorem each_iff (L : List Pl) (zs : List Int) : eachB L zs = true ↔ (∀ z ∈ zs, findL L z ≠ none) ∧ zs.Nodup := by unfold eachB; exact decide_eq_true_iff
theorem each_snoc {L : List Pl} {zs : List Int} {z : Int} (h : eachB L zs = true) (h1 : findL L z ≠ none) (h2 : z ∉ zs) : eachB L (zs ++ [z]) = true := by
  rw [each_iff] at h ⊢
  refine ⟨fun y hy => ?_, ?_⟩
  · rcases List.mem_append.1 hy with hy | hy
    · exact h.1 y hy
    · simp at hy; subst hy; exact h1
  · rw [List.nodup_append]
    exact ⟨h.2, by simp, fun a ha b hb => by simp at hb; subst hb; exact fun e => h2 (e ▸ ha)⟩
theorem each_step {L : List Pl} {zs : List Int} (h : eachB L zs = true) {k : Nat} (hk : k < zs.length) : zs.getD k 0 ≠ 0 ∧ getS (manyL L (zs.take k)) (zs.getD k 0) = 0 := by
  rw [each_iff] at h
  have hm : zs.getD k 0 = zs[k] := by simp [List.getD, List.getElem?_eq_getElem hk]
  have hf := h.1 _ (List.getElem_mem hk)
  rw [hm]
  refine ⟨fun e => hf (by rw [e]; exact findL_zero L), ?_⟩
  have hn : zs[k] ∉ zs.take k := by
    intro hmem
    obtain ⟨i, hi, he⟩ := List.getElem_of_mem hmem
    rw [List.length_take] at hi
    rw [List.getElem_take] at he
    have := (List.getElem_inj h.2).1 he
    omega
  unfold getS
  rw [findL_many, if_neg hn]
  cases hc : findL L zs[k] with
  | none => exact absurd hc hf
  | some j => rfl
theorem each_take {L : List Pl} {zs : List Int} (h : eachB L zs = true) (k : Nat) : eachB L (zs.take k) = true := by
  rw [each_iff] at h ⊢
  exact ⟨fun z hz => h.1 z (List.mem_of_mem_take hz), h.2.sublist (List.take_sublist _ _)⟩
theorem each_not_found {L : List Pl} {zs : List Int} {k : Nat} (hk : k < zs.length) (h : findL L (zs.getD k 0) = none) : eachB L zs = false := by
  cases hb : eachB L zs with
  | false => rfl
  | true =>
    rw [each_iff] at hb
    have hm : zs.getD k 0 = zs[k] := by simp [List.getD, List.getElem?_eq_getElem hk]
    rw [hm] at h
    exact absurd h (hb.1 _ (List.getElem_mem hk))
theorem each_twice {L : List Pl} {zs : List Int} {j k : Nat} (hj : j < k) (hk : k < zs.length) (h : zs.getD j 0 = zs.getD k 0) : eachB L zs = false := by
  cases hb : eachB L zs with
  | false => rfl
  | true =>
    rw [each_iff] at hb
    have hm : zs.getD k 0 = zs[k] := by simp [List.getD, List.getElem?_eq_getElem hk]
    have hm2 : zs.getD j 0 = zs[j] := by simp [List.getD, List.getElem?_eq_getElem (show j < zs.length by omega)]
    rw [hm, hm2] at h
    have := (List.getElem_inj hb.2).1 h
    omega

set_option maxRecDepth 20000 in
set_option maxHeartbeats 4000000 in
theorem rtake_core {w : World} {a : Nat} {F : Nat → Prop} {L : List Pl} (h : RefAt w a F L) (p : Option Addr) (len cap : Nat) (zs : List Int) (hl : len ≤ 65536) (hz : NumsBy F w p len zs) (Post : Ending → World → Prop)
    (hy : eachB L zs = true → ∀ v w' w1 F', Turn NoBlock w w1 → RMInv w1 w' a F F' (manyL L zs) v (manyE L zs) → Post (.returned (.tuple #[v, .int .i64 0])) w')
    (hno : eachB L zs = false → ∀ w', Turn NoBlock w w' → Post (.returned (.tuple #[.slice none 0 0, .int .i64 (-11)])) w') :
    Calls Try.prog 36 #[.pointer (some ⟨a, 0, none⟩), .slice p len cap] w fun e w' => Post e w' ∧ True := by
  have HY := Lib.hid hy
  have HNo := Lib.hid hno
  clear hy hno
  obtain ⟨i0, hi, hz0, hz1, hz2⟩ := info_parts info76
  have HZ := Lib.hid hz
  have H0 := Lib.hid h
  have HFi := Lib.hid (fun (w1 : World) (t : Turn NoBlock w w1) (v : Int) => rfind_any (h.past t) v)
  clear h hz
  go_enter Try.func36, Try.ntmps36
  go_wp2
  go_loopg [6] len (fun g s6 wr => ∃ (k : Nat), g = len - k ∧ k ≤ len ∧ s6 = .int .i64 k ∧ Hid (Turn NoBlock w wr) ∧ Hid (eachB L (zs.take k) = true))
  case atStart => exact ⟨0, by omega, by omega, rfl, Lib.hid (Turn.refl _ _), Lib.hid (by rw [each_iff]; simp)⟩
  case round =>
    obtain ⟨k, hg, hk, rfl, HT, HE⟩ := hrel
    by_cases hlt : k < len
    · obtain ⟨b, off, rfl, hnb, hc⟩ := HZ.out.2.2 (by omega)
      have ck := HT.out.cell (hc k hlt) (fun h => h)
      have HC := Lib.hid hc
      have hkz : k < zs.length := by rw [HZ.out.1]; exact hlt
      have ht := take_one' hkz
      have HK := Lib.hid (And.intro hkz (And.intro ht (show zs.getD k 0 = zs.getD k 0 from rfl)))
      have cF := HFi.out wr HT.out (zs.getD k 0)
      obtain ⟨z, hzk⟩ : ∃ z, zs.getD k 0 = z := ⟨_, rfl⟩
      rw [hzk] at ck cF HK
      clear hc hkz ht
      have HZk := Lib.hid hzk
      clear hzk
      rcases findI_or L z with ⟨hn, hI⟩ | ⟨hn, hI⟩
      · have HB := Lib.hid (each_not_found HK.out.1 (by rw [HZk.out]; exact hn))
        rw [hI] at cF
        clear hn hI
        go_wp2_with (go_at_call 48; (with_reducible refine cF.mono ?_); rintro y w2 ⟨rfl, rfl⟩)
        go_ret2
        exact ⟨HNo.out HB.out _ HT.out, trivial⟩
      · have HFd := Lib.hid hn
        have hlt0 : ¬ findI L z < 0 := by omega
        generalize findI L z = fz at *
        clear hn
        go_wp2_with (go_at_call 48; (with_reducible refine cF.mono ?_); rintro y w2 ⟨rfl, rfl⟩)
        go_loopg [7] k (fun g s7 wy => ∃ (j : Nat), g = k - j ∧ j ≤ k ∧ s7 = .int .i64 j ∧ Hid (Turn NoBlock w wy) ∧ Hid (∀ y ∈ zs.take j, y ≠ z))
        case atStart => exact ⟨0, by omega, by omega, rfl, HT, Lib.hid (by simp)⟩
        case round =>
          obtain ⟨j, hgj, hj, rfl, HT2, HNe⟩ := hrel
          by_cases hlt2 : j < k
          · have cj := HT2.out.cell (HC.out j (by omega)) (fun h => h)
            have ck2 := HT2.out.cell (HC.out k (by omega)) (fun h => h)
            rw [HZk.out] at ck2
            have hjz : j < zs.length := by have := HK.out.1; omega
            have htj := take_one' hjz
            obtain ⟨y, hy⟩ : ∃ y, zs.getD j 0 = y := ⟨_, rfl⟩
            rw [hy] at cj htj
            by_cases hyz : y = z
            · have HB := Lib.hid (each_twice (L := L) hlt2 HK.out.1 (by rw [HZk.out, hy]; exact hyz))
              subst hyz
              clear hjz htj hy
              go_wp2
              go_quiet (fail)
              go_wp2
              go_ret2
              exact ⟨HNo.out HB.out _ (HT2.out.drewN _), trivial⟩
            · have hb : (y == z) = false := by simp [hyz]
              have HN2 := Lib.hid (show ∀ u ∈ zs.take (j + 1), u ≠ z by
                intro u hu
                rw [htj] at hu
                rcases List.mem_append.1 hu with h | h
                · exact HNe.out u h
                · simp at h; subst h; exact hyz)
              clear hjz htj hy hyz
              go_wp2
              go_quiet (fail)
              go_wp2
              go_roundg (k - (j + 1))
              case measure => omega
              case rel => exact ⟨j + 1, rfl, by omega, by go_num, Lib.hid (HT2.out.drewN _), HN2⟩
          · obtain rfl : j = k := by omega
            have HE2 := Lib.hid (show eachB L (zs.take (j + 1)) = true by
              rw [HK.out.2.1]
              exact each_snoc HE.out HFd.out (fun h => HNe.out _ h rfl))
            go_wp2
            go_roundg (len - (j + 1))
            case measure => omega
            case rel => exact ⟨j + 1, rfl, by omega, by go_num, HT2, HE2⟩
    · obtain rfl : k = len := by omega
      have hE := HE.out
      rw [List.take_of_length_le (Nat.le_of_eq HZ.out.1)] at hE
      have HEa := Lib.hid hE
      clear hE
      have HR0 := Lib.hid (show RMInv wr wr a F F L (.slice none 0 0) [] from ⟨H0.out.past HT.out, World.ownsRow_nil _ _ _ _, Turn.refl _ _, fun j hj => .inl hj, fun j hj => (blk_nil j hj).elim, fun j _ hb => blk_nil j hb⟩)
      have HT0 := HT
      obtain ⟨W0, hW0⟩ : ∃ W0, wr = W0 := ⟨_, rfl⟩
      rw [hW0] at HR0 HT0
      have HWW := Lib.hid hW0
      go_wp2
      clear hW0
      go_loopg [8, 9] k (fun g s8 s9 wr => ∃ (j : Nat) (F' : Nat → Prop), g = k - j ∧ j ≤ k ∧ s9 = .int .i64 j ∧ Hid (RMInv W0 wr a F F' (manyL L (zs.take j)) s8 (manyE L (zs.take j))))
      case atStart => exact ⟨0, F, by omega, by omega, rfl, HR0⟩
      case round =>
        obtain ⟨j, F', hgj, hj, rfl, HR⟩ := hrel
        by_cases hlt : j < k
        · obtain ⟨b, off, rfl, hnb, hc⟩ := HZ.out.2.2 (by omega)
          have ck := HR.out.turn.cell (HT0.out.cell (hc j hlt) (fun h => h)) hnb
          have hkz : j < zs.length := by rw [HZ.out.1]; exact hlt
          have ht := take_one' hkz
          obtain ⟨hx, hs⟩ := each_step HEa.out hkz
          have hm := many_len L (zs.take j)
          have hm' : (manyE L (zs.take j)).length ≤ j := by rw [List.length_take] at hm; omega
          have E1 := Lib.hid ((congrArg (manyL L) ht).trans (manyL_snoc L _ _))
          have E2 := Lib.hid ((congrArg (manyE L) ht).trans (manyE_snoc L _ _))
          generalize zs.getD j 0 = x at *
          clear hc ht hm hkz
          replace E1 := Lib.hid (E1.out.trans (if_neg hx))
          replace E2 := Lib.hid (E2.out.trans (congrArg _ (if_neg hx)))
          have cC := rclose_any HR.out.tab x
          generalize manyL L (zs.take j) = L1 at *
          generalize manyE L (zs.take j) = es at *
          obtain ⟨pv, cv, rfl⟩ := own_slice HR.out.ents
          obtain ⟨n, hn⟩ : ∃ n, es.length = n := ⟨_, rfl⟩
          rw [hn] at hm' HR ⊢
          have HN := Lib.hid hn
          replace E2 := Lib.hid (E2.out.trans (congrArg _ (if_pos hs)))
          rw [hs] at cC
          generalize hE : getE L1 x = e at *
          obtain ⟨eo, ek, er⟩ := e
          unfold Ent.agg at cC
          have q2 : ∀ u ∈ [Value.int .i64 eo, .int .i64 ek, .int .i64 er], u.oneCell' = true := by
            intro u hu
            simp at hu
            rcases hu with rfl | rfl | rfl <;> rfl
          have q3 : n + 1 ≤ maxLen := by unfold maxLen; omega
          have q4 : (n + 1) * 24 ≤ 140737488355328 := by omega
          clear hs hE hn
          go_wp2_with (first
            | (go_at_call 34; (with_reducible refine cC.mono ?_); rintro y w2 ⟨rfl, F2, h2, t2, l2⟩; have K2 := Lib.hid ((RMInv.close HR.out t2 h2 l2).past ((Turn.refl NoBlock _).alloc (.cells #[.int .i64 eo, .int .i64 ek, .int .i64 er] 76))); have hO : (w2.alloc (.cells #[.int .i64 eo, .int .i64 ek, .int .i64 er] 76)).ownsRow 0 76 3 (.slice pv n cv) n (entsOf es) := (by have := K2.out.ents; unfold REnts at this; rw [HN.out] at this; exact this); clear h2 t2 l2)
            | (at_builtin; refine wpList_append_lies _ rfl (.tmp 54) (.tmp 56) 28 rfl 0 76 i0 _ 3 24 slice28 hi hz0 hz1 hz2 rfl (by decide) (.slice pv n cv) n (entsOf es) rfl (World.ownsRow.alloc hO _) ⟨w2.heap.size + 1, 0, none⟩ 1 1 [.int .i64 eo, .int .i64 ek, .int .i64 er] rfl rfl (fun j u hu => World.news_of_block (by have := heap_alloc_new (w2.alloc (.cells #[.int .i64 eo, .int .i64 ek, .int .i64 er] 76)) (.cells #[.int .i64 eo, .int .i64 ek, .int .i64 er] 76); rw [World.size_alloc] at this; exact this) j u (by simpa using hu)) q2 (by decide) q3 q4 (Nat.zero_le _) (w2.heap.size + 2) (by simp) ?_; intro g3 c3 w3 hown hgrow hat hlt3; have P3 := rents_push (x := ⟨eo, ek, er⟩) HN.out hown hgrow (by rcases hat with h | h; exact .inl h; right; rw [World.size_alloc]; omega); have K3 := Lib.hid (RMInv.push K2.out P3.2.1 P3.1 P3.2.2); clear hown hgrow hat P3))
          go_roundg (k - (j + 1))
          case measure => omega
          case rel => exact ⟨j + 1, F2, rfl, by omega, by go_num, by rw [E1.out, E2.out]; exact K3.out⟩
        · obtain rfl : j = k := by omega
          have e := List.take_of_length_le (Nat.le_of_eq HZ.out.1)
          rw [e] at HR
          go_wp2
          go_ret2
          exact ⟨HY.out HEa.out _ _ _ _ HT0.out HR.out, trivial⟩

theorem rtake_yes {w : World} {a : Nat} {F : Nat → Prop} {L : List Pl} (h : RefAt w a F L) (p : Option Addr) (len cap : Nat) (zs : List Int) (hl : len ≤ 65536) (hz : NumsBy F w p len zs) (hB : eachB L zs = true) :
    Calls Try.prog 36 #[.pointer (some ⟨a, 0, none⟩), .slice p len cap] w fun e w' => ∃ v, e = .returned (.tuple #[v, .int .i64 0]) ∧ ∃ w1 F', Turn NoBlock w w1 ∧ RMInv w1 w' a F F' (manyL L zs) v (manyE L zs) :=
  (rtake_core h p len cap zs hl hz (fun e w' => ∃ v, e = .returned (.tuple #[v, .int .i64 0]) ∧ ∃ w1 F', Turn NoBlock w w1 ∧ RMInv w1 w' a F F' (manyL L zs) v (manyE L zs))
    (fun _ v w' w1 F' t hR => ⟨v, rfl, w1, F', t, hR⟩) (fun hb => by rw [hB] at hb; cases hb)).mono fun _ _ h => h.1
theorem rtake_no {w : World} {a : Nat} {F : Nat → Prop} {L : List Pl} (h : RefAt w a F L) (p : Option Addr) (len cap : Nat) (zs : List Int) (hl : len ≤ 65536) (hz : NumsBy F w p len zs) (hB : eachB L zs = false) :
    Calls Try.prog 36 #[.pointer (some ⟨a, 0, none⟩), .slice p len cap] w fun e w' => e = .returned (.tuple #[.slice none 0 0, .int .i64 (-11)]) ∧ Turn NoBlock w w' :=
  (rtake_core h p len cap zs hl hz (fun e w' => e = .returned (.tuple #[.slice none 0 0, .int .i64 (-11)]) ∧ Turn NoBlock w w')
    (fun hb => by rw [hB] at hb; cases hb) (fun _ w' t => ⟨rfl, t⟩)).mono fun _ _ h => h.1
end Go.Proofs.Ytacdhlhkpdlekaa
