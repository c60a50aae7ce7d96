/-
  The reference's pool: what Alloc answers and what it makes of the frames. No conditions but that the pool is one that calls can make.
-/
import Derived.Test.YtgcjjgljllephaaPRef2
import Derived.Deep.RegionLaw
import Derived.RegionTactic
namespace Go.Proofs.Ytgcjjgljllephaa
open Go.ChangeShapes Go.WideShapes Go.ChangeAt Go.RowKit

theorem ints_s : Try.prog.underlying 28 = some (.slice 3) := by kernel_rfl
theorem bytess_s : Try.prog.underlying 27 = some (.slice 31) := by kernel_rfl
theorem infoB : (Try.prog.info? 31).map (fun i => (i.zero, i.size, i.bytes)) = some (some (.slice none 0 0), 1, 24) := by kernel_rfl
theorem byts_alloc (w : World) (Z : Array Value) (bs : List UInt8) (n : Nat) (hn : bs.length = n) (hl : n ≤ 4096) (hZ : Z.toList = bcells bs) : Byts (.slice (some ⟨w.heap.size, 0, none⟩) n n) bs (w.alloc (.cells Z 5)) := by
  unfold Byts
  have hz : Z.size = n := by rw [← Array.length_toList, hZ, bcells_len, hn]
  refine ⟨by rw [bcells_len]; omega, .inr ⟨w.heap.size, n, Z, by rw [hn], Nat.zero_le _, heap_alloc_new w _, by omega, by unfold maxLen; omega, by rw [hz]; omega, ?_⟩⟩
  rw [hZ, List.take_of_length_le (by rw [bcells_len]; omega)]
theorem zeros64 : ∃ Z : Array Value, (∀ w, Sem.run Try.prog (Instr.makeSlice 31 (.int .i64 64) (.int .i64 64)) w = .ok (.slice (some ⟨w.heap.size, 0, none⟩) 64 64) (w.alloc (.cells Z 5))) ∧ Z.toList = bcells blank :=
  ⟨Array.replicate 64 (.int .u8 0), fun w => by kernel_rfl, by simp [bcells, blank]⟩

/-- Where the lowest free place is. -/
structure Low (cap : Nat) (us : List Nat) (bs : List (List UInt8)) (f : Nat) : Prop where
  is : lowOf (padP cap (rP us bs)) = f
  le : f ≤ us.length
  lt : f < cap
  below : ∀ (j u : Nat), j < f → us[j]? = some u → u ≠ 0
  free : ∀ u : Nat, us[f]? = some u → u = 0
theorem low_ex {L : List Pg} {cap : Nat} (hlen : L.length = cap) (hu : usedN L < cap) : ∃ p ∈ L, isFree p = true := by
  rcases Classical.em (∃ p ∈ L, isFree p = true) with h | h
  · exact h
  · exfalso
    have : usedN L = L.length := by
      unfold usedN
      rw [List.filter_eq_self.2]
      intro p hp
      have h2 : ¬ isFree p = true := fun e => h ⟨p, hp, e⟩
      simpa [isFree] using h2
    omega
theorem low_of {cap : Nat} {us : List Nat} {bs : List (List UInt8)} (hl : us.length = bs.length) (hc : us.length ≤ cap) (hu : usedN (padP cap (rP us bs)) < cap) : ∃ f, Low cap us bs f := by
  have hlen : (padP cap (rP us bs)).length = cap := padP_len (by rw [rP_len hl]; exact hc)
  have hlt : lowOf (padP cap (rP us bs)) < cap := by
    have hw : lowOf (padP cap (rP us bs)) < (padP cap (rP us bs)).length := by
      unfold lowOf
      rw [List.findIdx_lt_length]
      exact low_ex hlen hu
    omega
  have hle : lowOf (padP cap (rP us bs)) ≤ us.length := by
    rcases Nat.lt_or_ge us.length (lowOf (padP cap (rP us bs))) with h | h
    · exfalso
      have h2 := List.not_of_lt_findIdx (p := isFree) (xs := padP cap (rP us bs)) h
      have h3 := padP_high (cap := cap) (ps := rP us bs) (k := us.length) (by rw [rP_len hl]; exact Nat.le_refl _) (by omega)
      obtain ⟨h4, h5⟩ := List.getElem?_eq_some_iff.1 h3
      rw [h5] at h2
      simp [isFree, Pg.none] at h2
    · exact h
  refine ⟨_, rfl, hle, hlt, fun j u hj hu2 => ?_, fun u hu2 => ?_⟩
  · obtain ⟨b, hb⟩ := get_some (show j < bs.length by omega)
    have h2 := List.not_of_lt_findIdx (p := isFree) (xs := padP cap (rP us bs)) hj
    have h3 : (padP cap (rP us bs))[j]? = some (rPg u b) := by rw [padP_low (by rw [rP_len hl]; omega)]; exact rP_at hu2 hb
    obtain ⟨h4, h5⟩ := List.getElem?_eq_some_iff.1 h3
    rw [h5] at h2
    simpa [isFree, rPg_users] using h2
  · have hlt2 := (List.getElem?_eq_some_iff.1 hu2).1
    obtain ⟨b, hb⟩ := get_some (show lowOf (padP cap (rP us bs)) < bs.length by omega)
    have h3 : (padP cap (rP us bs))[lowOf (padP cap (rP us bs))]? = some (rPg u b) := by rw [padP_low (by rw [rP_len hl]; omega)]; exact rP_at hu2 hb
    obtain ⟨h4, h5⟩ := List.getElem?_eq_some_iff.1 h3
    have h6 := List.findIdx_getElem (p := isFree) (xs := padP cap (rP us bs)) (w := h4)
    have h7 : isFree (padP cap (rP us bs))[lowOf (padP cap (rP us bs))] = true := h6
    rw [h5] at h7
    simpa [isFree, rPg_users] using h7
theorem low_none {cap : Nat} {us : List Nat} {bs : List (List UInt8)} (hl : us.length = bs.length) (hc : us.length ≤ cap) (hu : cap ≤ usedN (padP cap (rP us bs))) : lowOf (padP cap (rP us bs)) = cap := by
  have hlen : (padP cap (rP us bs)).length = cap := padP_len (by rw [rP_len hl]; exact hc)
  have h1 : lowOf (padP cap (rP us bs)) = (padP cap (rP us bs)).length := lowOf_not (fun j q hj h0 => by
    have : usedN (padP cap (rP us bs)) = (padP cap (rP us bs)).length := by
      have := List.length_filter_le (fun p : Pg => p.users != 0) (padP cap (rP us bs))
      unfold usedN at hu ⊢
      omega
    unfold usedN at this
    rw [List.length_filter_eq_length_iff] at this
    have h3 := this q (List.mem_of_getElem? hj)
    simp [h0] at h3)
  rw [h1, hlen]

theorem quiet_flip {P : Program} {f : FuncId} {args : Array Value} {w : World} {n : Nat} {v : Value}
    (h : Calls P f args (w.drewN n) fun e w' => e = .returned v ∧ w.drewN n = w') : Calls P f args (w.drewN n) fun e w'' => e = .returned v ∧ ∃ m, w'' = w.drewN m :=
  h.mono fun _ _ ⟨he, hm⟩ => ⟨he, n, hm.symm⟩

section
variable {w : World} {x cap : Nat} {vd vu : Value} {ds : List Value} {bs : List (List UInt8)} {us : List Nat}
/-- What Alloc's last two stores make of a pool that has the place. -/
def Laid (x cap f : Nat) (bs : List (List UInt8)) (us : List Nat) (F : Nat → Prop) (w w' : World) : Prop :=
  ∃ vd vu ds, RMem w' x vd vu cap ds (bs.set f blank) (us.set f 1) ∧ Turn F w w' ∧ ∀ j, RFoot x vd vu ds j → F j ∨ w.heap.size ≤ j

theorem laid_ends {f gu gd n : Nat} {W W1 : World} {vd0 vu0 vd2 vu2 : Value} {ds0 ds2 : List Value} {bs' : List (List UInt8)} {us' : List Nat} {Z : Array Value}
    (h : RMem W x vd2 vu2 cap ds2 bs' us' ∧ Turn (RFoot x vd0 vu0 ds0) w W ∧ ∀ j, RFoot x vd2 vu2 ds2 j → RFoot x vd0 vu0 ds0 j ∨ w.heap.size ≤ j)
    (h1 : Turn (fun j => j = gu) W W1 ∧ Blk vu2 gu)
    (h2 : RMem ((W1.setCell ⟨gd, f, none⟩ (.slice (some ⟨W1.heap.size, 0, none⟩) 64 64)).alloc (.cells Z 5)) x vd2 vu2 cap (ds2.set f (.slice (some ⟨W1.heap.size, 0, none⟩) 64 64)) (bs'.set f blank) (us'.set f 1)) (h3 : Blk vd2 gd) :
    Laid x cap f bs' us' (RFoot x vd0 vu0 ds0) w (((W1.setCell ⟨gd, f, none⟩ (.slice (some ⟨W1.heap.size, 0, none⟩) 64 64)).alloc (.cells Z 5)).drewN n) := by
  have s1 := h.2.1.size
  have s2 := h1.1.size
  have tt : Turn (fun j => j = gd) W1 (((W1.setCell ⟨gd, f, none⟩ (.slice (some ⟨W1.heap.size, 0, none⟩) 64 64)).alloc (.cells Z 5)).drewN n) :=
    (((Turn.refl (fun j => j = gd) W1).setCell (p := ⟨gd, f, none⟩) (.inl rfl) _).alloc _).drewN n
  refine ⟨vd2, vu2, _, h2.past ((Turn.refl _ _).drewN n), (h.2.1.trans h1.1 (fun j hj => ?_)).trans tt (fun j hj => ?_), fun j hj => ?_⟩
  · subst hj; exact h.2.2 _ (.inr (.inr (.inl h1.2)))
  · subst hj; exact h.2.2 _ (.inr (.inl h3))
  · rcases hj with hj | hj | hj | ⟨k, u, hu, hj⟩
    · exact h.2.2 _ (.inl hj)
    · exact h.2.2 _ (.inr (.inl hj))
    · exact h.2.2 _ (.inr (.inr (.inl hj)))
    · by_cases e : f = k
      · subst e
        have hlt := (List.getElem?_eq_some_iff.1 hu).1
        rw [List.length_set] at hlt
        rw [List.getElem?_set_self hlt] at hu
        simp at hu
        subst hu
        simp [Blk, Value.ownBlock] at hj
        right; omega
      · rw [List.getElem?_set_ne e] at hu
        exact h.2.2 _ (.inr (.inr (.inr ⟨k, u, hu, hj⟩)))

set_option maxRecDepth 100000 in
set_option maxHeartbeats 4000000 in
theorem ralloc_mem (h : RMem w x vd vu cap ds bs us) (hl : us.length = bs.length) (hc : us.length ≤ cap) (hcc : cap ≤ 65536) (q f : Nat) (hq : q < cap) (hf : f ≤ us.length) (hfc : f < cap) (bs' : List (List UInt8)) (us' : List Nat) (hyes : f < us.length → bs' = bs ∧ us' = us) (hno : f = us.length → bs' = bs ++ [[]] ∧ us' = us ++ [0])
    (hlo : ∀ (j u : Nat), j < f → us[j]? = some u → u ≠ 0) (hfr : ∀ u : Nat, us[f]? = some u → u = 0)
    (cU : ∀ j, Calls Try.prog 29 #[.pointer (some ⟨x, 0, none⟩)] (w.drewN j) fun e w' => e = .returned (.int .i64 q) ∧ w.drewN j = w') :
    Calls Try.prog 15 #[.pointer (some ⟨x, 0, none⟩)] w fun e w' => e = .returned (.tuple #[.int .i64 f, .int .i64 0]) ∧
      Laid x cap f bs' us' (RFoot x vd vu ds) w w' := by
  obtain ⟨iv, hi, hz0, hz1, hz2⟩ := info_parts info3
  obtain ⟨Z, hmk, hZ⟩ := zeros64
  obtain ⟨ib, hib, hy0, hy1, hy2⟩ := info_parts infoB
  have HZ := Lib.hid hZ
  have d0 := h.c0
  have d1 := h.c1
  have d2 := h.c2
  have f0 := h.f 0
  have f1 := h.f 1
  obtain ⟨p, c, hv⟩ := h.sliceU
  obtain ⟨pd, cd, hvd⟩ := h.sliceD
  have HM := Lib.hid h
  have HUs := Lib.hid (fun k (hk : k < us.length) => h.user hk)
  obtain ⟨n, hn⟩ : ∃ n, us.length = n := ⟨_, rfl⟩
  rw [hn] at hv hl hf hc HUs hyes hno
  have hdl : ds.length = n := by rw [h.len, ← hl]
  rw [hdl] at hvd
  rw [hv] at d1
  rw [hvd] at d0
  have HV := Lib.hid (And.intro hv (And.intro hvd (And.intro hn (And.intro hdl hl.symm))))
  have HLo := Lib.hid hlo
  have HYes := Lib.hid hyes
  have HNo := Lib.hid hno
  have hqd : decide ((cap : Int) ≤ (q : Int)) = false := by simp; omega
  have hqe : decide (cap ≤ q) = false := by simp; omega
  have HQ := Lib.hid hq
  have HFr := Lib.hid hfr
  have xlt := lt_of_block h.head
  clear h hv hvd hn hdl hl hlo hfr hZ hyes hno hq
  go_enter Try.func15, Try.ntmps15
  go_wp2
  go_quiet (first | (go_at_call 29; with_reducible exact quiet_flip (cU _)))
  go_wp2
  go_loopg [4] f (fun g s wr => ∃ (i m : Nat), i ≤ f ∧ g = f - i ∧ s = .int .i64 i ∧ w.drewN m = wr)
  case atStart => exact ⟨0, _, by omega, by omega, rfl, rfl⟩
  case round =>
    obtain ⟨i, m, hi2, hg, rfl, rfl⟩ := hrel
    by_cases hlt : i < f
    · obtain ⟨u, hu⟩ := get_some (show i < us.length by rw [HV.out.2.2.1]; omega)
      obtain ⟨gu, cu, he, -, g2, -, -⟩ := HUs.out i (by omega)
      rw [HV.out.1] at he
      simp only [Value.slice.injEq] at he
      obtain ⟨rfl, -, rfl⟩ := he
      have e : us.getD i 0 = u := by simp [List.getD, hu]
      have hup : (0 : Int) < u := by have := HLo.out i u hlt hu; omega
      rw [e] at g2
      clear hu e
      go_wp2
      go_roundg (f - (i + 1))
      case measure => omega
      case rel => exact ⟨i + 1, _, by omega, by omega, by go_num, rfl⟩
    · obtain rfl : f = i := by omega
      clear hlt hg hi2
      by_cases hfn : f < n
      · obtain ⟨u, hu⟩ := get_some (show f < us.length by rw [HV.out.2.2.1]; omega)
        obtain ⟨gu, cu, he, -, g2, -, -⟩ := HUs.out f hfn
        rw [HV.out.1] at he
        simp only [Value.slice.injEq] at he
        obtain ⟨rfl, -, rfl⟩ := he
        have e : us.getD f 0 = u := by simp [List.getD, hu]
        obtain rfl : u = 0 := HFr.out u hu
        rw [e] at g2
        clear hu e
        have hne : ((f : Int) == (n : Int)) = false := by simp; omega
        obtain ⟨eb, eu⟩ := HYes.out hfn
        subst eb
        subst eu
        go_upto_region 9 with fail
        obtain ⟨W, hW⟩ : ∃ W, W = w.drewN m := ⟨_, rfl⟩
        obtain ⟨vd2, vu2, ds2, KW, KL⟩ : ∃ vd2 vu2 ds2, Hid (RMem W x vd2 vu2 cap ds2 bs' us' ∧ Turn (RFoot x vd vu ds) w W ∧ ∀ j, RFoot x vd2 vu2 ds2 j → RFoot x vd vu ds j ∨ w.heap.size ≤ j) ∧ Hid (us'.length = n ∧ ds2.length = n ∧ bs'.length = n) :=
          ⟨vd, vu, ds, Lib.hid (by rw [hW]; exact ⟨HM.out.past ((Turn.refl _ _).drewN m), (Turn.refl _ _).drewN m, fun j hj => .inl hj⟩), Lib.hid HV.out.2.2⟩
        rw [← hW]
        clear hW g2 d0 d1 d2 f0 f1
        have hf2 : f < n := hfn
        have hkd : f < ds2.length := by rw [KL.out.2.1]; exact hf2
        obtain ⟨v0, hv0⟩ := get_some hkd
        obtain ⟨gu, cu, hvu, -, u1, u2, u3⟩ := KW.out.1.user (k := f) (by rw [KL.out.1]; exact hf2)
        have u4 : RMem (W.setCell ⟨gu, f, none⟩ (.int .i64 1)) x _ _ cap _ _ _ ∧ Turn (fun j => j = gu) W (W.setCell ⟨gu, f, none⟩ (.int .i64 1)) := u3 1
        have e1 := KW.out.1.c1
        rw [hvu, KL.out.1] at e1
        have K1 := Lib.hid (And.intro u4.1 (And.intro u4.2 (show Blk vu2 gu by unfold Blk; rw [hvu]; rfl)))
        clear u3 u4 hvu hkd
        go_upto_region 10 with fail
        obtain ⟨W1, hW1⟩ : ∃ W1, W1 = W.setCell ⟨gu, f, none⟩ (.int .i64 1) := ⟨_, rfl⟩
        rw [← hW1] at K1 ⊢
        clear u1 u2 e1 hW1
        have M1 := K1.out.1
        have xl := lt_of_block M1.head
        obtain ⟨gd, cd2, hvd2, -, b1, b2, b3⟩ := M1.bytes hv0
        have glt : gd < W1.heap.size := M1.lt (.inr (.inl (by unfold Blk; rw [hvd2]; rfl)))
        have e0 := M1.c0
        rw [hvd2, KL.out.2.1] at e0
        have b4 := b3 (W1.alloc (.cells Z 5)) (.slice (some ⟨W1.heap.size, 0, none⟩) 64 64) blank (M1.past ((Turn.refl _ _).alloc _)) (byts_alloc W1 Z blank 64 rfl (by decide) HZ.out) (fun j hj hr => by
          simp [Blk, Value.ownBlock] at hj
          have := M1.lt hr
          omega)
        rw [World.setCell_alloc_past _ _ _ _ glt] at b4
        have K2 := Lib.hid (And.intro b4.1 (And.intro ((Turn.refl NoBlock W1).alloc (.cells Z 5)) (show Blk vd2 gd by unfold Blk; rw [hvd2]; rfl)))
        clear b3 b4 hvd2 M1
        go_region
        all_goals
          go_wp2
          go_ret2
          refine ⟨rfl, laid_ends KW.out K1.out.2 K2.out.1 K2.out.2.2⟩
      · obtain rfl : f = n := by omega
        have HE := Lib.hid (HNo.out rfl)
        have he1 : ((f : Int) == (f : Int)) = true := by simp
        clear hfn
        have hfw : f ≤ 65536 := by omega
        have q3 : f + 1 ≤ maxLen := by unfold maxLen; omega
        have q4 : (f + 1) * 8 ≤ 140737488355328 := by omega
        have q5 : (f + 1) * 24 ≤ 140737488355328 := by omega
        go_upto_region 7 with fail
        obtain ⟨W0, hW0⟩ : ∃ W0, W0 = w.drewN m := ⟨_, rfl⟩
        rw [← hW0]
        have M0 : RMem W0 x vd vu cap ds bs us := by rw [hW0]; exact HM.out.past ((Turn.refl _ _).drewN m)
        have T0 := Lib.hid (show Turn NoBlock w W0 by rw [hW0]; exact (Turn.refl _ _).drewN m)
        clear hW0 d0 d1 d2 f0 f1
        have e1 := M0.c1
        have xl0 := lt_of_block M0.head
        have ff := M0.f 1
        rw [HV.out.1] at e1
        have hso := M0.users
        rw [HV.out.1, HV.out.2.2.1] at hso
        obtain ⟨xs, hxs⟩ : ∃ xs, natsOf us = xs := ⟨_, rfl⟩
        rw [hxs] at hso
        have KM := Lib.hid (And.intro M0 hxs)
        clear M0 hxs
        go_upto_region 8 with (at_builtin; refine wpList_append_lies _ rfl (.tmp 42) (.tmp 43) 28 rfl 0 3 iv _ 1 8 ints_s hi hz0 hz1 hz2 rfl (by decide) (.slice p f c) f xs rfl (World.ownsRow.alloc hso _) ⟨W0.heap.size, 0, none⟩ 1 1 [.int .i64 0] rfl rfl (fun j u hu => World.news_of_block (heap_alloc_new W0 _) j u (by simpa using hu)) (fun u hu => by simp at hu; subst hu; rfl) (by decide) q3 q4 (Nat.zero_le _) (W0.heap.size + 1) (by simp) ?_; intro g1 c1 w1 hown hgrow hat hlt1; obtain ⟨hA, hB, hC, hD⟩ := KM.out.1.growU (g := g1) (c := c1) (by rw [HV.out.2.2.1, KM.out.2]; exact hown) (by rw [HV.out.1]; exact hgrow) (by rw [HV.out.1]; exact hat); rw [HV.out.2.2.1] at hB hC hD; have k1 := cell_at hA 1; have k2 := free_at hA 1; simp at k1; have G1 := Lib.hid (And.intro hB (And.intro hC hD)); clear hown hgrow hat hA hB hC hD)
        obtain ⟨W1, hW1⟩ : ∃ W1, W1 = w1.setCell ⟨x, 1, none⟩ (.slice (some ⟨g1, 0, none⟩) (f + 1) c1) := ⟨_, rfl⟩
        rw [← hW1] at G1 ⊢
        clear hW1 k1 k2 e1 ff hso
        have M1 := G1.out.1
        have e0 := M1.c0
        have xl1 := lt_of_block M1.head
        have ff := M1.f 0
        rw [HV.out.2.1] at e0
        have hso := M1.data
        rw [HV.out.2.1, HV.out.2.2.2.1] at hso
        have KM1 := Lib.hid M1
        clear M1
        have hone : ∀ u ∈ [Value.slice none 0 0], u.oneCell' = true := fun u hu => by simp at hu; subst hu; rfl
        go_upto_region 9 with (at_builtin; refine wpList_append_lies _ rfl (.tmp 51) (.tmp 52) 27 rfl 0 31 ib _ 1 24 bytess_s hib hy0 hy1 hy2 rfl (by decide) (.slice pd f cd) f ds rfl (World.ownsRow.alloc hso _) ⟨W1.heap.size, 0, none⟩ 1 1 [.slice none 0 0] rfl rfl (fun j u hu => World.news_of_block (heap_alloc_new W1 _) j u (by simpa using hu)) hone (by decide) q3 q5 (Nat.zero_le _) (W1.heap.size + 1) (by simp) ?_; intro g2 c2 w2 hown hgrow hat hlt2; obtain ⟨hA, hB, hC, hD⟩ := KM1.out.growD (g := g2) (c := c2) (by rw [HV.out.2.2.2.1]; exact hown) (by rw [HV.out.2.1]; exact hgrow) (by rw [HV.out.2.1]; exact hat); rw [HV.out.2.2.2.1] at hB hC hD; have k1 := cell_at hA 0; have k2 := free_at hA 0; simp at k1; have G2 := Lib.hid (And.intro hB (And.intro hC hD)); clear hown hgrow hat hA hB hC hD)
        obtain ⟨W, hW⟩ : ∃ W, W = w2.setCell ⟨x, 0, none⟩ (.slice (some ⟨g2, 0, none⟩) (f + 1) c2) := ⟨_, rfl⟩
        rw [← hW] at G2 ⊢
        clear hW k1 k2 e0 ff hso hone
        obtain ⟨n2, hn2⟩ : ∃ n2, f + 1 = n2 := ⟨_, rfl⟩
        obtain ⟨vd2, vu2, ds2, KW, KL⟩ : ∃ vd2 vu2 ds2, Hid (RMem W x vd2 vu2 cap ds2 bs' us' ∧ Turn (RFoot x vd vu ds) w W ∧ ∀ j, RFoot x vd2 vu2 ds2 j → RFoot x vd vu ds j ∨ w.heap.size ≤ j) ∧ Hid (us'.length = n2 ∧ ds2.length = n2 ∧ bs'.length = n2) := by
          obtain ⟨a1, a2, a3⟩ := G1.out
          obtain ⟨b1, b2, b3⟩ := G2.out
          have s0 := T0.out.size
          have s1 := a2.size
          refine ⟨_, _, _, Lib.hid ⟨by rw [HE.out.1, HE.out.2]; exact b1, (((T0.out.mono (fun _ h => h.elim)).trans a2 (fun j hj => .inl hj)).trans b2 (fun j hj => ?_)), fun j hj => ?_⟩, Lib.hid ⟨?_, ?_, ?_⟩⟩
          · rcases a3 j hj with h1 | h1
            · exact .inl h1
            · right; omega
          · rcases b3 j hj with h1 | h1
            · rcases a3 j h1 with h2 | h2
              · exact .inl h2
              · right; omega
            · right; omega
          · rw [HE.out.2, List.length_append, HV.out.2.2.1]; exact hn2
          · rw [List.length_append, HV.out.2.2.2.1]; exact hn2
          · rw [HE.out.1, List.length_append, HV.out.2.2.2.2]; exact hn2
        have hf2 : f < n2 := by omega
        clear hn2 q3 q4 q5
        have hkd : f < ds2.length := by rw [KL.out.2.1]; exact hf2
        obtain ⟨v0, hv0⟩ := get_some hkd
        obtain ⟨gu, cu, hvu, -, u1, u2, u3⟩ := KW.out.1.user (k := f) (by rw [KL.out.1]; exact hf2)
        have u4 : RMem (W.setCell ⟨gu, f, none⟩ (.int .i64 1)) x _ _ cap _ _ _ ∧ Turn (fun j => j = gu) W (W.setCell ⟨gu, f, none⟩ (.int .i64 1)) := u3 1
        have e1 := KW.out.1.c1
        rw [hvu, KL.out.1] at e1
        have K1 := Lib.hid (And.intro u4.1 (And.intro u4.2 (show Blk vu2 gu by unfold Blk; rw [hvu]; rfl)))
        clear u3 u4 hvu hkd
        go_upto_region 10 with fail
        obtain ⟨W1, hW1⟩ : ∃ W1, W1 = W.setCell ⟨gu, f, none⟩ (.int .i64 1) := ⟨_, rfl⟩
        rw [← hW1] at K1 ⊢
        clear u1 u2 e1 hW1
        have M1 := K1.out.1
        have xl := lt_of_block M1.head
        obtain ⟨gd, cd2, hvd2, -, b1, b2, b3⟩ := M1.bytes hv0
        have glt : gd < W1.heap.size := M1.lt (.inr (.inl (by unfold Blk; rw [hvd2]; rfl)))
        have e0 := M1.c0
        rw [hvd2, KL.out.2.1] at e0
        have b4 := b3 (W1.alloc (.cells Z 5)) (.slice (some ⟨W1.heap.size, 0, none⟩) 64 64) blank (M1.past ((Turn.refl _ _).alloc _)) (byts_alloc W1 Z blank 64 rfl (by decide) HZ.out) (fun j hj hr => by
          simp [Blk, Value.ownBlock] at hj
          have := M1.lt hr
          omega)
        rw [World.setCell_alloc_past _ _ _ _ glt] at b4
        have K2 := Lib.hid (And.intro b4.1 (And.intro ((Turn.refl NoBlock W1).alloc (.cells Z 5)) (show Blk vd2 gd by unfold Blk; rw [hvd2]; rfl)))
        clear b3 b4 hvd2 M1
        go_region
        all_goals
          go_wp2
          go_ret2
          refine ⟨rfl, laid_ends KW.out K1.out.2 K2.out.1 K2.out.2.2⟩
end

theorem rP_push {us : List Nat} {bs : List (List UInt8)} (h : us.length = bs.length) (u : Nat) (b : List UInt8) : rP (us ++ [u]) (bs ++ [b]) = rP us bs ++ [rPg u b] := by
  unfold rP
  rw [List.zipWith_append h]; rfl

theorem ralloc_any {w : World} {x : Nat} {F : Nat → Prop} {L : List Pg} (h : RefAt w x F L) :
    Calls Try.prog 15 #[.pointer (some ⟨x, 0, none⟩)] w fun e w' => e = .returned (.tuple #[.int .i64 (allocV L), .int .i64 (allocS L)]) ∧
      ∃ F', RefAt w' x F' (allocL L) ∧ Turn F w w' ∧ ∀ j, F' j → F j ∨ w.heap.size ≤ j := by
  have cU : ∀ j, Calls Try.prog 29 #[.pointer (some ⟨x, 0, none⟩)] (w.drewN j) fun e w' => e = .returned (.int .i64 (usedN L)) ∧ w.drewN j = w' := fun j => rused_any (h.past ((Turn.refl _ w).drewN j))
  obtain ⟨vd, vu, cap, ds, bs, us, hM, ⟨hl, hlc, hc, hb⟩, rfl, rfl⟩ := h
  have hlen : (padP cap (rP us bs)).length = cap := padP_len (by rw [rP_len hl]; exact hlc)
  have hul := used_len (padP cap (rP us bs))
  rcases Nat.lt_or_ge (usedN (padP cap (rP us bs))) cap with hu | hu
  · obtain ⟨f, hL⟩ := low_of hl hlc hu
    unfold allocV allocS allocL
    rw [hL.is, hlen, if_pos hL.lt, if_pos hL.lt, if_pos hL.lt]
    obtain ⟨bs', us', y1, y2, hup⟩ : ∃ bs' us', (f < us.length → bs' = bs ∧ us' = us) ∧ (f = us.length → bs' = bs ++ [[]] ∧ us' = us ++ [0]) ∧
        (us'.length = bs'.length ∧ us'.length ≤ cap ∧ f < us'.length ∧ padP cap (rP (us'.set f 1) (bs'.set f blank)) = (padP cap (rP us bs)).set f ⟨1, blank⟩ ∧ ∀ b ∈ bs'.set f blank, b.length = 64) := by
      rcases Nat.lt_or_ge f us.length with hf | hf
      · refine ⟨bs, us, fun _ => ⟨rfl, rfl⟩, fun e => by omega, hl, hlc, hf, ?_, fun b hbb => ?_⟩
        · rw [rPg_set hl hf, padP_set _ (by rw [rP_len hl]; exact hf)]; rfl
        · rcases List.mem_or_eq_of_mem_set hbb with h1 | h1
          · exact hb b h1
          · rw [h1]; rfl
      · obtain rfl : f = us.length := by have := hL.le; omega
        have hlt := hL.lt
        refine ⟨bs ++ [[]], us ++ [0], fun e => by omega, fun _ => ⟨rfl, rfl⟩, by simp [hl], by simp; omega, by simp, ?_, fun b hbb => ?_⟩
        · rw [rPg_set (by simp [hl]) (by simp), rP_push hl]
          have e : rPg 0 [] = Pg.none := rfl
          have e2 := padP_push (cap := cap) (ps := rP us bs) (rPg 1 blank) (by rw [rP_len hl]; exact hlt)
          rw [rP_len hl] at e2
          rw [e, e2]; rfl
        · rcases List.mem_or_eq_of_mem_set hbb with h1 | h1
          · rcases List.mem_append.1 h1 with h2 | h2
            · exact hb b h2
            · exfalso
              simp at h2
              subst h2
              rw [hl, List.set_append_right _ _ (Nat.le_refl _)] at hbb
              simp at hbb
              rcases hbb with h3 | h3
              · have := hb _ h3; simp at this
              · simp [blank] at h3
          · rw [h1]; rfl
    refine (ralloc_mem hM hl hlc hc (usedN (padP cap (rP us bs))) f hu hL.le hL.lt bs' us' y1 y2 hL.below hL.free cU).mono fun e w' hh => ⟨hh.1, ?_⟩
    obtain ⟨vd2, vu2, ds2, h2, h3, h4⟩ := hh.2
    obtain ⟨u1, u2, u3, u4, u5⟩ := hup
    exact ⟨_, ⟨vd2, vu2, cap, ds2, _, _, h2, ⟨by simpa using u1, by simpa using u2, hc, u5⟩, rfl, u4.symm⟩, h3, h4⟩
  · have hlo := low_none hl hlc hu
    unfold allocV allocS allocL
    rw [hlo, hlen, if_neg (by omega), if_neg (by omega), if_neg (by omega)]
    have HR := Lib.hid (show ∀ m, RefAt (w.drewN m) x (RFoot x vd vu ds) (padP cap (rP us bs)) from fun m => ⟨vd, vu, cap, ds, bs, us, hM.past ((Turn.refl _ _).drewN m), ⟨hl, hlc, hc, hb⟩, rfl, rfl⟩)
    have d2 := hM.c2
    generalize usedN (padP cap (rP us bs)) = q at *
    have hqd : decide ((cap : Int) ≤ (q : Int)) = true := by simp; omega
    have hqe : decide (cap ≤ q) = true := by simp; omega
    clear hM hb hl hlc hlen hul hlo hu
    go_enter Try.func15, Try.ntmps15
    go_wp2
    go_quiet (first | (go_at_call 29; with_reducible exact quiet_flip (cU _)))
    go_wp2
    go_ret2
    exact ⟨rfl, _, HR.out _, (Turn.refl _ _).drewN _, fun j hj => .inl hj⟩
end Go.Proofs.Ytgcjjgljllephaa
