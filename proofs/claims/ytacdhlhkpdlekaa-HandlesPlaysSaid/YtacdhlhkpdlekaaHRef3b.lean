/-
  The reference's Add where a place is laid anew; Add at any table. No conditions but that the table is one that calls can make.
-/
import Derived.Test.YtacdhlhkpdlekaaHRef3
import Derived.Test.YtacdhlhkpdlekaaHOps
namespace Go.Proofs.Ytacdhlhkpdlekaa
open Go.ChangeShapes Go.WideShapes Go.ChangeAt Go.RowKit

section
variable {w : World} {x cap : Nat} {va ea : Value} {R : List Pl}

set_option maxRecDepth 20000 in
set_option maxHeartbeats 2000000 in
theorem radd_new (h : RMem w x va ea cap (valsR R) (entsR R)) (ok : ROK cap R) (hf : (takenL R).length < cap) (m : Nat) (hm : m = R.length) (hmc : m < cap) (hne : ∀ (k : Nat) (p : Pl), k < m → R[k]? = some p → p.value ≠ 0) (e : Ent) (d : Int) :
    Calls Try.prog 31 #[.pointer (some ⟨x, 0, none⟩), e.agg, .int .i64 d] w fun y w' => y = .returned (.tuple #[.int .i64 (valS m d), .int .i64 0]) ∧
      ∃ va' ea', RMem w' x va' ea' cap (valsR ((R ++ [Pl.none]).set m ⟨valS m d, e⟩)) (entsR ((R ++ [Pl.none]).set m ⟨valS m d, e⟩)) ∧ Turn (RFoot x va ea) w w' ∧ ∀ j, RFoot x va' ea' j → RFoot x va ea j ∨ w.heap.size ≤ j := by
  obtain ⟨iv, hiv, hvz0, hvz1, hvz2⟩ := info_parts info3
  obtain ⟨ie, hie, hez0, hez1, hez2⟩ := info_parts info76
  obtain ⟨n, hn⟩ : ∃ n, R.length = n := ⟨_, rfl⟩
  have hvl : (valsR R).length = n := by rw [← hn]; simp [valsR]
  have hel : (entsR R).length = n := by rw [← hn]; simp [entsR]
  have hbox := heap_alloc_new w (.cells #[.int .i64 e.o, .int .i64 e.k, .int .i64 e.r] 76)
  have HLt := Lib.hid (fun j (hj : RFoot x va ea j) => h.lt hj)
  have hM := h.past ((Turn.refl NoBlock w).alloc (.cells #[.int .i64 e.o, .int .i64 e.k, .int .i64 e.r] 76))
  have htA : Turn NoBlock w (w.alloc (.cells #[.int .i64 e.o, .int .i64 e.k, .int .i64 e.r] 76)) := (Turn.refl NoBlock w).alloc _
  have hc : ∀ n, Calls Try.prog 47 #[.pointer (some ⟨x, 0, none⟩)] ((w.alloc (.cells #[.int .i64 e.o, .int .i64 e.k, .int .i64 e.r] 76)).drewN n) fun y w' => y = .returned (.int .i64 (takenL R).length) ∧ ((w.alloc (.cells #[.int .i64 e.o, .int .i64 e.k, .int .i64 e.r] 76)).drewN n) = w' :=
    fun n => rcount_mem (hM.past ((Turn.refl NoBlock _).drewN n)) ok
  have c2 := hM.c2
  have htop : (takenL R).length < cap ∧ cap ≤ 65536 ∧ n ≤ 65536 := by have := ok.len; have := ok.top; omega
  obtain ⟨ht1, ht2, ht3⟩ := htop
  generalize (takenL R).length = t at *
  obtain ⟨W, hW⟩ : ∃ W, w.alloc (.cells #[.int .i64 e.o, .int .i64 e.k, .int .i64 e.r] 76) = W := ⟨_, rfl⟩
  have HW := Lib.hid hW
  rw [hW] at hM hc hbox c2 htA
  have HC := Lib.hid hc
  have HM := Lib.hid (And.intro hM (And.intro hbox htA))
  have HN := Lib.hid (And.intro hn (And.intro hvl hel))
  have HR := Lib.hid hne
  rw [hn] at hm
  subst hm
  obtain ⟨pv, cv, hva⟩ := ints_slice hM.vals
  obtain ⟨pe, ce, hea⟩ := own_slice hM.ents
  rw [hvl] at hva
  rw [hel] at hea
  subst hva hea
  have q2 : ∀ u ∈ [Value.int .i64 0], u.oneCell' = true := by
    intro u hu
    simp at hu
    subst hu
    rfl
  have q2e : ∀ u ∈ [Value.int .i64 0, .int .i64 0, .int .i64 0], u.oneCell' = true := by
    intro u hu
    simp at hu
    subst hu
    rfl
  have q3 : m + 1 ≤ maxLen := by unfold maxLen; omega
  have q4 : (m + 1) * 8 ≤ 140737488355328 := by omega
  have q5 : (m + 1) * 24 ≤ 140737488355328 := by omega
  unfold Ent.agg
  clear h ok hM hc hf hne hW hbox htA hvl hel hn
  go_enter Try.func31, Try.ntmps31
  go_wp2
  rw [HW.out]
  go_quiet (first | (go_at_call 47; with_reducible exact quiet_flip (HC.out _)))
  go_wp2
  have K1 := Lib.hid (And.intro (HM.out.1.past ((Turn.refl NoBlock W).drewN nq)) (And.intro (show (W.drewN nq).heap[w.heap.size]? = some (.cells #[.int .i64 e.o, .int .i64 e.k, .int .i64 e.r] 76 (0, 0)) from HM.out.2.1) (HM.out.2.2.drewN nq)))
  clear c2 HC HM
  generalize W.drewN nq = W1 at *
  have HWW := Lib.hid HW
  clear HW
  go_loopg [8] m (fun g c wr => ∃ k : Nat, k ≤ m ∧ g = m - k ∧ c = .int .i64 k ∧ wr = W1)
  case atStart => exact ⟨0, by omega, by omega, rfl, rfl⟩
  case round =>
    obtain ⟨k, hk, hgk, rfl, rfl⟩ := hrel
    have d0 := K1.out.1.c0
    have d1 := K1.out.1.c1
    by_cases hlt : k < m
    · obtain ⟨p, hp⟩ : ∃ p, R[k]? = some p := ⟨_, List.getElem?_eq_getElem (by rw [HN.out.1]; exact hlt)⟩
      obtain ⟨g, _, he, -, -, -, -, hcell, hfz⟩ := K1.out.1.valAt (k := k) (by rw [HN.out.2.1]; exact hlt)
      simp only [Value.slice.injEq] at he
      obtain ⟨rfl, -, -⟩ := he
      rw [valsR_getD hp] at hcell
      have HP := Lib.hid hp
      clear hp
      have hb : (p.value != 0) = true := by
        have := HR.out k p hlt HP.out
        simp [this]
      generalize p.value = pv at *
      go_wp2
      go_roundg (m - (k + 1))
      case measure => omega
      case rel => exact ⟨k + 1, by omega, by omega, by go_num, rfl⟩
    · obtain rfl : k = m := by omega
      have hso := K1.out.1.vals
      unfold Ints at hso
      rw [HN.out.2.1] at hso
      have d3 := K1.out.1.f
      have HMod := Lib.hid (fun w => mod_any d w)
      obtain ⟨B, hB⟩ : ∃ B, w.heap.size = B := ⟨_, rfl⟩
      rw [hB] at K1 ⊢
      have HB := Lib.hid hB
      clear hB
      obtain ⟨xs, hxs⟩ : ∃ xs, (valsR R).map (Value.int .i64) = xs := ⟨_, rfl⟩
      rw [hxs] at hso
      have HX := Lib.hid hxs
      clear hxs
      obtain ⟨ys, hys⟩ : ∃ ys, entsOf (entsR R) = ys := ⟨_, rfl⟩
      have HE := Lib.hid hys
      clear hys
      have hBw : B < wr.heap.size := lt_of_block K1.out.2.1
      go_wp2_with (first
        | (at_builtin; refine wpList_append_lies _ rfl (.tmp 46) (.tmp 47) 27 rfl 0 3 iv _ 1 8 slice27 hiv hvz0 hvz1 hvz2 rfl (by decide) (.slice pv k cv) k xs rfl (World.ownsRow.alloc hso _) ⟨wr.heap.size, 0, none⟩ 1 1 [.int .i64 0] rfl rfl (fun j u hu => World.news_of_block (heap_alloc_new wr _) j u (by simpa using hu)) q2 (by decide) q3 q4 (Nat.zero_le _) (wr.heap.size + 1) (by simp) ?_; intro g3 c3 w3 hown hgrow hat hlt3; rw [← HX.out] at hown; obtain ⟨f1, f2, f3, f4, f5⟩ := rgrow1 (w := w) K1.out.1 K1.out.2.2 HLt.out K1.out.2.1 (Nat.le_of_eq HB.out) HN.out.2.1 hown hgrow hat; have y0 := cell_at f1 0; have y1 := cell_at f1 1; have y2 := free_at f1; simp at y0 y1; have K2 := Lib.hid (And.intro f2 (And.intro f3 (And.intro f4 f5))); have hso2 := K2.out.1.ents; unfold REnts at hso2; rw [HN.out.2.2] at hso2; rw [HE.out] at hso2; clear hown hgrow hat f1 f2 f3 f4 f5)
        | (at_builtin; (refine wpList_append_lies _ rfl (.tmp 55) (.tmp 57) 28 rfl 0 76 ie _ 3 24 slice28 hie hez0 hez1 hez2 rfl (by decide) (.slice pe k ce) k ys rfl (World.ownsRow.alloc hso2 _) ⟨w3.heap.size, 0, none⟩ 1 1 [.int .i64 0, .int .i64 0, .int .i64 0] rfl rfl (fun j u hu => World.news_of_block (by have := heap_alloc_new (w3.setCell ⟨x, 0, none⟩ (.slice (some ⟨g3, 0, none⟩) (k + 1) c3)) (.cells #[.int .i64 0, .int .i64 0, .int .i64 0] 76); simpa using this) j u (by simpa using hu)) q2e (by decide) q3 q5 (Nat.zero_le _) (w3.heap.size + 1) (by simp) ?_; intro g4 c4 w4 hown hgrow hat hlt4; rw [← HE.out] at hown; obtain ⟨f1, f2, f3, f4, f5⟩ := rgrow2 (z := Ent.zero) K2.out.1 K2.out.2.2.1 (fun j hj => (K2.out.2.2.2.1 j hj).imp id (fun h => Nat.le_trans K1.out.2.2.size h)) K2.out.2.1 (fun hj => (K2.out.2.2.2.1 _ hj).elim (fun h => Nat.lt_irrefl _ (Nat.lt_of_lt_of_le (HLt.out _ h) (Nat.le_of_eq HB.out))) (fun h => Nat.lt_irrefl _ (Nat.lt_of_lt_of_le hBw h))) HN.out.2.2 hown hgrow (by rcases hat with h | h; exact .inl h; right; simpa using h); have z0 := cell_at f1 0; have z1 := cell_at f1 1; have z2 := free_at f1; simp at z0 z1; have K3 := Lib.hid (And.intro f2 (And.intro f3 (And.intro f4 (rgrow3 (B := B) hBw HB.out HLt.out K2.out.2.2.2.1 f5 K2.out.2.2.2.2)))); clear hown hgrow hat f1 f2 f3 f4 f5)))
      generalize w4.setCell ⟨x, 1, none⟩ (.slice (some ⟨g4, 0, none⟩) (k + 1) c4) = W5 at *
      have hV2 : valsR R ++ [0] = valsR (R ++ [Pl.none]) := by simp [valsR, Pl.none]
      have hE2 : entsR R ++ [Ent.zero] = entsR (R ++ [Pl.none]) := by simp [entsR, Pl.none]
      rw [hV2, hE2] at K3
      have hl2 : (R ++ [Pl.none]).length = k + 1 := by simp [HN.out.1]
      have hvl2 : (valsR (R ++ [Pl.none])).length = k + 1 := by simp [valsR, HN.out.1]
      have hel2 : (entsR (R ++ [Pl.none])).length = k + 1 := by simp [entsR, HN.out.1]
      have HN2 := Lib.hid (And.intro hl2 (And.intro hvl2 hel2))
      have d7 := K3.out.1.c0
      have d8 := K3.out.1.c1
      obtain ⟨gv, _, he, hcv1, hcv2, hxv, -, hcell, hfz⟩ := K3.out.1.valAt (k := k) (by rw [hvl2]; omega)
      simp only [Value.slice.injEq, Option.some.injEq, Addr.mk.injEq, and_true] at he
      obtain ⟨rfl, -, rfl⟩ := he
      obtain ⟨eo, heo⟩ : ∃ eo, (entsR (R ++ [Pl.none]))[k]? = some eo := ⟨_, List.getElem?_eq_getElem (by rw [hel2]; omega)⟩
      obtain ⟨ge, _, he, -, hce1, hce2, hxe, hve, e0, e1, e2, efz⟩ := K3.out.1.entAt heo
      simp only [Value.slice.injEq, Option.some.injEq, Addr.mk.injEq, and_true] at he
      obtain ⟨rfl, -, rfl⟩ := he
      have hvg : g3 ≠ g4 := fun h => hve (by simp [Value.ownBlock, h])
      rw [hvl2] at hcv1
      rw [hel2] at hce1
      have b0 := cell_at K3.out.2.1 0
      have b1 := cell_at K3.out.2.1 1
      have b2 := cell_at K3.out.2.1 2
      simp at b0 b1 b2
      have hbv : B ≠ g3 := fun h => K3.out.2.2.2.1 (.inr (.inl (by simp [Value.ownBlock, h])))
      have hbe : B ≠ g4 := fun h => K3.out.2.2.2.1 (.inr (.inr (by simp [Value.ownBlock, h])))
      have hbx : B ≠ x := fun h => K3.out.2.2.2.1 (.inl h)
      clear hV2 hE2 hl2 hvl2 hel2 heo hve y0 y1 y2 z0 z1 z2 d0 d1 d3 hso hso2
      have hi1 : (k : Int) < ((k + 1 : Nat) : Int) := by omega
      have hi2 : (k : Int) < (k : Int) + 1 := by omega
      have hi3 : (0 : Int) ≤ (k : Int) := by omega
      go_region_held3 (fun w' => w'.cell? ⟨x, 0, none⟩ = some (.slice (some ⟨g3, 0, none⟩) (k + 1) c3)) (first | exact d7 | exact cell_past d7 hxv)
        (first | (go_at_call 20; (with_reducible refine (HMod.out _).mono ?_); rintro e w2 ⟨rfl, rfl⟩))
      all_goals
        go_wp2
        go_region
        go_wp2
        go_ret2
        have P1 := RMem.putV (valS k d) K3.out.1 (k := k) (by rw [HN2.out.2.1]; omega)
        have P2 := RMem.putE e P1.1 (k := k) (by rw [HN2.out.2.2]; omega)
        rw [(setR (e := e)).1, (setR (z := valS k d)).2] at P2
        have hsv := K3.out.2.2.2.2 g3 (.inr (.inl rfl))
        have hse := K3.out.2.2.2.2 g4 (.inr (.inr rfl))
        have hBe := HB.out
        subst hBe
        have t1 := (K3.out.2.2.1.trans P1.2 (fun b h => by subst h; exact hsv)).trans P2.2 (fun b h => by subst h; exact hse)
        exact ⟨rfl, _, _, P2.1.past ((Turn.refl NoBlock _).drew.drew), t1.drew.drew, K3.out.2.2.2.2⟩

theorem radd_any {G : Nat → Prop} {L : List Pl} (h : RefAt w x G L) (e : Ent) (d : Int) :
    Calls Try.prog 31 #[.pointer (some ⟨x, 0, none⟩), e.agg, .int .i64 d] w fun y w' => y = .returned (.tuple #[.int .i64 (addV L d), .int .i64 (addS L)]) ∧
      ∃ G', RefAt w' x G' (addL L e d) ∧ Turn G w w' ∧ ∀ j, G' j → G j ∨ w.heap.size ≤ j := by
  obtain ⟨va, ea, cap, R, hM, ok, rfl, rfl⟩ := h
  have hlen := padL_len (cap := cap) ok.len
  unfold addV addS addL
  rw [hlen]
  by_cases hf : cap ≤ (takenL R).length
  · rw [rlow_full ok hf, if_neg (by omega), if_neg (by omega), if_neg (by omega)]
    refine (radd_full hM ok hf e d).mono ?_
    rintro y w' ⟨rfl, hT⟩
    exact ⟨rfl, _, ⟨_, _, cap, R, hM.past hT, ok, rfl, rfl⟩, hT.mono (fun _ h => h.elim), fun j hj => .inl hj⟩
  · obtain ⟨m, hlow, h1, h2, h3, h4⟩ := rlow_some ok (by omega)
    rw [hlow, if_pos h2, if_pos h2, if_pos h2]
    rcases Nat.lt_or_ge m R.length with hm | hm
    · refine (radd_old hM ok (by omega) m hm h3 h4 e d).mono ?_
      rintro y w' ⟨rfl, hR, hT⟩
      exact ⟨rfl, _, ⟨_, _, cap, _, hR, ok.set m _ (.inr ⟨d, rfl⟩), rfl, (padL_set _ hm).symm⟩, hT, fun j hj => .inl hj⟩
    · obtain rfl : m = R.length := by omega
      refine (radd_new hM ok (by omega) _ rfl h2 h3 e d).mono ?_
      rintro y w' ⟨rfl, va', ea', hR, hT, hs⟩
      exact ⟨rfl, _, ⟨_, _, cap, _, hR, (ok.push h2).set _ _ (.inr ⟨d, rfl⟩), rfl, (padL_push _ h2).symm⟩, hT, hs⟩
end
end Go.Proofs.Ytacdhlhkpdlekaa
