/-
  The reference's pool: what Own answers and what it makes of the frames. No conditions but that the pool is one that calls can make.
-/
import Derived.Test.YtgcjjgljllephaaPRef5
namespace Go.Proofs.Ytgcjjgljllephaa
open Go.ChangeShapes Go.WideShapes Go.ChangeAt Go.RowKit

/-- A frame that was taken is given another one's bytes. -/
structure ROwn (w : World) (x : Nat) (L : List Pg) (j k u : Nat) (b : List UInt8) (vk vj vd vu : Value) (cap : Nat) (ds : List Value) (bs : List (List UInt8)) (us : List Nat) : Prop where
  mem : RMem w x vd vu cap ds bs us
  ok : us.length = bs.length ∧ us.length ≤ cap ∧ cap ≤ 65536 ∧ ∀ b ∈ bs, b.length = 64
  is : padP cap (rP us bs) = L.set j ⟨1, blank⟩
  uk : us[k]? = some u
  bk : bs[k]? = some b
  dk : ds[k]? = some vk
  uj : us[j]? = some 1
  dj : ds[j]? = some vj
  size : b.length = 64
theorem own_open {w : World} {x j k u : Nat} {F : Nat → Prop} {L : List Pg} {b : List UInt8} (h : RefAt w x F (L.set j ⟨1, blank⟩)) (hj : j < L.length) (hk : L[k]? = some ⟨u, b⟩) (hu : u ≠ 0) (hne : k ≠ j) :
    ∃ vk vj vd vu cap ds bs us, ROwn w x L j k u b vk vj vd vu cap ds bs us ∧ F = RFoot x vd vu ds := by
  obtain ⟨vd, vu, cap, ds, bs, us, hM, hok, hF, hL⟩ := h
  have h1 : (padP cap (rP us bs))[k]? = some ⟨u, b⟩ := by rw [← hL, List.getElem?_set_ne (fun e => hne e.symm)]; exact hk
  have h2 : (padP cap (rP us bs))[j]? = some ⟨1, blank⟩ := by rw [← hL, List.getElem?_set_self hj]
  obtain ⟨u1, b1, e1, e2, e3⟩ := rP_inv (pad_used h1 hu)
  obtain ⟨u2, b2, e4, e5, e6⟩ := rP_inv (pad_used h2 (by decide))
  have hu1 : u1 = u := by have := congrArg Pg.users e3; rw [rPg_users] at this; exact this.symm
  have hu2 : u2 = 1 := by have := congrArg Pg.users e6; rw [rPg_users] at this; exact this.symm
  subst hu1; subst hu2
  have hb : b1 = b := by unfold rPg at e3; rw [if_neg hu] at e3; simp at e3; exact e3.symm
  subst hb
  obtain ⟨vk, hvk⟩ := get_some (show k < ds.length by rw [hM.len]; exact (List.getElem?_eq_some_iff.1 e2).1)
  obtain ⟨vj, hvj⟩ := get_some (show j < ds.length by rw [hM.len]; exact (List.getElem?_eq_some_iff.1 e5).1)
  exact ⟨vk, vj, vd, vu, cap, ds, bs, us, ⟨hM, hok, hL.symm, e1, e2, hvk, e4, hvj, hok.2.2.2 _ (List.mem_of_getElem? e2)⟩, hF⟩
theorem ROwn.done {w : World} {x j k u : Nat} {L : List Pg} {b : List UInt8} {vk vj vd vu v' : Value} {cap : Nat} {ds : List Value} {bs : List (List UInt8)} {us : List Nat} (h : ROwn w x L j k (u + 1) b vk vj vd vu cap ds bs us) {W : World} (hne : k ≠ j) (hu : u ≠ 0)
    (hW : RMem W x vd vu cap (ds.set j v') (bs.set j b) (us.set k u)) : RefAt W x (RFoot x vd vu (ds.set j v')) ((L.set j ⟨1, b⟩).set k ⟨u, b⟩) := by
  obtain ⟨o1, o2, o3, o4⟩ := h.ok
  have kl := (List.getElem?_eq_some_iff.1 h.uk).1
  have jl := (List.getElem?_eq_some_iff.1 h.uj).1
  refine ⟨vd, vu, cap, _, _, _, hW, ⟨by simpa using o1, by simpa using o2, o3, fun b' hb' => ?_⟩, rfl, ?_⟩
  · rcases List.mem_or_eq_of_mem_set hb' with h1 | h1
    · exact o4 b' h1
    · rw [h1]; exact h.size
  · have e1 := rPg_set (u := 1) (b := b) o1 jl
    have hus : us.set j 1 = us := by
      apply List.ext_getElem?
      intro i
      by_cases e : j = i
      · subst e; rw [List.getElem?_set_self jl, h.uj]
      · rw [List.getElem?_set_ne e]
    rw [hus] at e1
    have hl1 : us.length = (bs.set j b).length := by simpa using o1
    have e2 := rPg_set (u := u) (b := b) hl1 kl
    have hbs : (bs.set j b).set k b = bs.set j b := by
      apply List.ext_getElem?
      intro i
      by_cases e : k = i
      · subst e; rw [List.getElem?_set_self (by rw [List.length_set]; omega), List.getElem?_set_ne (fun e => hne e.symm), h.bk]
      · rw [List.getElem?_set_ne e]
    rw [hbs, e1] at e2
    rw [e2, padP_set _ (by rw [List.length_set, rP_len o1]; exact kl), padP_set _ (by rw [rP_len o1]; exact jl), h.is, List.set_set]
    unfold rPg
    rw [if_neg hu]; rfl

theorem RMem.dfree {w : World} {x cap g c : Nat} {vd vu : Value} {ds : List Value} {bs : List (List UInt8)} {us : List Nat} (h : RMem w x vd vu cap ds bs us) (hv : vd = .slice (some ⟨g, 0, none⟩) ds.length c) (j : Nat) : w.frozen? ⟨g, j, none⟩ = false := by
  have hso := h.data
  rw [hv] at hso
  exact hso.frozenAt j

set_option maxRecDepth 20000 in
set_option maxHeartbeats 4000000 in
theorem rown_more {w : World} {x : Nat} {F : Nat → Prop} {L : List Pg} (h : RefAt w x F L) (k u : Nat) (b : List UInt8) (hk : L[k]? = some ⟨u + 1, b⟩) (hu : u ≠ 0) (hm : u < 4611686018427387904) (hl : lowOf L < L.length) :
    Calls Try.prog 20 #[.pointer (some ⟨x, 0, none⟩), .int .i64 k] w fun e w' => e = .returned (.tuple #[.int .i64 (lowOf L), .int .i64 0]) ∧ ∃ F', RefAt w' x F' ((L.set (lowOf L) ⟨1, b⟩).set k ⟨u, b⟩) ∧ Turn F w w' ∧ ∀ i, F' i → F i ∨ w.heap.size ≤ i := by
  have c1 := rhas_any h k
  have hg : pgAt L k = ⟨u + 1, b⟩ := by
    rw [pgAt_nat]; simp [List.getD, hk]
  have hd : decide (usersL L (k : Int) ≠ 0) = true := by unfold usersL; rw [hg]; simp
  rw [hd] at c1
  have c2 := ralloc_any h
  unfold allocV allocS allocL at c2
  rw [if_pos hl, if_pos hl, if_pos hl] at c2
  obtain ⟨k', u', b', v0, vd, vu, cap, ds, bs, us, hk', hu', hR⟩ := h.frame k (by unfold usersL; rw [hg]; simp)
  have hkk : k' = k := by omega
  subst hkk
  have hpg := hR.pg
  rw [hg] at hpg
  simp at hpg
  obtain ⟨hp1, hp2⟩ := hpg
  subst hp1; subst hp2
  obtain ⟨g, N, c, s1, s2, s3, s4, s5, s6, -⟩ := hR.store
  have hne : k' ≠ lowOf L := fun e => by
    have := List.findIdx_getElem (p := isFree) (xs := L) (w := hl)
    have h3 : isFree (L[lowOf L]'hl) = true := this
    have h4 := (List.getElem?_eq_some_iff.1 hk).2
    subst e
    rw [h4] at h3
    simp [isFree] at h3
  obtain ⟨j, hj⟩ : ∃ j, lowOf L = j := ⟨_, rfl⟩
  rw [hj] at c2 hl hne ⊢
  have HH := Lib.hid (And.intro hl (And.intro hk hne))
  have hs4 : ((u + 1 : Nat) : Int) = (u : Int) + 1 := by omega
  rw [hs4] at s4
  have hub : ((u : Int) + 1 == 1) = false := by simp; omega
  have hww := wrap_nat u (by omega)
  have HU := Lib.hid (And.intro hu hm)
  have HF := Lib.hid hR.foot
  clear h hk hu hl hne hg hd hR hj hu' hs4
  go_enter Try.func20, Try.ntmps20
  go_upto_region 8 with (first
    | (go_at_call 16; (with_reducible refine c1.mono ?_); rintro e w' ⟨rfl, rfl⟩)
    | (go_at_call 15; (with_reducible refine c2.mono ?_); rintro e w1 ⟨rfl, F1, h1, t1, l1⟩; have K1 := Lib.hid (And.intro h1 (And.intro t1 l1)); clear h1 t1 l1))
  obtain ⟨vk, vj, vd1, vu1, cap1, ds1, bs1, us1, hO, hF1⟩ := own_open K1.out.1 HH.out.1 HH.out.2.1 (by omega) HH.out.2.2
  clear s1 s2 s3 s4 s5 s6
  have HO := Lib.hid (And.intro hO hF1)
  have e0 := hO.mem.c0
  have xl := lt_of_block hO.mem.head
  obtain ⟨gd, cd, hvd, hxgd, d2, d3, -⟩ := hO.mem.bytes hO.dk
  obtain ⟨gd', cd', hvd', -, d2', -, d5⟩ := hO.mem.bytes hO.dj
  rw [hvd] at hvd'
  simp only [Value.slice.injEq, Option.some.injEq, Addr.mk.injEq, true_and, and_true] at hvd'
  obtain ⟨rfl, rfl⟩ := hvd'
  have gl : gd < w1.heap.size := hO.mem.lt (.inr (.inl (by unfold Blk; rw [hvd]; rfl)))
  rw [hvd] at e0
  have hkd := (List.getElem?_eq_some_iff.1 hO.dk).1
  have hjd := (List.getElem?_eq_some_iff.1 hO.dj).1
  obtain ⟨N2, hN2⟩ : ∃ N2, ds1.length = N2 := ⟨_, rfl⟩
  rw [hN2] at e0 hkd hjd
  have HB := Lib.hid (fun w' (t : Turn NoBlock w1 w') => rcopy_any vk b ((hO.mem.past t).each k' vk b hO.dk hO.bk).src (by rw [hO.size]; decide))
  have HD := Lib.hid (And.intro hvd d5)
  clear hO hF1 hvd d5 hN2
  have hjk := HH.out.2.2
  have HX1 : (⟨gd, j, none⟩ : Addr) ≠ ⟨x, 0, none⟩ := fun h => hxgd (by cases h; rfl)
  have HX2 : (⟨gd, j, none⟩ : Addr) ≠ ⟨gd, k', none⟩ := fun h => hjk (by cases h; rfl)
  have D0 : ∀ m, (w1.drewN m).cell? ⟨x, 0, none⟩ = some (.slice (some ⟨gd, 0, none⟩) N2 cd) := fun m => e0
  have D1 : ∀ m, (w1.drewN m).cell? ⟨gd, k', none⟩ = some vk := fun m => d2
  have D2 : ∀ m, (w1.drewN m).cell? ⟨gd, j, none⟩ = some vj := fun m => d2'
  have D3 : ∀ m, Turn (fun i => i = gd) w1 (w1.drewN m) := fun m => (Turn.refl _ _).drewN m
  have D4 : Turn NoBlock w1 w1.drew := (Turn.refl _ _).drew
  have D5 : ∀ m, Turn NoBlock w1 (w1.drewN m) := fun m => (Turn.refl _ _).drewN m
  go_region_held3 (fun w' => w'.cell? ⟨x, 0, none⟩ = some (.slice (some ⟨gd, 0, none⟩) N2 cd) ∧ w'.cell? ⟨gd, k', none⟩ = some vk ∧ Turn (fun i => i = gd) w1 w')
    ((first | exact ⟨E8, E9, T8⟩ | (refine ⟨?_, ?_, ?_⟩ <;> (first | assumption | exact D0 1 | exact D1 1 | exact D3 1 | exact D0 _ | exact D1 _ | exact D3 _))))
    (first
      | (go_at_call 24; (with_reducible refine (HB.out _ (by first | exact D4 | exact D5 _)).mono ?_); rintro e w5 ⟨v5, rfl, B5, f5, T5⟩; obtain ⟨p5, c5, hv5⟩ := own_slice B5; rw [HO.out.1.size] at hv5; subst hv5; have T6 : Turn NoBlock w1 w5 := Turn.trans (by first | exact D4 | exact D5 _) T5 (fun _ h => .inl h); have E0 := T6.cell e0 (fun h => h); have E1 := T6.cell d2 (fun h => h); have E2 := T6.cell d2' (fun h => h); have S5 := T5.size; have T7 : Turn (fun i => i = gd) w1 w5 := T6.mono (fun _ h => h.elim); have T8 : Turn (fun i => i = gd) w1 (w5.setCell ⟨gd, j, none⟩ (.slice p5 64 c5)) := T7.setCell (p := ⟨gd, j, none⟩) (.inl rfl) _; have E8 : (w5.setCell ⟨gd, j, none⟩ (.slice p5 64 c5)).cell? ⟨x, 0, none⟩ = some (.slice (some ⟨gd, 0, none⟩) N2 cd) := (World.cell?_setCell_other _ _ _ _ HX1).trans E0; have E9 : (w5.setCell ⟨gd, j, none⟩ (.slice p5 64 c5)).cell? ⟨gd, k', none⟩ = some vk := (World.cell?_setCell_other _ _ _ _ HX2).trans E1; have F5 := (HO.out.1.mem.past T6).dfree HD.out.1; have K5 := Lib.hid (And.intro B5 (And.intro f5 T6)); clear B5 f5 T5))
  have M3 : RMem (w5.setCell ⟨gd, j, none⟩ (.slice p5 64 c5)) x vd1 vu1 cap1 (ds1.set j (.slice p5 64 c5)) (bs1.set j b) us1 := by
    have f6 : ∀ i, Blk (.slice p5 64 c5) i → w1.heap.size ≤ i := K5.out.2.1
    exact (HD.out.2 w5 _ b (HO.out.1.mem.past T6) K5.out.1 (fun i hi hf => by
      have := f6 i hi
      have := HO.out.1.mem.lt hf
      omega)).1
  obtain ⟨W3, hW3⟩ : ∃ W3, W3 = w5.setCell ⟨gd, j, none⟩ (.slice p5 64 c5) := ⟨_, rfl⟩
  rw [← hW3] at M3 ⊢
  have T3 : Turn (fun i => i = gd) w1 W3 := by rw [hW3]; exact T8
  have hkl : k' < us1.length := (List.getElem?_eq_some_iff.1 HO.out.1.uk).1
  obtain ⟨gu, cu, hvu, hxu, u1, u2, u3⟩ := M3.user hkl
  have e1 := M3.c1
  rw [hvu] at e1
  have eu : us1.getD k' 0 = u + 1 := by simp [List.getD, HO.out.1.uk]
  rw [eu] at u1
  obtain ⟨N3, hN3⟩ : ∃ N3, us1.length = N3 := ⟨_, rfl⟩
  rw [hN3] at e1 hkl
  have u1' : W3.cell? ⟨gu, k', none⟩ = some (.int .i64 ((u : Int) + 1)) := by rw [u1]; congr 1
  have xl3 := lt_of_block M3.head
  have K3 := Lib.hid (And.intro (u3 u) (And.intro T3 (show Blk vu1 gu by unfold Blk; rw [hvu]; rfl)))
  have K4 := Lib.hid (show ∀ i, Blk (.slice p5 64 c5) i → w1.heap.size ≤ i from K5.out.2.1)
  clear hW3 M3 hvu u3 u1 eu T3 T6 T7 T8 E0 E1 E2 E8 E9 S5 F5 e0 d2 d2' d3 D0 D1 D2 D3 D4 D5 HX1 HX2 hxgd hjk gl xl hN3 hkd hjd K5
  go_wp2
  go_ret2
  obtain ⟨a1, a2, a3⟩ := K1.out
  have s1 := a2.size
  have hf1 : ∀ i, RFoot x vd1 vu1 ds1 i → F i ∨ w.heap.size ≤ i := fun i hi => a3 i (by rw [HO.out.2]; exact hi)
  have hbd : Blk vd1 gd := by unfold Blk; rw [HD.out.1]; rfl
  refine ⟨rfl, _, HO.out.1.done HH.out.2.2 HU.out.1 K3.out.1.1, (a2.trans K3.out.2.1 (fun i hi => by subst hi; exact hf1 _ (.inr (.inl hbd)))).trans K3.out.1.2 (fun i hi => by subst hi; exact hf1 _ (.inr (.inr (.inl K3.out.2.2)))), fun i hi => ?_⟩
  rcases hi with hi | hi | hi | ⟨q, v, hv, hi⟩
  · exact hf1 _ (.inl hi)
  · exact hf1 _ (.inr (.inl hi))
  · exact hf1 _ (.inr (.inr (.inl hi)))
  · by_cases e : j = q
    · subst e
      rw [List.getElem?_set_self (List.getElem?_eq_some_iff.1 HO.out.1.dj).1] at hv
      simp at hv
      subst hv
      have := K4.out i hi
      right; omega
    · rw [List.getElem?_set_ne e] at hv
      exact hf1 _ (.inr (.inr (.inr ⟨q, v, hv, hi⟩)))

theorem rown_any {w : World} {x : Nat} {F : Nat → Prop} {L : List Pg} (h : RefAt w x F L) (f : Int) (hm : usersL L f < 4611686018427387904) :
    Calls Try.prog 20 #[.pointer (some ⟨x, 0, none⟩), .int .i64 f] w fun e w' => e = .returned (.tuple #[.int .i64 (ownV L f), .int .i64 (ownS L f)]) ∧ ∃ F', RefAt w' x F' (ownL L f) ∧ Turn F w w' ∧ ∀ i, F' i → F i ∨ w.heap.size ≤ i := by
  have c1 := rhas_any h f
  by_cases h0 : usersL L f = 0
  · unfold ownV ownS ownL
    rw [if_pos h0, if_pos h0, if_pos (by omega)]
    have hd : decide (usersL L f ≠ 0) = false := by simp [h0]
    rw [hd] at c1
    have H := Lib.hid h
    clear h hm h0 hd
    go_enter Try.func20, Try.ntmps20
    go_wp2_with (go_at_call 16; (with_reducible refine c1.mono ?_); rintro e w' ⟨rfl, rfl⟩)
    go_ret2
    exact ⟨rfl, F, H.out, Turn.refl _ _, fun i hi => .inl hi⟩
  · have hd : decide (usersL L f ≠ 0) = true := by simp [h0]
    rw [hd] at c1
    obtain ⟨k, u, b, v0, vd, vu, cap, ds, bs, us, rfl, hu, hR⟩ := h.frame f h0
    obtain ⟨g, N, c, s1, s2, s3, s4, s5, s6, -⟩ := hR.store
    by_cases h1 : usersL L k = 1
    · unfold ownV ownS ownL
      rw [if_neg h0, if_neg h0, if_pos h1, if_pos h1, if_pos (by omega)]
      obtain rfl : u = 1 := by omega
      have H := Lib.hid h
      clear h hm h0 h1 hd hR hu
      go_enter Try.func20, Try.ntmps20
      go_wp2_with (go_at_call 16; (with_reducible refine c1.mono ?_); rintro e w' ⟨rfl, rfl⟩)
      go_ret2
      exact ⟨rfl, F, H.out, Turn.refl _ _, fun i hi => .inl hi⟩
    · obtain ⟨u', rfl⟩ : ∃ u', u = u' + 1 := ⟨u - 1, by omega⟩
      by_cases hl : lowOf L < L.length
      · obtain ⟨k', p, hk', hp, he⟩ := pgAt_used h0
        obtain rfl : k' = k := by omega
        have hpg := hR.pg
        rw [he] at hpg
        subst hpg
        have e1 : ownV L k' = lowOf L := by unfold ownV allocV; rw [if_neg h0, if_neg h1, if_pos hl]
        have e2 : ownS L k' = 0 := by unfold ownS allocS; rw [if_neg h0, if_neg h1, if_pos hl]
        have e3 : ownL L k' = (L.set (lowOf L) ⟨1, b⟩).set k' ⟨u', b⟩ := by unfold ownL; rw [if_neg (by omega), if_pos hl, he, hu]; rfl
        rw [e1, e2, e3]
        exact rown_more h k' u' b hp (by omega) (by omega) hl
      · have e1 : ownV L k = 0 := by unfold ownV allocV; rw [if_neg h0, if_neg h1, if_neg hl]
        have e2 : ownS L k = -4 := by unfold ownS allocS; rw [if_neg h0, if_neg h1, if_neg hl]
        have e3 : ownL L k = L := by unfold ownL; rw [if_neg (by omega), if_neg hl]
        rw [e1, e2, e3]
        have c2 := ralloc_any h
        unfold allocV allocS allocL at c2
        rw [if_neg hl, if_neg hl, if_neg hl] at c2
        have hs4 : ((u' + 1 : Nat) : Int) = (u' : Int) + 1 := by omega
        rw [hs4] at s4
        have hub : ((u' : Int) + 1 == 1) = false := by simp; omega
        clear h hm h0 h1 hd hR hu hl e1 e2 e3 hs4
        go_enter Try.func20, Try.ntmps20
        go_wp2_with (first
          | (go_at_call 16; (with_reducible refine c1.mono ?_); rintro e w' ⟨rfl, rfl⟩)
          | (go_at_call 15; (with_reducible refine c2.mono ?_); rintro e w1 ⟨rfl, F1, h1, t1, l1⟩; have K1 := Lib.hid (And.intro h1 (And.intro t1 l1)); clear h1 t1 l1))
        go_ret2
        exact ⟨rfl, F1, K1.out⟩
end Go.Proofs.Ytgcjjgljllephaa
