/-
  What the reference's Close and Look answer, and what Close makes of its places. No conditions but that the table is one that calls can make, and that rights are numbers of 64 bits.
-/
import Derived.Test.YtacdhlhkpdlekaaHRef3b
import Derived.Test.YtacdhlhkpdlekaaHFind2
namespace Go.Proofs.Ytacdhlhkpdlekaa
open Go.ChangeShapes Go.WideShapes Go.ChangeAt Go.RowKit

def FitR (L : List Pl) : Prop := ∀ p ∈ L, fit p.e.r
theorem FitR.entL {L : List Pl} (h : FitR L) (k : Nat) : fit (entL L k).r := by
  unfold Proofs.Ytacdhlhkpdlekaa.entL
  rw [List.getD_eq_getElem?_getD]
  cases hk : L[k]? with
  | none => simp [Pl.none, Ent.zero, fit]
  | some p => exact h p (List.mem_of_getElem? hk)
theorem FitR.getE {L : List Pl} (h : FitR L) (v : Int) : fit (getE L v).r := by
  unfold Proofs.Ytacdhlhkpdlekaa.getE
  split
  · exact h.entL _
  · simp [Ent.zero, fit]

section
variable {w : World} {x cap : Nat} {va ea : Value} {R : List Pl}

set_option maxRecDepth 20000 in
set_option maxHeartbeats 2000000 in
theorem rclose_no (h : RMem w x va ea cap (valsR R) (entsR R)) (ok : ROK cap R) (v : Int) (hf : findL (padL cap R) v = none) :
    Calls Try.prog 34 #[.pointer (some ⟨x, 0, none⟩), .int .i64 v] w fun e w' => e = .returned (.tuple #[Ent.zero.agg, .int .i64 (-11)]) ∧ Turn NoBlock w w' := by
  have hM1 := h.past ((Turn.refl NoBlock w).alloc (.cells #[.int .i64 0, .int .i64 0, .int .i64 0] 76))
  have c1 := rfind_mem hM1 ok v
  unfold findI at c1
  rw [hf] at c1
  simp only at c1
  clear h hM1 hf ok
  go_enter Try.func34, Try.ntmps34
  go_wp2_with (go_at_call 48; (with_reducible refine c1.mono ?_); rintro e w1 ⟨rfl, rfl⟩)
  (try simp only [Exit.inBlock, Exit.then])
  refine bodyPost_ret (v := .tuple #[Ent.zero.agg, .int .i64 (-11)]) (by rw [results_cell_tmp rfl]; unfold Ent.agg Ent.zero; go_simp) rfl ⟨rfl, ?_⟩
  repeat' (first | exact Turn.refl _ _ | refine Turn.drew ?_ | refine Turn.alloc ?_ _ | refine Turn.setCell ?_ (.inr (by simp)) _)

set_option maxRecDepth 20000 in
set_option maxHeartbeats 2000000 in
theorem rclose_yes (h : RMem w x va ea cap (valsR R) (entsR R)) (ok : ROK cap R) (v : Int) (k : Nat) (p : Pl) (hf : findL (padL cap R) v = some k) (hp : R[k]? = some p) :
    Calls Try.prog 34 #[.pointer (some ⟨x, 0, none⟩), .int .i64 v] w fun e w' => e = .returned (.tuple #[p.e.agg, .int .i64 0]) ∧
      RMem w' x va ea cap (valsR (R.set k Pl.none)) (entsR (R.set k Pl.none)) ∧ Turn (RFoot x va ea) w w' := by
  have hM1 := h.past ((Turn.refl NoBlock w).alloc (.cells #[.int .i64 0, .int .i64 0, .int .i64 0] 76))
  have c1 := rfind_mem hM1 ok v
  unfold findI at c1
  rw [hf] at c1
  simp only at c1
  obtain ⟨n, hn⟩ : ∃ n, R.length = n := ⟨_, rfl⟩
  have hvl : (valsR R).length = n := by rw [← hn]; simp [valsR]
  have hel : (entsR R).length = n := by rw [← hn]; simp [entsR]
  have hk : k < n := by rw [← hn]; exact (List.getElem?_eq_some_iff.1 hp).1
  have htop : n ≤ 65536 := by have := ok.len; have := ok.top; omega
  obtain ⟨gv, cv, rfl, hcv1, hcv2, hxv, hev, hcell, hfz⟩ := h.valAt (k := k) (by rw [hvl]; exact hk)
  have heo : (entsR R)[k]? = some p.e := by simp [entsR, hp]
  obtain ⟨ge, ce, rfl, -, hce1, hce2, hxe, hve, e0, e1, e2, efz⟩ := h.entAt heo
  have hvg : gv ≠ ge := fun h => hve (by simp [Value.ownBlock, h])
  have d0 := h.c0
  have d1 := h.c1
  have xlt := World.block_lt_of_cell? _ _ d0
  have vlt := World.block_lt_of_cell? _ _ hcell
  have elt := World.block_lt_of_cell? _ _ e0
  rw [hvl] at hcv1 d0 h ⊢
  rw [hel] at hce1 d1 h ⊢
  have HM := Lib.hid h
  have HN := Lib.hid (And.intro hvl hel)
  clear h ok hM1 hf hn hvl hel hev hve hp heo
  go_enter Try.func34, Try.ntmps34
  go_wp2_with (go_at_call 48; (with_reducible refine c1.mono ?_); rintro e w1 ⟨rfl, rfl⟩)
  (try simp only [Exit.inBlock, Exit.then])
  refine bodyPost_ret (v := .tuple #[p.e.agg, .int .i64 0]) (by rw [results_cell_tmp rfl]; unfold Ent.agg; go_simp) rfl ⟨rfl, ?_⟩
  have P1 := RMem.putV 0 HM.out (k := k) (by rw [HN.out.1]; exact hk)
  have P2 := RMem.putE Ent.zero P1.1 (k := k) (by rw [HN.out.2]; exact hk)
  rw [(setR (e := Ent.zero)).1, (setR (z := 0)).2] at P2
  have t1 := (P1.2.mono (G := RFoot x (.slice (some ⟨gv, 0, none⟩) n cv) (.slice (some ⟨ge, 0, none⟩) n ce)) (fun b h => .inl (by subst h; exact .inr (.inl rfl)))).trans P2.2 (fun b h => .inl (by subst h; exact .inr (.inr rfl)))
  exact ⟨P2.1.past (((Turn.refl NoBlock _).alloc _).alloc _), (t1.alloc _).alloc _⟩

theorem rclose_any {G : Nat → Prop} {L : List Pl} (h : RefAt w x G L) (v : Int) :
    Calls Try.prog 34 #[.pointer (some ⟨x, 0, none⟩), .int .i64 v] w fun e w' => e = .returned (.tuple #[(getE L v).agg, .int .i64 (getS L v)]) ∧
      ∃ G', RefAt w' x G' (closeL L v) ∧ Turn G w w' ∧ ∀ j, G' j → G j ∨ w.heap.size ≤ j := by
  obtain ⟨va, ea, cap, R, hM, ok, rfl, rfl⟩ := h
  unfold getE getS closeL
  cases hf : findL (padL cap R) v with
  | none =>
    refine (rclose_no hM ok v hf).mono ?_
    rintro e w' ⟨rfl, hT⟩
    exact ⟨rfl, _, ⟨_, _, cap, R, hM.past hT, ok, rfl, rfl⟩, hT.mono (fun _ h => h.elim), fun j hj => .inl hj⟩
  | some k =>
    have hf' := hf
    rw [findL_pad] at hf'
    obtain ⟨p, hp, hpv, hv0, -⟩ := findL_some hf'
    have hlt := (List.getElem?_eq_some_iff.1 hp).1
    have he : entL (padL cap R) k = p.e := by rw [entL_pad]; simp [entL, List.getD, hp]
    simp only [he]
    rw [← padL_set _ hlt]
    refine (rclose_yes hM ok v k p hf hp).mono ?_
    rintro e w' ⟨rfl, hR, hT⟩
    exact ⟨rfl, _, ⟨_, _, cap, _, hR, ok.set k _ (.inl rfl), rfl, rfl⟩, hT, fun j hj => .inl hj⟩

set_option maxRecDepth 20000 in
set_option maxHeartbeats 2000000 in
theorem rlook_no (h : RMem w x va ea cap (valsR R) (entsR R)) (ok : ROK cap R) (v kind need : Int) (hf : findL (padL cap R) v = none) :
    Calls Try.prog 33 #[.pointer (some ⟨x, 0, none⟩), .int .i64 v, .int .i64 kind, .int .i64 need] w fun e w' => e = .returned (.tuple #[Ent.zero.agg, .int .i64 (-11)]) ∧ Turn NoBlock w w' := by
  have hM1 := h.past ((Turn.refl NoBlock w).alloc (.cells #[.int .i64 0, .int .i64 0, .int .i64 0] 76))
  have c1 := rfind_mem hM1 ok v
  unfold findI at c1
  rw [hf] at c1
  simp only at c1
  clear h hM1 hf ok
  go_enter Try.func33, Try.ntmps33
  go_wp2_with (go_at_call 48; (with_reducible refine c1.mono ?_); rintro e w1 ⟨rfl, rfl⟩)
  (try simp only [Exit.inBlock, Exit.then])
  refine bodyPost_ret (v := .tuple #[Ent.zero.agg, .int .i64 (-11)]) (by rw [results_cell_tmp rfl]; unfold Ent.agg Ent.zero; go_simp) rfl ⟨rfl, ?_⟩
  repeat' (first | exact Turn.refl _ _ | refine Turn.drew ?_ | refine Turn.alloc ?_ _ | refine Turn.setCell ?_ (.inr (by simp)) _)

set_option maxRecDepth 20000 in
set_option maxHeartbeats 4000000 in
theorem rlook_yes (h : RMem w x va ea cap (valsR R) (entsR R)) (ok : ROK cap R) (v kind need : Int) (k : Nat) (p : Pl) (hf : findL (padL cap R) v = some k) (hp : R[k]? = some p) (hr : fit p.e.r) (hn : fit need) :
    Calls Try.prog 33 #[.pointer (some ⟨x, 0, none⟩), .int .i64 v, .int .i64 kind, .int .i64 need] w fun e w' => e = .returned (.tuple #[(coreE 0 kind p.e.o p.e.k p.e.r need).agg, .int .i64 (coreS 0 kind p.e.k p.e.r need)]) ∧ Turn NoBlock w w' := by
  have hM1 := h.past ((Turn.refl NoBlock w).alloc (.cells #[.int .i64 0, .int .i64 0, .int .i64 0] 76))
  have c1 := rfind_mem hM1 ok v
  unfold findI at c1
  rw [hf] at c1
  simp only at c1
  have CS := Lib.hid (fun w => rsub_any p.e.r need hr hn w)
  obtain ⟨n, hn'⟩ : ∃ n, R.length = n := ⟨_, rfl⟩
  have hel : (entsR R).length = n := by rw [← hn']; simp [entsR]
  have hk : k < n := by rw [← hn']; exact (List.getElem?_eq_some_iff.1 hp).1
  have htop : n ≤ 65536 := by have := ok.len; have := ok.top; omega
  have heo : (entsR R)[k]? = some p.e := by simp [entsR, hp]
  obtain ⟨ge, ce, rfl, -, hce1, hce2, hxe, hve, e0, e1, e2, efz⟩ := h.entAt heo
  have d1 := h.c1
  have xlt := World.block_lt_of_cell? _ _ d1
  have elt := World.block_lt_of_cell? _ _ e0
  rw [hel] at hce1 d1
  clear h ok hM1 hf hp hn' hel hve heo
  generalize p.e.o = o at *
  generalize p.e.k = pk at *
  generalize p.e.r = r at *
  have cases : (kind ≠ 0 ∧ kind ≠ pk ∧ coreS 0 kind pk r need = -12 ∧ coreE 0 kind o pk r need = Ent.zero) ∨
      ((kind = 0 ∨ (kind ≠ 0 ∧ pk = kind)) ∧ hasB r need = true ∧ coreS 0 kind pk r need = 0 ∧ coreE 0 kind o pk r need = ⟨o, pk, r⟩) ∨ ((kind = 0 ∨ (kind ≠ 0 ∧ pk = kind)) ∧ hasB r need = false ∧ coreS 0 kind pk r need = -30 ∧ coreE 0 kind o pk r need = Ent.zero) := by
    have hE : ∀ z, coreS 0 kind pk r need = z → z ≠ 0 → coreE 0 kind o pk r need = Ent.zero := fun z h1 h2 => by unfold coreE; rw [h1, if_neg h2]
    by_cases h1 : kind ≠ 0 ∧ kind ≠ pk
    · have hs : coreS 0 kind pk r need = -12 := by unfold coreS; rw [if_neg (by simp), if_pos h1]
      exact .inl ⟨h1.1, h1.2, hs, hE _ hs (by decide)⟩
    · have h2 : kind = 0 ∨ (kind ≠ 0 ∧ pk = kind) := by omega
      cases h3 : hasB r need with
      | true =>
        have hs : coreS 0 kind pk r need = 0 := by unfold coreS; rw [if_neg (by simp), if_neg h1, h3]; rfl
        exact .inr (.inl ⟨h2, rfl, hs, by unfold coreE; rw [hs]; rfl⟩)
      | false =>
        have hs : coreS 0 kind pk r need = -30 := by unfold coreS; rw [if_neg (by simp), if_neg h1, h3]; rfl
        exact .inr (.inr ⟨h2, rfl, hs, hE _ hs (by decide)⟩)
  rcases cases with ⟨h0, h3, h1, h2⟩ | ⟨h0, h3, h1, h2⟩ | ⟨h0, h3, h1, h2⟩
  · rw [h1, h2]
    clear h1 h2
    have hb1 : (kind != 0) = true := by simp [h0]
    have hb2 : (kind != pk) = true := by simp [h3]
    go_enter Try.func33, Try.ntmps33
    go_wp2_with (first
      | (go_at_call 48; (with_reducible refine c1.mono ?_); rintro e w1 ⟨rfl, rfl⟩)
      | (go_at_call 49; (with_reducible refine (CS.out _).mono ?_); rintro e w3 ⟨rfl, rfl⟩))
    (try simp only [Exit.inBlock, Exit.then])
    refine bodyPost_ret (v := .tuple #[Ent.zero.agg, .int .i64 (-12)]) (by rw [results_cell_tmp rfl]; unfold Ent.agg Ent.zero; go_simp) rfl ⟨rfl, ?_⟩
    repeat' (first | exact Turn.refl _ _ | refine Turn.drew ?_ | refine Turn.alloc ?_ _ | refine Turn.setCell ?_ (.inr (by simp <;> omega)) _)
  · rw [h1, h2]
    rw [h3] at CS
    clear h1 h2 h3
    have hb1 : kind ≠ 0 → (kind != 0) = true := fun h => by simp [h]
    rcases h0 with rfl | ⟨h0, rfl⟩
    all_goals
      try replace hb1 := hb1 h0
      go_enter Try.func33, Try.ntmps33
      go_wp2_with (first
        | (go_at_call 48; (with_reducible refine c1.mono ?_); rintro e w1 ⟨rfl, rfl⟩)
        | (go_at_call 49; (with_reducible refine (CS.out _).mono ?_); rintro e w3 ⟨rfl, rfl⟩))
      (try simp only [Exit.inBlock, Exit.then])
      refine bodyPost_ret (v := .tuple #[Ent.agg ⟨o, _, r⟩, .int .i64 0]) (by rw [results_cell_tmp rfl]; unfold Ent.agg; go_simp) rfl ⟨rfl, ?_⟩
      repeat' (first | exact Turn.refl _ _ | refine Turn.drew ?_ | refine Turn.alloc ?_ _ | refine Turn.setCell ?_ (.inr (by simp <;> omega)) _)
  · rw [h1, h2]
    rw [h3] at CS
    clear h1 h2 h3
    have hb1 : kind ≠ 0 → (kind != 0) = true := fun h => by simp [h]
    rcases h0 with rfl | ⟨h0, rfl⟩
    all_goals
      try replace hb1 := hb1 h0
      go_enter Try.func33, Try.ntmps33
      go_wp2_with (first
        | (go_at_call 48; (with_reducible refine c1.mono ?_); rintro e w1 ⟨rfl, rfl⟩)
        | (go_at_call 49; (with_reducible refine (CS.out _).mono ?_); rintro e w3 ⟨rfl, rfl⟩))
      (try simp only [Exit.inBlock, Exit.then])
      refine bodyPost_ret (v := .tuple #[Ent.zero.agg, .int .i64 (-30)]) (by rw [results_cell_tmp rfl]; unfold Ent.agg Ent.zero; go_simp) rfl ⟨rfl, ?_⟩
      repeat' (first | exact Turn.refl _ _ | refine Turn.drew ?_ | refine Turn.alloc ?_ _ | refine Turn.setCell ?_ (.inr (by simp <;> omega)) _)

theorem rlook_any {G : Nat → Prop} {L : List Pl} (h : RefAt w x G L) (v kind need : Int) (hfr : FitR L) (hn : fit need) :
    Calls Try.prog 33 #[.pointer (some ⟨x, 0, none⟩), .int .i64 v, .int .i64 kind, .int .i64 need] w fun e w' => e = .returned (.tuple #[(lookE L v kind need).agg, .int .i64 (lookS L v kind need)]) ∧ Turn NoBlock w w' := by
  obtain ⟨va, ea, cap, R, hM, ok, rfl, rfl⟩ := h
  unfold lookE lookS getE
  cases hf : findL (padL cap R) v with
  | none =>
    simp only [if_neg (show ¬ (-11 : Int) = 0 by decide)]
    exact rlook_no hM ok v kind need hf
  | some k =>
    have hf' := hf
    rw [findL_pad] at hf'
    obtain ⟨p, hp, hpv, hv0, -⟩ := findL_some hf'
    have he : entL (padL cap R) k = p.e := by rw [entL_pad]; simp [entL, List.getD, hp]
    have hr := hfr.entL k
    rw [he] at hr
    simp only [he]
    exact rlook_yes hM ok v kind need k p hf hp hr hn
end
end Go.Proofs.Ytacdhlhkpdlekaa
