/-
  What Room and Release of a pool answer, and what Release makes of its frames. No conditions but that the pool is one that calls can make.
-/
import Derived.Test.YtgcjjgljllephaaPOwn
namespace Go.Proofs.Ytgcjjgljllephaa
open Go.ChangeShapes Go.WideShapes Go.ChangeAt Go.RowKit

set_option maxRecDepth 20000 in
theorem room_any {w : World} {a : Nat} {F : Nat → Prop} {L : List Pg} (h : PoolAt w a F L) :
    Calls Try.prog 30 #[.pointer (some ⟨a, 0, none⟩)] w fun e w' => e = .returned (.int .i64 ((L.length : Int) - usedN L)) ∧ ∃ m, w' = w.drewN m := by
  have c0 := Lib.hid (fun m => used_any (w := w.drewN m) (h.past ((Turn.refl NoBlock w).drewN m)))
  have c00 := used_any h
  obtain ⟨vs, vf, cap, ps, fr, hM, ok, rfl, rfl⟩ := h
  have hle : usedN (padP cap ps) ≤ cap := by
    have := padP_len (cap := cap) ok.len
    unfold usedN
    have h2 := List.length_filter_le (fun p : Pg => p.users != 0) (padP cap ps)
    omega
  rw [padP_len ok.len]
  have htop := ok.top
  have S1 := hM.c0
  have S0 : ∀ m, (w.drewN m).cell? ⟨a, 0, none⟩ = some (.int .i64 cap) := fun m => hM.c0
  generalize usedN (padP cap ps) = u at *
  have HW := Lib.hid (show IntKind.i64.wrap ((cap : Int) - u) = (cap : Int) - u by
    rw [show (cap : Int) - u = ((cap - u : Nat) : Int) by omega]
    exact wrap_nat _ (by omega))
  have hcu : (u : Int) ≤ cap := by omega
  have HC := Lib.hid c00
  clear hM ok hle htop c00
  go_enter Try.func30, Try.ntmps30
  go_wp2_with fail
  go_region_held3 (fun w' => w'.cell? ⟨a, 0, none⟩ = some (.int .i64 cap)) (first | exact S1 | exact S0 _)
    (first | (go_at_call 28; (with_reducible refine HC.out.mono ?_); rintro e w2 ⟨rfl, q, rfl⟩) | (go_at_call 28; (with_reducible refine (c0.out _).mono ?_); rintro e w2 ⟨rfl, q, rfl⟩) | (go_at_call 28; refine (c0.out 1).mono ?_; rintro e w2 ⟨rfl, q, rfl⟩))
  all_goals
    go_wp2
    go_ret
    exact ⟨ret_int HW.out, _, rfl⟩

theorem size68 : (Try.prog.info? 88).map (·.size) = some 65 := by kernel_rfl
theorem none_cells_len : Pg.none.cells.length = 65 := by rw [Pg.cells_len]; rfl
theorem put_none (p : Pg) (h : p.bytes.length = 64) : putAt p.cells 0 Pg.none.cells = Pg.none.cells := by
  unfold putAt
  rw [List.take_zero, List.nil_append, List.drop_of_length_le (by rw [none_cells_len, Pg.cells_len h]; exact Nat.le_refl _), List.append_nil]
set_option maxRecDepth 20000 in
set_option maxHeartbeats 1000000 in
theorem free_mem {w : World} {a cap : Nat} {vs vf : Value} {ps : List Pg} {fr : List Nat} (h : PMem w a vs vf cap ps fr) (k : Nat) (p : Pg) (hp : ps[k]? = some p) (hf : fr.length < 65537) (hh : IsHeap fr) :
    Calls Try.prog 41 #[.pointer (some ⟨a, 0, none⟩), .int .i64 k] w fun e w' => e = .returned (.tuple #[]) ∧
      ∃ vf' fr', PMem w' a vs vf' cap (ps.set k Pg.none) fr' ∧ fr'.Perm (fr ++ [k]) ∧ IsHeap fr' ∧ Turn (Foot a vs vf) w w' ∧ ∀ j, Foot a vs vf' j → Foot a vs vf j ∨ w.heap.size ≤ j := by
  have hsk := h.sized k p hp
  obtain ⟨g, c, rfl, g1, g2, g3, g4, g5, -, -, -, g8, g9⟩ := h.page hp
  obtain ⟨Z, hZ, -, hZc⟩ := zero68
  have hZs : Z.size = 65 := by rw [← Array.length_toList, hZc, none_cells_len]
  have hone : Z.all (·.oneCell') = true := by
    have := all_oneCell_toArray (cs := Z.toList) (by rw [hZc]; exact Pg.cells_one _)
    simpa using this
  obtain ⟨hM1, t1⟩ := h.put (o := 0) (cs := Pg.none.cells) Pg.none hp (by decide) (by rw [none_cells_len]; decide) (put_none p hsk)
  have hth : w.there g (k * 65) Z.size := fun i hi => ⟨g8 i (by omega), g9 _⟩
  have hst : Sem.run Try.prog (Instr.storeAt 88 (.pointer (some ⟨g, k * 65, none⟩)) (.agg Z)) w = .ok () (w.setCells g (k * 65) Pg.none.cells) := by
    have := run_storeAt_mid (P := Try.prog) w g (k * 65) 88 Z hth (by rw [size68, hZs]) hone
    rw [hZc] at this
    exact this
  have hst2 : Sem.run Try.prog (storeVar 88 ⟨g, k * 65, none⟩ (.agg Z)) w = .ok () (w.setCells g (k * 65) Pg.none.cells) := by
    have := run_storeVar_mid (P := Try.prog) w g (k * 65) 88 Z hth (by rw [size68, hZs]) hone
    rw [hZc] at this
    exact this
  have hst3 : Sem.run Try.prog (storeCells ⟨g, k * 65, none⟩ Z.toList 0) w = .ok () (w.setCells g (k * 65) Pg.none.cells) := by
    have := run_storeCells_cells (P := Try.prog) g (k * 65) Z.toList 0 w (fun j hj => by simpa using (hth j (by simpa using hj)).1) (fun j hj => by simpa using (hth j (by simpa using hj)).2) (by rw [hZc]; exact Pg.cells_one _)
    rw [Nat.add_zero, hZc] at this
    rw [hZc]
    exact this
  rw [Nat.add_zero] at hM1 t1
  have c1 := hpush_any hM1.low k hf hh
  have d1 := h.c1
  have HM := Lib.hid (And.intro hM1 t1)
  have HF := Lib.hid (show ∀ j, j = g → Foot a (.slice (some ⟨g, 0, none⟩) ps.length c) vf j from fun j hj => by subst hj; exact .inr (.inl rfl))
  generalize w.setCells g (k * 65) Pg.none.cells = W1 at *
  have kl : (k : Int) < (ps.length : Int) := by omega
  generalize hN : ps.length = N at *
  clear h hp hf hh hM1 t1 hth hone hZc g8 hN
  go_enter Try.func41, Try.ntmps41
  go_wp2_with (go_at_call 55; (with_reducible refine c1.mono ?_); rintro e w1 ⟨rfl, g2, c2, fr2, hL, hP, hI, hT, hg, hK⟩; have KF := Lib.hid (And.intro hL (And.intro hP (And.intro hI (And.intro hT (And.intro hg hK))))); clear hL hP hI hT hg hK)
  go_end0
  obtain ⟨hL, hP, hI, hT, hg, hK⟩ := KF.out
  obtain ⟨hM1, t1⟩ := HM.out
  have hs := t1.size
  refine ⟨rfl, _, fr2, PMem.freedNew hM1 hL hT (fun b hb => ?_) hg hK, hP, hI, ?_, fun j hj => ?_⟩
  · rcases hb with hb | hb
    · exact .inl hb
    · exact .inr (.inl hb)
  · refine (t1.mono (fun b hb => .inl (HF.out b hb))).trans hT (fun b hb => .inl ?_)
    rcases hb with hb | hb
    · exact .inl hb
    · exact .inr (.inr hb)
  · rcases hj with hj | hj | hj
    · exact .inl (.inl hj)
    · exact .inl (.inr (.inl hj))
    · simp [Value.ownBlock] at hj
      subst hj
      rcases hg with hg | hg
      · exact .inl (.inr (.inr hg))
      · exact .inr (by omega)

def relS (L : List Pg) (f : Int) : Int := if usersL L f = 0 then -25 else 0
def relL (L : List Pg) (f : Int) : List Pg := if usersL L f = 0 then L else if usersL L f = 1 then L.set f.toNat Pg.none else L.set f.toNat ⟨usersL L f - 1, (pgAt L f).bytes⟩

set_option maxRecDepth 20000 in
set_option maxHeartbeats 1000000 in
theorem rel_any {w : World} {a : Nat} {F : Nat → Prop} {L : List Pg} (h : PoolAt w a F L) (f : Int) (hm : usersL L f < 4611686018427387904) :
    Calls Try.prog 18 #[.pointer (some ⟨a, 0, none⟩), .int .i64 f] w fun e w' => e = .returned (.int .i64 (relS L f)) ∧
      ∃ F', PoolAt w' a F' (relL L f) ∧ Turn F w w' ∧ ∀ j, F' j → F j ∨ w.heap.size ≤ j := by
  have c1 := users_any h f
  unfold relS relL
  by_cases h0 : usersL L f = 0
  · rw [if_pos h0, if_pos h0]
    rw [h0] at c1
    have HP := Lib.hid h
    clear h h0
    go_enter Try.func18, Try.ntmps18
    go_wp2_with (go_at_call 27; (with_reducible refine c1.mono ?_); rintro e w' ⟨rfl, rfl⟩)
    go_ret
    exact ⟨rfl, F, HP.out, Turn.refl _ _, fun j hj => .inl hj⟩
  · rw [if_neg h0, if_neg h0]
    obtain ⟨vs, vf, cap, ps, fr, hM, ok, rfl, rfl⟩ := h
    obtain ⟨k, p, rfl, hp, hgp, hu⟩ := used_frame h0
    have hub : usersL (padP cap ps) k = p.users := by unfold usersL; rw [hgp]
    rw [hgp, hub, Int.toNat_natCast]
    rw [hub] at c1 hm
    have hsk := hM.sized k p hp
    have hlt := (List.getElem?_eq_some_iff.1 hp).1
    have hlen : ps.length ≤ 65536 := by have := ok.len; have := ok.top; omega
    obtain ⟨g, c, rfl, g1, g2, g3, g4, g5, g6, -, -, -, g10⟩ := hM.page hp
    have d1 := hM.c1
    have hput := hM.put (o := 0) (cs := [.int .i64 ((p.users - 1 : Nat) : Int)]) ⟨p.users - 1, p.bytes⟩ hp hsk (by simp) (put_users p (p.users - 1))
    have hb : (((p.users : Nat) : Int) == 0) = false := by simp; omega
    have he : ((p.users - 1 : Nat) : Int) = (p.users : Int) - 1 := by omega
    rw [he] at hput
    by_cases hu1 : p.users = 1
    · rw [if_pos hu1]
      have hfr : fr.length < 65537 := by
        have := nodup_len ps.length fr ok.once (fun x hx => by
          obtain ⟨q, hq, _⟩ := (ok.free x).1 hx
          exact (List.getElem?_eq_some_iff.1 hq).1)
        omega
      have cF := free_mem hput.1 k ⟨p.users - 1, p.bytes⟩ (by rw [List.getElem?_set_self hlt]) hfr ok.heap
      rw [List.set_set] at cF
      have hw : w.setCells g (k * 65 + 0) [.int .i64 ((p.users : Int) - 1)] = w.setCell ⟨g, k * 65, none⟩ (.int .i64 0) := by rw [hu1]; rfl
      rw [hw] at hput cF
      have HT := Lib.hid hput.2
      have HK := Lib.hid (fun fr' hP hI => And.intro (ok_close (fr' := fr') ok hp hu hP hI) (padP_set (cap := cap) Pg.none hlt))
      have cF := Lib.hid cF
      rw [hu1] at c1 g6
      generalize hN : ps.length = N at *
      clear hu1 h0 hgp hub hp hM ok hu he hput hw hfr
      go_enter Try.func18, Try.ntmps18
      go_wp2_with (first
        | (go_at_call 27; (with_reducible refine c1.mono ?_); rintro e w' ⟨rfl, rfl⟩)
        | (go_at_call 41; (with_reducible refine cF.out.mono ?_); rintro e w2 ⟨rfl, vf2, fr2, hM2, hP2, hI2, hT2, hs2⟩; have K := Lib.hid (And.intro hM2 (And.intro hP2 (And.intro hI2 (And.intro hT2 hs2)))); clear hM2 hP2 hI2 hT2 hs2))
      go_ret
      obtain ⟨hM2, hP2, hI2, hT2, hs2⟩ := K.out
      have hs := HT.out.size
      exact ⟨rfl, _, ⟨_, _, cap, _, fr2, hM2, (HK.out fr2 hP2 hI2).1, rfl, (HK.out fr2 hP2 hI2).2.symm⟩, (HT.out.mono (fun b hb => .inl (by subst hb; exact .inr (.inl rfl)))).trans hT2 (fun b hb => .inl hb), fun j hj => by
        rcases hs2 j hj with h | h
        · exact .inl h
        · exact .inr (by omega)⟩
    · rw [if_neg hu1]
      have HM := Lib.hid (And.intro hput (And.intro (ok_set ok hp hu (q := ⟨p.users - 1, p.bytes⟩) (by simp; omega)) (padP_set (cap := cap) ⟨p.users - 1, p.bytes⟩ hlt)))
      have hb2 : ((p.users : Int) - 1 == 0) = false := by simp; omega
      generalize p.users = u at *
      generalize ps.length = N at *
      clear h0 hgp hub hp hM ok he hput
      go_enter Try.func18, Try.ntmps18
      go_wp2_with (go_at_call 27; (with_reducible refine c1.mono ?_); rintro e w' ⟨rfl, rfl⟩)
      go_ret
      exact ⟨rfl, _, ⟨_, _, cap, _, fr, HM.out.1.1, HM.out.2.1, rfl, HM.out.2.2.symm⟩, HM.out.1.2.mono (fun j hj => .inl (by subst hj; exact .inr (.inl rfl))), fun j hj => .inl hj⟩
end Go.Proofs.Ytgcjjgljllephaa
