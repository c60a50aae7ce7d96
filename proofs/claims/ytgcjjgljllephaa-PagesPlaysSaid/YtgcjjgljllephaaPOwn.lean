/-
  What Own of a pool answers, and what it makes of its frames. No conditions but that the pool is one that calls can make, and that no frame has too many users.
-/
import Derived.Test.YtgcjjgljllephaaPShare
import Derived.Deep.MidRow
import Derived.Deep.RegionHeld3
namespace Go.Proofs.Ytgcjjgljllephaa
open Go.ChangeShapes Go.WideShapes Go.ChangeAt Go.RowKit

theorem pad_used {cap k : Nat} {ps : List Pg} {p : Pg} (h : (padP cap ps)[k]? = some p) (hp : p.users ≠ 0) : ps[k]? = some p := by
  unfold padP at h
  by_cases hk : k < ps.length
  · rwa [List.getElem?_append_left hk] at h
  · rw [List.getElem?_append_right (by omega), List.getElem?_replicate] at h
    split at h
    · simp only [Option.some.injEq] at h
      subst h
      exact absurd rfl hp
    · cases h
theorem put_all (p : Pg) (bs : List UInt8) (h : bs.length = 64) (hp : p.bytes.length = 64) : putAt p.cells 1 (bcells bs) = Pg.cells ⟨p.users, bs⟩ := by
  simp only [putAt, Pg.cells, List.take_succ_cons, List.take_zero, bcells_len, h]
  rw [show 1 + 64 = 64 + 1 from rfl, List.drop_succ_cons, List.drop_of_length_le (by rw [bcells_len, hp]; exact Nat.le_refl _)]
  simp
theorem size66 : (Try.prog.info? 86).map (·.size) = some 64 := by kernel_rfl

/-- The bytes of one frame are laid into another one, and the first has a user less. -/
theorem own_step {w1 : World} {a j k : Nat} {F : Nat → Prop} {L : List Pg} {p : Pg} (h1 : PoolAt w1 a F (L.set j ⟨1, blank⟩)) (hj : j < L.length) (hk : L[k]? = some p) (hu : 2 ≤ p.users) (hne : k ≠ j) :
    ∃ g N c cs W1, w1.drew.setCells g (j * 65 + 1) cs = W1 ∧ a ≠ g ∧ w1.cell? ⟨a, 1, none⟩ = some (.slice (some ⟨g, 0, none⟩) N c) ∧ (k : Int) < N ∧ (j : Int) < N ∧ (N : Int) ≤ c ∧ (c : Int) ≤ 9223372036854775807 ∧
      w1.rangeAt g (k * 65 + 1) cs ∧ w1.there g (j * 65 + 1) 64 ∧ cs.length = 64 ∧ (∀ v ∈ cs, v.oneCell' = true) ∧ (Try.prog.info? 86).map (·.size) = some cs.length ∧
      W1.cell? ⟨a, 1, none⟩ = some (.slice (some ⟨g, 0, none⟩) N c) ∧ W1.cell? ⟨g, k * 65, none⟩ = some (.int .i64 (p.users : Int)) ∧ W1.frozen? ⟨g, k * 65, none⟩ = false ∧
      PoolAt (W1.setCell ⟨g, k * 65, none⟩ (.int .i64 ((p.users : Int) - 1))) a F ((L.set j ⟨1, p.bytes⟩).set k ⟨p.users - 1, p.bytes⟩) ∧ Turn F w1 (W1.setCell ⟨g, k * 65, none⟩ (.int .i64 ((p.users : Int) - 1))) := by
  obtain ⟨vs, vf, cap, ps, fr, hM, ok, rfl, hL⟩ := h1
  have hpj : ps[j]? = some ⟨1, blank⟩ := pad_used (cap := cap) (by rw [← hL, List.getElem?_set_self hj]) (by simp)
  have hpk : ps[k]? = some p := pad_used (cap := cap) (by rw [← hL, List.getElem?_set_ne (fun e => hne e.symm)]; exact hk) (by omega)
  have hsk := hM.sized k p hpk
  have hjl := (List.getElem?_eq_some_iff.1 hpj).1
  have hkl := (List.getElem?_eq_some_iff.1 hpk).1
  obtain ⟨g, c, rfl, g1, g2, g3, g4, g5, g6, -, g7, -, -⟩ := hM.page hpk
  obtain ⟨_, _, he, -, -, -, -, -, -, -, -, g8, g9⟩ := hM.page hpj
  simp only [Value.slice.injEq, Option.some.injEq, Addr.mk.injEq, and_true] at he
  obtain ⟨rfl, -, rfl⟩ := he
  have hM1 := hM.drewN 1
  obtain ⟨hM2, t2⟩ := hM1.put (o := 1) (cs := bcells p.bytes) ⟨1, p.bytes⟩ hpj hsk (by rw [bcells_len, hsk]; decide) (put_all ⟨1, blank⟩ p.bytes hsk rfl)
  have hpk2 : (ps.set j ⟨1, p.bytes⟩)[k]? = some p := by rw [List.getElem?_set_ne (fun e => hne e.symm)]; exact hpk
  obtain ⟨_, _, he, -, -, -, -, -, e2, -, -, -, f2⟩ := hM2.page hpk2
  simp only [Value.slice.injEq, Option.some.injEq, Addr.mk.injEq, and_true] at he
  obtain ⟨rfl, -, rfl⟩ := he
  obtain ⟨hM3, t3⟩ := hM2.put (o := 0) (cs := [.int .i64 ((p.users - 1 : Nat) : Int)]) ⟨p.users - 1, p.bytes⟩ hpk2 hsk (by simp) (put_users p (p.users - 1))
  have hsub : ((p.users - 1 : Nat) : Int) = (p.users : Int) - 1 := by omega
  rw [hsub] at hM3 t3
  have ok2 := ok_set (q := ⟨p.users - 1, p.bytes⟩) (ok_set (q := ⟨1, p.bytes⟩) ok hpj (by simp) (by simp)) hpk2 (by omega) (by simp; omega)
  have hF : ∀ b, b = g → Foot a (.slice (some ⟨g, 0, none⟩) ps.length c) vf b := fun b hb => by subst hb; exact .inr (.inl rfl)
  refine ⟨g, ps.length, c, bcells p.bytes, _, rfl, g4, hM.c1, by omega, by omega, by omega, by omega, g7, fun i hi => ⟨?_, g9 _⟩, by rw [bcells_len, hsk], bcells_one _, by rw [size66, bcells_len, hsk], hM2.c1, e2, f2 _, ⟨_, _, cap, _, fr, hM3, ok2, rfl, ?_⟩, ?_⟩
  · have := g8 (1 + i) (by omega)
    rwa [← Nat.add_assoc] at this
  · rw [padP_set _ (by simpa using hkl), padP_set _ hjl, ← hL, List.set_set]
  · exact ((Turn.refl _ w1).drewN 1).trans ((t2.mono (fun b hb => .inl (hF b hb))).trans t3 (fun b hb => .inl (hF b hb))) (fun b hb => .inl hb)

set_option maxRecDepth 20000 in
set_option maxHeartbeats 2000000 in
theorem own_more {w : World} {a : Nat} {F : Nat → Prop} {L : List Pg} (h : PoolAt w a F L) (k : Nat) (p : Pg) (hk : L[k]? = some p) (hu : 2 ≤ p.users) (hm : p.users < 4611686018427387904) (hl : lowOf L < L.length) :
    Calls Try.prog 19 #[.pointer (some ⟨a, 0, none⟩), .int .i64 k] w fun e w' => e = .returned (.tuple #[.int .i64 (lowOf L), .int .i64 0]) ∧
      ∃ F', PoolAt w' a F' ((L.set (lowOf L) ⟨1, p.bytes⟩).set k ⟨p.users - 1, p.bytes⟩) ∧ Turn F w w' ∧ ∀ j, F' j → F j ∨ w.heap.size ≤ j := by
  have c1 := users_any h k
  have c2 := alloc_any h
  have hlen := h.len
  unfold allocV allocS allocL at c2
  rw [if_pos hl, if_pos hl, if_pos hl] at c2
  have hkl := (List.getElem?_eq_some_iff.1 hk).1
  have hpu : usersL L k = p.users := by unfold usersL; rw [pgAt_nat]; simp [List.getD, hk]
  rw [hpu] at c1
  have hne : k ≠ lowOf L := fun e => by
    have := List.findIdx_getElem (p := isFree) (xs := L) (w := hl)
    have e2 : L[lowOf L]? = some p := by rw [← e]; exact hk
    have e3 : L[lowOf L]'hl = p := by rw [List.getElem?_eq_getElem hl] at e2; exact Option.some.inj e2
    unfold lowOf at e3
    rw [e3] at this
    simp [isFree] at this
    omega
  have HS := Lib.hid (fun w1 (F1 : Nat → Prop) (h1 : PoolAt w1 a F1 (L.set (lowOf L) ⟨1, blank⟩)) => own_step h1 hl hk hu hne)
  have b1 : ((p.users : Int) == 0) = false := by simp; omega
  have b2 : ((p.users : Int) == 1) = false := by simp; omega
  generalize lowOf L = j at *
  generalize hpu0 : p.users = u at *
  have hne2 := hne
  have HU := Lib.hid hpu0
  clear h hk hpu hne hpu0
  have hkj : ¬ k * 65 = j * 65 := by omega
  have hun := array66
  have j0 : (0 : Int) ≤ (j : Int) := by omega
  have k0 : (0 : Int) ≤ (k : Int) := by omega
  go_enter Try.func19, Try.ntmps19
  go_wp2_with (first
    | (go_at_call 27; (with_reducible refine c1.mono ?_); rintro e w' ⟨rfl, rfl⟩)
    | (go_at_call 14; (with_reducible refine c2.mono ?_); rintro e w1 ⟨rfl, F1, h1, t1, l1⟩; obtain ⟨g, N, c, cs, W1, hW, hag, d1, g1, g2, g3, g4, hr, hth, hcl, hc1, hci, d2, e2, f2, hfin, tfin⟩ := HS.out w1 F1 h1; have HW := Lib.hid hW; have KD := Lib.hid (And.intro d2 (And.intro e2 f2)); have KF := Lib.hid (And.intro hfin (And.intro tfin (And.intro t1 l1))); clear h1 t1 l1 hfin tfin hW d2 e2 f2))
  go_region_held3 (fun w' => w'.cell? ⟨a, 1, none⟩ = some (.slice (some ⟨g, 0, none⟩) N c) ∧ w'.rangeAt g (k * 65 + 1) cs ∧ w'.there g (j * 65 + 1) 64)
    ((go_split_ands; (try simp only [World.rangeAt_drew, World.there_drew] at *); refine ⟨?_, ?_, ?_⟩ <;> first | assumption | (rw [World.cell?_setCells_out _ _ _ _ _ (fun hb _ => absurd hb hag)]; assumption) | (refine World.rangeAt_setCells_apart (by assumption) _ _ _ (by simp only [List.toList_toArray]; omega)) | (refine World.rangeAt_setCells_apart (by assumption) _ _ _ (by omega)) | (apply World.there_setCells; assumption)))
    (fail)
  rw [HW.out]
  obtain ⟨d2, e2, f2⟩ := KD.out
  clear d1 hr hth hcl hc1 hci hun
  go_wp2
  go_ret2
  obtain ⟨q1, q2, q3, q4⟩ := KF.out
  exact ⟨rfl, F1, q1, q3.trans q2 q4, q4⟩

def ownV (L : List Pg) (f : Int) : Int := if usersL L f = 0 then 0 else if usersL L f = 1 then f else allocV L
def ownS (L : List Pg) (f : Int) : Int := if usersL L f = 0 then -25 else if usersL L f = 1 then 0 else allocS L
def ownL (L : List Pg) (f : Int) : List Pg := if usersL L f ≤ 1 then L else if lowOf L < L.length then (L.set (lowOf L) ⟨1, (pgAt L f).bytes⟩).set f.toNat ⟨usersL L f - 1, (pgAt L f).bytes⟩ else L
theorem pgAt_used {L : List Pg} {f : Int} (h : usersL L f ≠ 0) : ∃ (k : Nat) (p : Pg), f = k ∧ L[k]? = some p ∧ pgAt L f = p := by
  have hf : ¬ f < 0 := fun hf => h (by unfold usersL; rw [pgAt_neg _ hf]; rfl)
  obtain ⟨k, rfl⟩ : ∃ k : Nat, f = k := ⟨f.toNat, by omega⟩
  have hlt : k < L.length := by
    rcases Nat.lt_or_ge k L.length with h' | h'
    · exact h'
    · exfalso
      apply h
      unfold usersL
      rw [pgAt_nat, List.getD_eq_getElem?_getD, List.getElem?_eq_none h']; rfl
  exact ⟨k, L[k], rfl, List.getElem?_eq_getElem hlt, by rw [pgAt_nat]; simp [List.getD, List.getElem?_eq_getElem hlt]⟩

set_option maxRecDepth 20000 in
theorem own_any {w : World} {a : Nat} {F : Nat → Prop} {L : List Pg} (h : PoolAt w a F L) (f : Int) (hm : usersL L f < 4611686018427387904) :
    Calls Try.prog 19 #[.pointer (some ⟨a, 0, none⟩), .int .i64 f] w fun e w' => e = .returned (.tuple #[.int .i64 (ownV L f), .int .i64 (ownS L f)]) ∧
      ∃ F', PoolAt w' a F' (ownL L f) ∧ Turn F w w' ∧ ∀ j, F' j → F j ∨ w.heap.size ≤ j := by
  have c1 := users_any h f
  unfold ownV ownS ownL
  by_cases h0 : usersL L f = 0
  · rw [if_pos h0, if_pos h0, if_pos (by omega)]
    rw [h0] at c1
    have HP := Lib.hid h
    clear h h0 hm
    go_enter Try.func19, Try.ntmps19
    go_wp2_with (go_at_call 27; (with_reducible refine c1.mono ?_); rintro e w' ⟨rfl, rfl⟩)
    go_ret2
    exact ⟨rfl, F, HP.out, Turn.refl _ _, fun j hj => .inl hj⟩
  · by_cases h1 : usersL L f = 1
    · rw [if_neg h0, if_pos h1, if_neg h0, if_pos h1, if_pos (by omega)]
      rw [h1] at c1
      have HP := Lib.hid h
      clear h h0 hm h1
      go_enter Try.func19, Try.ntmps19
      go_wp2_with (go_at_call 27; (with_reducible refine c1.mono ?_); rintro e w' ⟨rfl, rfl⟩)
      go_ret2
      exact ⟨rfl, F, HP.out, Turn.refl _ _, fun j hj => .inl hj⟩
    · rw [if_neg h0, if_neg h1, if_neg h0, if_neg h1, if_neg (by omega)]
      unfold allocV allocS
      by_cases hl : lowOf L < L.length
      · rw [if_pos hl, if_pos hl, if_pos hl]
        obtain ⟨k, p, rfl, hk, hg⟩ := pgAt_used h0
        have hpu : usersL L k = p.users := by unfold usersL; rw [hg]
        rw [hg, hpu, Int.toNat_natCast]
        exact own_more h k p hk (by omega) (by omega) hl
      · rw [if_neg hl, if_neg hl, if_neg hl]
        have c2 := alloc_any h
        unfold allocV allocS allocL at c2
        rw [if_neg hl, if_neg hl, if_neg hl] at c2
        have b1 : ((usersL L f : Int) == 0) = false := by simp; omega
        have b2 : ((usersL L f : Int) == 1) = false := by simp; omega
        generalize (usersL L f : Int) = u at *
        clear h h0 h1 hm hl
        go_enter Try.func19, Try.ntmps19
        go_wp2_with (first
          | (go_at_call 27; (with_reducible refine c1.mono ?_); rintro e w' ⟨rfl, rfl⟩)
          | (go_at_call 14; (with_reducible refine c2.mono ?_); rintro e w1 ⟨rfl, F1, h1, t1, l1⟩; have KF := Lib.hid (And.intro h1 (And.intro t1 l1)); clear h1 t1 l1))
        go_ret2
        exact ⟨rfl, F1, KF.out⟩
end Go.Proofs.Ytgcjjgljllephaa
