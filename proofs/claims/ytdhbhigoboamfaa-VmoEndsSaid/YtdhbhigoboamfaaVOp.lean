/-
  Op: commit and decommit of whole pages that are within. No conditions but that the set is one that calls can make.
-/
import Derived.Test.YtdhbhigoboamfaaVRel
import Derived.Test.YtdhbhigoboamfaaVRead
namespace Go.Proofs.Ytdhbhigoboamfaa
open Go.ChangeShapes Go.WideShapes Go.ChangeAt Go.RowKit

section
variable {w : World} {s : Nat} {r : Rep} {M : Mod}
theorem behind_at (h : SMem w s r M) (hc : Chain M.O) (hmd : M.made < 4611686018427387904) {i : Int} {o : Ob} {a : Nat} (hO : M.O i = some o) (hA : r.A i = some a) (t n : Nat) (htn : t + n ≤ o.size) {j : Int} {t' a' : Nat} (hR : rootI M.O o.depth i (t : Int) = (j, (t' : Int))) (hA' : r.A j = some a') :
    ∀ w', Turn NoBlock w w' → Calls Try.prog 51 #[.pointer (some ⟨s, 0, none⟩), .pointer (some ⟨a, 0, none⟩), .int .i64 (t : Int)] w' fun e w2 => e = .returned (.tuple #[.pointer (some ⟨a', 0, none⟩), .int .i64 (t' : Int)]) ∧ Turn NoBlock w w2 := fun w' tt => by
  have hsm := hc.small i o hO
  refine (behind_any (h.past tt) hc hmd hO hA (t : Int) (by omega) (by have := hsm.2.2; omega)).mono ?_
  rintro e w2 ⟨j', q', a2, k1, k2, k3, k4, k5, k6⟩
  rw [hR] at k4 k5
  simp only at k4
  subst k4
  rw [hA'] at k2
  cases k2
  obtain ⟨m, rfl⟩ := k6
  exact ⟨k5, tt.drewN m⟩
theorem parts_at (h : SMem w s r M) (t' n : Nat) (hn : n ≤ 4096) (ht' : t' ≤ 1152921504606846976) : ∀ w', Turn NoBlock w w' → Calls Try.prog 52 #[.int .i64 t', .int .i64 n] w' fun e w2 =>
    ∃ gp cp, e = .returned (.slice gp (partsL t' n).length cp) ∧ Parts (.slice gp (partsL t' n).length cp) (partsL t' n) w2 ∧ Turn NoBlock w w2 ∧ ∀ j, Blk (.slice gp (partsL t' n).length cp) j → ¬ SFoot s r j := fun w' tt =>
  (parts_any t' n w' (by omega) hn).mono fun e w2 hw => by
    obtain ⟨v, k1, k2, k3, k4⟩ := hw
    obtain ⟨gp, cp, rfl⟩ := k2.shape
    exact ⟨gp, cp, k1, k2, tt.trans k3 (fun _ h => .inl h), fun j hj hF => by have h1 := k4 j hj; have h2 := h.lt hF; have h3 := tt.size; omega⟩

set_option maxRecDepth 20000 in
set_option maxHeartbeats 1000000 in
theorem op1_no (h : SMem w s r M) (hc : Chain M.O) (hmd : M.made < 4611686018427387904) {i : Int} {o : Ob} (hi : fit i) (hO : M.O i = some o) (hd : o.drp = false) (t n : Nat) (ht : t % 64 = 0) (hn6 : n % 64 = 0) (hn : n ≤ 4096) (htn : t + n ≤ o.size)
    {j : Int} {q : Ob} {t' : Nat} (hR : rootI M.O o.depth i (t : Int) = (j, (t' : Int))) (hq : M.O j = some q) (ht' : t' ≤ 1152921504606846976) (hl : roomN M.L < (lackN ⟨M.L, q.pgs, q.cnt⟩ (partsL t' n) : Nat)) :
    Calls Try.prog 29 #[.pointer (some ⟨s, 0, none⟩), .int .i64 i, .int .i64 1, .int .i64 t, .int .i64 n] w fun e w' => e = .returned (.int .i64 (-4)) ∧ Turn NoBlock w w' := by
  obtain ⟨a, pb, hA, hB, hcell, hpm⟩ := h.live hO
  obtain ⟨a', pb', hA', hB', -, -⟩ := h.live hq
  have c49 := find_yes h i hi hO hd hA
  have hsm := hc.small i o hO
  have c50 := fun w => within_yes (t : Int) (n : Int) (o.size : Int) w (by omega) (by omega)
  have cw := fun w => whole_any (t : Int) (n : Int) w
  rw [show (decide ((t : Int) % 64 = 0) && decide ((n : Int) % 64 = 0)) = true from by rw [decide_eq_true (by omega), decide_eq_true (by omega)]; rfl] at cw
  have d0 := (ocells hcell).c0
  have HBh := Lib.hid (behind_at h hc hmd hO hA t n htn hR hA')
  have HP := Lib.hid (parts_at h t' n hn ht')
  have HC := Lib.hid (fun w' (tt : Turn NoBlock w w') u (hu : Parts u (partsL t' n) w') =>
    (commit_no (h.past tt) hq hA' hB' hu (Nat.le_trans (parts_len t' n) hn) (fun p hp => by have := (parts_mem hp).1; omega) hl).mono fun e w2 hw => (⟨hw.1, tt.trans hw.2 (fun _ h => .inl h)⟩ : e = .returned (.int .i64 (-4)) ∧ Turn NoBlock w w2))
  have HT0 := Lib.hid (Turn.refl NoBlock w)
  have hn1 : ¬ (4096 : Int) < (n : Int) := by omega
  generalize partsL t' n = ps at *
  clear h hc hmd hi hO hd ht hn6 hn htn hR hq ht' hl hA hB hcell hpm hA' hB' hsm
  go_enter Try.func29, Try.ntmps29
  go_wp2_with (first
    | (go_at_call 49; (with_reducible refine c49.mono ?_); rintro e w1 ⟨rfl, rfl⟩)
    | (go_at_call 59; (with_reducible refine (cw _).mono ?_); rintro e w1 ⟨rfl, rfl⟩)
    | (go_at_call 50; (with_reducible refine (c50 _).mono ?_); rintro e w1 ⟨rfl, rfl⟩)
    | (go_at_call 53; (with_reducible refine (HC.out _ K3.out.2.1 _ K3.out.1).mono ?_); rintro e w4 ⟨rfl, k1⟩; have K4 := Lib.hid k1; clear k1)
    | (go_at_call 52; (with_reducible refine (HP.out _ T2).mono ?_); rintro e w3 ⟨gp, cp, rfl, k1, k2, k3⟩; have K3 := Lib.hid (And.intro k1 (And.intro k2 k3)); clear k1 k2 k3)
    | (go_at_call 51; (with_reducible refine (HBh.out _ HT0.out).mono ?_); rintro e w2 ⟨rfl, T2⟩))
  go_ret
  exact ⟨rfl, K4.out⟩

set_option maxRecDepth 20000 in
set_option maxHeartbeats 1000000 in
theorem op1_yes (h : SMem w s r M) (hc : Chain M.O) (hmd : M.made < 4611686018427387904) {i : Int} {o : Ob} (hi : fit i) (hO : M.O i = some o) (hd : o.drp = false) (t n : Nat) (ht : t % 64 = 0) (hn6 : n % 64 = 0) (hn : n ≤ 4096) (htn : t + n ≤ o.size)
    {j : Int} {q : Ob} {t' : Nat} (hR : rootI M.O o.depth i (t : Int) = (j, (t' : Int))) (hq : M.O j = some q) (ht' : t' ≤ 1152921504606846976) (hl : (lackN ⟨M.L, q.pgs, q.cnt⟩ (partsL t' n) : Nat) ≤ roomN M.L) (hf : Few M.L) (hcn : q.cnt ≤ 1152921504606846976) :
    Calls Try.prog 29 #[.pointer (some ⟨s, 0, none⟩), .int .i64 i, .int .i64 1, .int .i64 t, .int .i64 n] w fun e w' => e = .returned (.int .i64 0) ∧
      ∃ r', SMem w' s r' (setM M j q (commitAll ⟨M.L, q.pgs, q.cnt⟩ (partsL t' n))) ∧ VNext w s r w' r' := by
  obtain ⟨a, pb, hA, hB, hcell, hpm⟩ := h.live hO
  obtain ⟨a', pb', hA', hB', -, -⟩ := h.live hq
  have c49 := find_yes h i hi hO hd hA
  have hsm := hc.small i o hO
  have c50 := fun w => within_yes (t : Int) (n : Int) (o.size : Int) w (by omega) (by omega)
  have cw := fun w => whole_any (t : Int) (n : Int) w
  rw [show (decide ((t : Int) % 64 = 0) && decide ((n : Int) % 64 = 0)) = true from by rw [decide_eq_true (by omega), decide_eq_true (by omega)]; rfl] at cw
  have d0 := (ocells hcell).c0
  have HBh := Lib.hid (behind_at h hc hmd hO hA t n htn hR hA')
  have HP := Lib.hid (parts_at h t' n hn ht')
  have HC := Lib.hid (fun w' (tt : Turn NoBlock w w') u (hu : Parts u (partsL t' n) w') (hf2 : ∀ j, Blk u j → ¬ SFoot s r j) =>
    (commit_yes (h.past tt) hq hA' hB' hu (Nat.le_trans (parts_len t' n) hn) (fun p hp => by have := (parts_mem hp).1; omega) hl hf2 hf hcn).mono fun e w2 hw => by
      obtain ⟨k1, F, k2⟩ := hw
      exact (⟨k1, _, k2.mem, ⟨(tt.mono (G := SFoot s r) (fun _ h => h.elim)).trans k2.next.turn (fun j hj => .inl hj), fun j hj => (k2.next.foot j hj).imp id (fun h => Nat.le_trans tt.size h)⟩⟩ : e = .returned (.int .i64 0) ∧ ∃ r', SMem w2 s r' (setM M j q (commitAll ⟨M.L, q.pgs, q.cnt⟩ (partsL t' n))) ∧ VNext w s r w2 r'))
  have HT0 := Lib.hid (Turn.refl NoBlock w)
  have hn1 : ¬ (4096 : Int) < (n : Int) := by omega
  generalize partsL t' n = ps at *
  clear h hc hmd hi hO hd ht hn6 hn htn hR hq ht' hl hA hB hcell hpm hA' hB' hsm hf hcn
  go_enter Try.func29, Try.ntmps29
  go_wp2_with (first
    | (go_at_call 49; (with_reducible refine c49.mono ?_); rintro e w1 ⟨rfl, rfl⟩)
    | (go_at_call 59; (with_reducible refine (cw _).mono ?_); rintro e w1 ⟨rfl, rfl⟩)
    | (go_at_call 50; (with_reducible refine (c50 _).mono ?_); rintro e w1 ⟨rfl, rfl⟩)
    | (go_at_call 53; (with_reducible refine (HC.out _ K3.out.2.1 _ K3.out.1 K3.out.2.2).mono ?_); rintro e w4 ⟨rfl, k1⟩; have K4 := Lib.hid k1; clear k1)
    | (go_at_call 52; (with_reducible refine (HP.out _ T2).mono ?_); rintro e w3 ⟨gp, cp, rfl, k1, k2, k3⟩; have K3 := Lib.hid (And.intro k1 (And.intro k2 k3)); clear k1 k2 k3)
    | (go_at_call 51; (with_reducible refine (HBh.out _ HT0.out).mono ?_); rintro e w2 ⟨rfl, T2⟩))
  go_ret
  exact ⟨rfl, K4.out⟩

set_option maxRecDepth 20000 in
set_option maxHeartbeats 1000000 in
theorem op2_yes (h : SMem w s r M) (hc : Chain M.O) (hmd : M.made < 4611686018427387904) {i : Int} {o : Ob} (hi : fit i) (hO : M.O i = some o) (hd : o.drp = false) (t n : Nat) (ht : t % 64 = 0) (hn6 : n % 64 = 0) (hn : n ≤ 4096) (htn : t + n ≤ o.size)
    {j : Int} {q : Ob} {t' : Nat} (hR : rootI M.O o.depth i (t : Int) = (j, (t' : Int))) (hq : M.O j = some q) (ht' : t' ≤ 1152921504606846976) (hf : Few M.L) :
    Calls Try.prog 29 #[.pointer (some ⟨s, 0, none⟩), .int .i64 i, .int .i64 2, .int .i64 t, .int .i64 n] w fun e w' => e = .returned (.int .i64 0) ∧
      ∃ r', SMem w' s r' (setM M j q (relAll ⟨M.L, q.pgs, q.cnt⟩ (partsL t' n))) ∧ VNext w s r w' r' := by
  obtain ⟨a, pb, hA, hB, hcell, hpm⟩ := h.live hO
  obtain ⟨a', pb', hA', hB', -, -⟩ := h.live hq
  have c49 := find_yes h i hi hO hd hA
  have hsm := hc.small i o hO
  have c50 := fun w => within_yes (t : Int) (n : Int) (o.size : Int) w (by omega) (by omega)
  have cw := fun w => whole_any (t : Int) (n : Int) w
  rw [show (decide ((t : Int) % 64 = 0) && decide ((n : Int) % 64 = 0)) = true from by rw [decide_eq_true (by omega), decide_eq_true (by omega)]; rfl] at cw
  have d0 := (ocells hcell).c0
  have HBh := Lib.hid (behind_at h hc hmd hO hA t n htn hR hA')
  have HP := Lib.hid (parts_at h t' n hn ht')
  have HC := Lib.hid (fun w' (tt : Turn NoBlock w w') u (hu : Parts u (partsL t' n) w') (hf2 : ∀ j, Blk u j → ¬ SFoot s r j) =>
    (decommit_any (h.past tt) hq hA' hB' hu (Nat.le_trans (parts_len t' n) hn) (fun p hp => by have := (parts_mem hp).1; omega) hf2 hf).mono fun e w2 hw => by
      obtain ⟨k1, F, k2⟩ := hw
      exact (⟨k1, _, k2.mem, ⟨(tt.mono (G := SFoot s r) (fun _ h => h.elim)).trans k2.next.turn (fun j hj => .inl hj), fun j hj => (k2.next.foot j hj).imp id (fun h => Nat.le_trans tt.size h)⟩⟩ : e = .returned (.tuple #[]) ∧ ∃ r', SMem w2 s r' (setM M j q (relAll ⟨M.L, q.pgs, q.cnt⟩ (partsL t' n))) ∧ VNext w s r w2 r'))
  have HT0 := Lib.hid (Turn.refl NoBlock w)
  have hn1 : ¬ (4096 : Int) < (n : Int) := by omega
  generalize partsL t' n = ps at *
  clear h hc hmd hi hO hd ht hn6 hn htn hR hq ht' hA hB hcell hpm hA' hB' hsm hf
  go_enter Try.func29, Try.ntmps29
  go_wp2_with (first
    | (go_at_call 49; (with_reducible refine c49.mono ?_); rintro e w1 ⟨rfl, rfl⟩)
    | (go_at_call 59; (with_reducible refine (cw _).mono ?_); rintro e w1 ⟨rfl, rfl⟩)
    | (go_at_call 50; (with_reducible refine (c50 _).mono ?_); rintro e w1 ⟨rfl, rfl⟩)
    | (go_at_call 60; (with_reducible refine (HC.out _ K3.out.2.1 _ K3.out.1 K3.out.2.2).mono ?_); rintro e w4 ⟨rfl, k1⟩; have K4 := Lib.hid k1; clear k1)
    | (go_at_call 52; (with_reducible refine (HP.out _ T2).mono ?_); rintro e w3 ⟨gp, cp, rfl, k1, k2, k3⟩; have K3 := Lib.hid (And.intro k1 (And.intro k2 k3)); clear k1 k2 k3)
    | (go_at_call 51; (with_reducible refine (HBh.out _ HT0.out).mono ?_); rintro e w2 ⟨rfl, T2⟩))
  go_ret
  exact ⟨rfl, K4.out⟩
end
end Go.Proofs.Ytdhbhigoboamfaa
