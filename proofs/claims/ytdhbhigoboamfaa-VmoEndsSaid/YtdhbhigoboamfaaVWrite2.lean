/-
  Write. No conditions but that the set is one that calls can make.
-/
import Derived.Test.YtdhbhigoboamfaaVWrite
namespace Go.Proofs.Ytdhbhigoboamfaa
open Go.ChangeShapes Go.WideShapes Go.ChangeAt Go.RowKit

theorem write_pool {w : World} {a : Nat} {F : Nat → Prop} {L : List Pg} (h : PoolAt w a F L) (f b : Int) (v : Value) (bs : List UInt8) (hv : Src w v bs) :
    Calls Try.prog 41 #[.pointer (some ⟨a, 0, none⟩), .int .i64 f, .int .i64 b, v] w fun e w' => (∃ x, e = .returned (.int .i64 x)) ∧ PoolAt w' a F (writeL L f b bs) ∧ Turn F w w' :=
  (write_any h f b v bs hv).mono fun _ _ hh => ⟨⟨_, hh.1⟩, hh.2⟩

section
variable {w : World} {s : Nat} {r : Rep} {M : Mod}
set_option maxRecDepth 20000 in
/-- One round: a part is written. -/
theorem write_round {wr : World} {S : PL} {bs : List UInt8} {vp v : Value} {ps : List Pt} {x : List Pg × List UInt8} {k a pb : Nat} {pg pat pn : Nat} {j : Int} {q : Ob}
    (h : WIn w wr s r M S bs vp ps v x k) (hp : ps[k]? = some ⟨pg, pat, pn⟩) (hpg : pg ≤ 4611686018427387904) (h0 : 0 < pn) (hA : r.A j = some a) (hB : r.B j = some pb) (hq : M.O j = some q) (hS : S.g = q.pgs) :
    ∃ u v2, (∀ w, Sem.run Try.prog (Instr.slice 22 v none (some (.int .i64 (pn : Int))) none) w = .ok u w) ∧ (∀ w, Sem.run Try.prog (Instr.slice 22 v (some (.int .i64 (pn : Int))) none none) w = .ok v2 w) ∧
      ∀ wx, Turn NoBlock wr wx → wx.cell? ⟨wr.heap.size, 0, none⟩ = some (.int .i64 (pg : Int)) → wx.cell? ⟨wr.heap.size, 1, none⟩ = some (.int .i64 (pat : Int)) → wx.cell? ⟨wr.heap.size, 2, none⟩ = some (.int .i64 (pn : Int)) →
        (wx.cell? ⟨s, 0, none⟩ = some (.pointer (some ⟨r.p, 0, none⟩)) ∧ wx.cell? ⟨a, 7, none⟩ = some (.map (some pb)) ∧ Sem.run Try.prog (Instr.lookup 86 (.map (some pb)) (.int .i64 (pg : Int)) false) wx = .ok (.int .i64 (frameOf S ⟨pg, pat, pn⟩)) wx) ∧
        Calls Try.prog 41 #[.pointer (some ⟨r.p, 0, none⟩), .int .i64 (frameOf S ⟨pg, pat, pn⟩), .int .i64 (pat : Int), u] wx fun e w5 => (∃ z, e = .returned (.int .i64 z)) ∧
          Hid (WIn w w5 s r M S bs vp ps v2 (wstep S x ⟨pg, pat, pn⟩) (k + 1)) ∧ w5.cell? ⟨s, 0, none⟩ = some (.pointer (some ⟨r.p, 0, none⟩)) ∧ w5.cell? ⟨a, 7, none⟩ = some (.map (some pb)) ∧
          Sem.run Try.prog (Instr.lookup 86 (.map (some pb)) (.int .i64 (pg : Int)) false) w5 = .ok (.int .i64 (frameOf S ⟨pg, pat, pn⟩)) w5 ∧
          w5.cell? ⟨wr.heap.size, 0, none⟩ = some (.int .i64 (pg : Int)) ∧ w5.cell? ⟨wr.heap.size, 1, none⟩ = some (.int .i64 (pat : Int)) ∧ w5.cell? ⟨wr.heap.size, 2, none⟩ = some (.int .i64 (pn : Int)) := by
  have hsum := h.sum
  rw [drop_sum hp] at hsum
  simp only at hsum
  obtain ⟨u, v2, e1, e2, f1, f2⟩ := h.src.cut pn h0 (by omega)
  refine ⟨u, v2, e1, e2, fun wx t c0 c1 c2 => ?_⟩
  have hfit : fit (pg : Int) := by unfold fit; omega
  have look : ∀ w1 L', SMem w1 s r (setL M L') → w1.cell? ⟨s, 0, none⟩ = some (.pointer (some ⟨r.p, 0, none⟩)) ∧ w1.cell? ⟨a, 7, none⟩ = some (.map (some pb)) ∧ Sem.run Try.prog (Instr.lookup 86 (.map (some pb)) (.int .i64 (pg : Int)) false) w1 = .ok (.int .i64 (frameOf S ⟨pg, pat, pn⟩)) w1 := fun w1 L' m1 => by
    obtain ⟨y, yt, hx1, hx2, hx3, hx4⟩ := m1.live (i := j) (o := q) hq
    rw [hA] at hx1
    rw [hB] at hx2
    cases hx1
    cases hx2
    refine ⟨m1.c0, (ocells hx3).c7, ?_⟩
    have := PMap.look1 hx4 (pg : Int) hfit
    unfold frameOf
    rw [hS]
    exact this
  have hx := h.mem.past t
  refine ⟨look wx x.1 hx, (write_pool hx.pool (frameOf S ⟨pg, pat, pn⟩) pat u (x.2.take pn) ((f1.next ⟨(t.mono (G := SFoot s r) (fun _ h => h.elim)), fun j hj => .inl hj⟩).src)).mono ?_⟩
  rintro e w5 ⟨⟨z, rfl⟩, hP, t5⟩
  have hW := h.step hp t hP t5 f2
  obtain ⟨y0, y7, yl⟩ := look w5 _ hW.mem
  have hn : ¬ r.FP wr.heap.size := fun hF => absurd (h.mem.pool.lt hF) (Nat.lt_irrefl _)
  exact ⟨⟨z, rfl⟩, hW, y0, y7, yl, t5.cell c0 hn, t5.cell c1 hn, t5.cell c2 hn⟩

set_option maxRecDepth 20000 in
set_option maxHeartbeats 4000000 in
theorem write8_ok (h : SMem w s r M) (hc : Chain M.O) (hmd : M.made < 4611686018427387904) {i : Int} {o : Ob} (hi : fit i) (hO : M.O i = some o) (hd : o.drp = false) (t : Nat) (v : Value) (bs : List UInt8) (hv : SrcF w s r v bs) (hn : bs.length ≤ 4096) (htn : t + bs.length ≤ o.size)
    {j : Int} {q : Ob} {t' : Nat} (hR : rootI M.O o.depth i (t : Int) = (j, (t' : Int))) (hq : M.O j = some q) (ht' : t' ≤ 1152921504606846976) (hf : Few M.L) (hcn : q.cnt ≤ 1152921504606846976) (hl : (lackN ⟨M.L, q.pgs, q.cnt⟩ (partsL t' bs.length) : Nat) ≤ roomN M.L) :
    Calls Try.prog 17 #[.pointer (some ⟨s, 0, none⟩), .int .i64 i, .int .i64 t, v] w fun e w' => e = .returned (.int .i64 0) ∧
      ∃ r', SMem w' s r' (setL (setM M j q (commitAll ⟨M.L, q.pgs, q.cnt⟩ (partsL t' bs.length))) (wAll (commitAll ⟨M.L, q.pgs, q.cnt⟩ (partsL t' bs.length)) bs (partsL t' bs.length)).1) ∧ VNext w s r w' r' := by
  obtain ⟨a, pb, hA, hB, hcell, hpm⟩ := h.live hO
  have c49 := find_yes h i hi hO hd hA
  have hsm := hc.small i o hO
  have c50 := fun w => within_yes (t : Int) (bs.length : Int) (o.size : Int) w (by omega) (by omega)
  have d0 := (ocells hcell).c0
  obtain ⟨a', pb', hA', hB', -, -⟩ := h.live hq
  have HBh := Lib.hid (fun w' (tt : Turn NoBlock w w') => show Calls Try.prog 51 #[.pointer (some ⟨s, 0, none⟩), .pointer (some ⟨a, 0, none⟩), .int .i64 (t : Int)] w' fun e w2 => e = .returned (.tuple #[.pointer (some ⟨a', 0, none⟩), .int .i64 (t' : Int)]) ∧ Turn NoBlock w w2 from (behind_any (h.past tt) hc hmd hO hA (t : Int) (by omega) (by have := hsm.2.2; omega)).mono fun e w2 hw => by
    obtain ⟨j', q', a2, k1, k2, k3, k4, k5, k6⟩ := hw
    rw [hR] at k4 k5
    simp only at k4
    subst k4
    rw [hA'] at k2
    cases k2
    obtain ⟨m, rfl⟩ := k6
    exact ⟨k5, tt.drewN m⟩)
  have HP := Lib.hid (fun w' (tt : Turn NoBlock w w') => (parts_any t' bs.length w' (by omega) hn).mono fun e w2 hw => by
    obtain ⟨v, k1, k2, k3, k4⟩ := hw
    obtain ⟨gp, cp, rfl⟩ := k2.shape
    exact (⟨gp, cp, k1, k2, tt.trans k3 (fun _ h => .inl h), fun j hj hF => by have h1 := k4 j hj; have h2 := h.lt hF; have h3 := tt.size; omega⟩ : ∃ gp cp, e = .returned (.slice gp (partsL t' bs.length).length cp) ∧ Parts (.slice gp (partsL t' bs.length).length cp) (partsL t' bs.length) w2 ∧ Turn NoBlock w w2 ∧ ∀ j, Blk (.slice gp (partsL t' bs.length).length cp) j → ¬ SFoot s r j))
  have hpl := Nat.le_trans (parts_len t' bs.length) hn
  have hpm2 := fun p (hp : p ∈ partsL t' bs.length) => parts_mem hp
  have hsum := parts_sum t' bs.length
  generalize hps : partsL t' bs.length = ps at *
  have HC := Lib.hid (fun w' (tt : Turn NoBlock w w') u (hu : Parts u ps w') (hf2 : ∀ j, Blk u j → ¬ SFoot s r j) =>
    (commit_yes (h.past tt) hq hA' hB' hu hpl (fun p hp => by have := (hpm2 p hp).1; omega) hl hf2 hf hcn).mono fun e w2 hw => by
      obtain ⟨k1, F, k2⟩ := hw
      have nx : VNext w s r w2 { r with FP := F } := ⟨(tt.mono (G := SFoot s r) (fun _ h => h.elim)).trans k2.next.turn (fun j hj => .inl hj), fun j hj => (k2.next.foot j hj).imp id (fun h => Nat.le_trans tt.size h)⟩
      exact (⟨k1, F, nx, ⟨rfl, k2.mem, k2.parts, k2.apart, hv.next nx, by simp [hsum], Turn.refl _ _⟩⟩ : e = .returned (.int .i64 0) ∧ ∃ F, VNext w s r w2 { r with FP := F } ∧ WIn w2 w2 s { r with FP := F } (setM M j q (commitAll ⟨M.L, q.pgs, q.cnt⟩ ps)) (commitAll ⟨M.L, q.pgs, q.cnt⟩ ps) bs u ps v ((commitAll ⟨M.L, q.pgs, q.cnt⟩ ps).L, bs) 0))
  obtain ⟨pv, cv, rfl⟩ := hv.len
  have hn1 : ¬ (4096 : Int) < (bs.length : Int) := by omega
  have HG := Lib.hid (And.intro hA' (And.intro hB' (And.intro hpl hpm2)))
  have hps2 : (ps.length : Int) ≤ 4096 := by omega
  have HT0 := Lib.hid (Turn.refl NoBlock w)
  have Ht' := Lib.hid (And.intro ht' hn)
  generalize hCS : commitAll ⟨M.L, q.pgs, q.cnt⟩ ps = CS at *
  clear h hc hmd hi hO hd hn htn hR hq ht' hA hB hcell hpm hsm hv hf hcn hl hA' hB' hpl hpm2 hsum hps
  go_enter Try.func17, Try.ntmps17
  go_wp2_with (first
    | (go_at_call 49; (with_reducible refine c49.mono ?_); rintro e w1 ⟨rfl, rfl⟩)
    | (go_at_call 50; (with_reducible refine (c50 _).mono ?_); rintro e w1 ⟨rfl, rfl⟩)
    | (go_at_call 53; (with_reducible refine (HC.out _ K3.out.2.1 _ K3.out.1 K3.out.2.2).mono ?_); rintro e w4 ⟨rfl, F, k1, k2⟩; have K4 := Lib.hid (And.intro k1 k2); clear k1 k2)
    | (go_at_call 52; (with_reducible refine (HP.out _ T2).mono ?_); rintro e w3 ⟨gp, cp, rfl, k1, k2, k3⟩; have K3 := Lib.hid (And.intro k1 (And.intro k2 k3)); clear k1 k2 k3)
    | (go_at_call 51; (with_reducible refine (HBh.out _ HT0.out).mono ?_); rintro e w2 ⟨rfl, T2⟩))
  have HQ := Lib.hid (show (setM M j q CS).O j = some { q with pgs := CS.g, cnt := CS.c } from updI_same _ _ _)
  go_loopg [3, 56] ps.length (fun g s3 s56 wr => ∃ (k : Nat) (x : List Pg × List UInt8), g = ps.length - k ∧ k ≤ ps.length ∧ s56 = .int .i64 k ∧ Hid (WIn w4 wr s { r with FP := F } (setM M j q CS) CS bs (.slice gp ps.length cp) ps s3 x k))
  case atStart => exact ⟨0, _, rfl, by omega, rfl, K4.out.2⟩
  case round =>
    obtain ⟨k, x, hg, hk, rfl, HA⟩ := hrel
    by_cases hlt : k < ps.length
    · obtain ⟨p, hp⟩ : ∃ p, ps[k]? = some p := ⟨_, List.getElem?_eq_getElem hlt⟩
      obtain ⟨gb, cb, he, hkl, e0, e1, e2⟩ := HA.out.parts.at hp
      simp only [Value.slice.injEq] at he
      obtain ⟨rfl, -, rfl⟩ := he
      have hpm := HG.out.2.2.2 p (List.mem_of_getElem? hp)
      have hklI : (k : Int) < (ps.length : Int) := by omega
      have hslt := HA.out.mem.lt (.inl rfl)
      have halt := HA.out.mem.lt (.inr (.inr (.inr (.inl ⟨j, HG.out.1⟩))) : SFoot s { r with FP := F } a')
      obtain ⟨pg, pat, pn⟩ := p
      simp only at e0 e1 e2 hpm
      obtain ⟨u, v2, z1, z2, hR⟩ := write_round HA.out hp (by have := Ht'.out; have := hpm.1; omega) hpm.2.2 (a := a') (pb := pb') HG.out.1 HG.out.2.1 HQ.out rfl
      have HR := Lib.hid hR
      generalize frameOf CS ⟨pg, pat, pn⟩ = fr at *
      generalize hCo : (Obj.cells #[.int .i64 (pg : Int), .int .i64 (pat : Int), .int .i64 (pn : Int)] 97 : Obj) = ob at *
      have TW : ∀ m, Turn NoBlock wr ((wr.alloc ob).drewN m) := fun m => ((Turn.refl _ _).alloc _).drewN m
      have X0 : ∀ m, ((wr.alloc ob).drewN m).cell? ⟨wr.heap.size, 0, none⟩ = some (.int .i64 (pg : Int)) := fun m => by rw [← hCo]; exact cell_at (heap_alloc_new wr _) 0
      have X1 : ∀ m, ((wr.alloc ob).drewN m).cell? ⟨wr.heap.size, 1, none⟩ = some (.int .i64 (pat : Int)) := fun m => by rw [← hCo]; exact cell_at (heap_alloc_new wr _) 1
      have X2 : ∀ m, ((wr.alloc ob).drewN m).cell? ⟨wr.heap.size, 2, none⟩ = some (.int .i64 (pn : Int)) := fun m => by rw [← hCo]; exact cell_at (heap_alloc_new wr _) 2
      have Y := fun m => (hR _ (TW m) (X0 m) (X1 m) (X2 m)).1
      have Y0 := fun m => (Y m).1
      have Y7 := fun m => (Y m).2.1
      have YL := fun m => (Y m).2.2
      have HY := Lib.hid (And.intro TW (And.intro X0 (And.intro X1 X2)))
      clear Y hR hpm hp hkl
      subst hCo
      go_wp2_with fail
      go_region_held3 (fun w' => w'.cell? ⟨s, 0, none⟩ = some (.pointer (some ⟨r.p, 0, none⟩)) ∧ w'.cell? ⟨a', 7, none⟩ = some (.map (some pb')) ∧ w'.cell? ⟨wr.heap.size, 0, none⟩ = some (.int .i64 (pg : Int)) ∧ w'.cell? ⟨wr.heap.size, 1, none⟩ = some (.int .i64 (pat : Int)) ∧ w'.cell? ⟨wr.heap.size, 2, none⟩ = some (.int .i64 (pn : Int)) ∧ Sem.run Try.prog (Instr.lookup 86 (.map (some pb')) (.int .i64 (pg : Int)) false) w' = .ok (.int .i64 fr) w') ((refine ⟨?_, ?_, ?_, ?_, ?_, ?_⟩ <;> (first | assumption | exact Y0 1 | exact Y7 1 | exact X0 1 | exact X1 1 | exact X2 1 | exact YL 1)))
        (first
          | (go_at_call 41; (refine (HR.out _ (TW 1) (X0 1) (X1 1) (X2 1)).2.mono ?_); rintro e w5 ⟨⟨z5, rfl⟩, K5, y0, y7, yl, x0, x1, x2⟩))
      all_goals
        go_wp2
        go_roundg (ps.length - (k + 1))
        case measure => omega
        case rel => exact ⟨k + 1, _, rfl, by omega, by go_num, K5.out⟩
    · obtain rfl : k = ps.length := by omega
      go_wp2
      go_ret
      have hx := HA.out.eq
      rw [List.take_of_length_le (Nat.le_refl _)] at hx
      rw [← hx]
      exact ⟨rfl, _, HA.out.mem, ⟨K4.out.1.turn.trans HA.out.turn (fun j hj => K4.out.1.foot j hj), K4.out.1.foot⟩⟩
end
end Go.Proofs.Ytdhbhigoboamfaa
