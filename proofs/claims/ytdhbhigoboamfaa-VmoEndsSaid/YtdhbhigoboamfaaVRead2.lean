/-
  Read of a range that is within: the walk. No conditions but that the set is one that calls can make.
-/
import Derived.Test.YtdhbhigoboamfaaVRead
namespace Go.Proofs.Ytdhbhigoboamfaa
open Go.ChangeShapes Go.WideShapes Go.ChangeAt Go.RowKit

theorem byts_news {w : World} {v : Value} {bs : List UInt8} {m : Nat} (h : Byts v bs w) (hl : bs.length = m) (hm : 0 < m) : ∃ g c, v = .slice (some ⟨g, 0, none⟩) m c ∧ g < w.heap.size ∧ ∀ j u, (bcells bs)[j]? = some u → w.cell? ((⟨g, 0, none⟩ : Addr).add j) = some u := by
  subst hl
  obtain ⟨g, c, rfl, -, -⟩ := own_shape h hm
  unfold Byts at h
  refine ⟨g, c, rfl, ?_, fun j u hu => ?_⟩
  · obtain ⟨cur, hb⟩ := own_block h (k := g) rfl
    exact lt_of_block hb
  · have hj : j < bs.length := by
      have := (List.getElem?_eq_some_iff.1 hu).1
      rwa [bcells_len] at this
    rw [add_plain, Nat.zero_add, h.cellAt j (by omega), hu]
section
variable {w : World} {s : Nat} {r : Rep} {M : Mod}
set_option maxRecDepth 20000 in
set_option maxHeartbeats 4000000 in
theorem read8_ok (h : SMem w s r M) (hc : Chain M.O) (hh : Held M) (hmd : M.made < 4611686018427387904) {i : Int} {o : Ob} (hi : fit i) (hO : M.O i = some o) (hd : o.drp = false) (t n : Nat) (hn : n ≤ 4096) (htn : t + n ≤ o.size)
    {j : Int} {q : Ob} {t' : Nat} (hR : rootI M.O o.depth i (t : Int) = (j, (t' : Int))) (hq : M.O j = some q) (ht' : t' ≤ 1152921504606846976) :
    Calls Try.prog 18 #[.pointer (some ⟨s, 0, none⟩), .int .i64 i, .int .i64 t, .int .i64 n] w fun e w' => ∃ u, e = .returned (.tuple #[u, .int .i64 0]) ∧ Byts u (readAll ⟨M.L, q.pgs, q.cnt⟩ t' n) w' ∧ (∀ j, Blk u j → w.heap.size ≤ j) ∧ Turn NoBlock w w' := by
  obtain ⟨iv, hi5, hz0, hz1, hz2⟩ := info_parts info5
  obtain ⟨a, pb, hA, hB, hcell, hpm⟩ := h.live hO
  have c49 := find_yes h i hi hO hd hA
  have hsm := hc.small i o hO
  have c50 := fun w => within_yes (t : Int) (n : Int) (o.size : Int) w (by omega) (by omega)
  have d0 := (ocells hcell).c0
  have HBh := Lib.hid (fun w' (tt : Turn NoBlock w w') => show Calls Try.prog 51 #[.pointer (some ⟨s, 0, none⟩), .pointer (some ⟨a, 0, none⟩), .int .i64 (t : Int)] w' fun e w2 => ∃ a', r.A j = some a' ∧ e = .returned (.tuple #[.pointer (some ⟨a', 0, none⟩), .int .i64 (t' : Int)]) ∧ Turn NoBlock w w2 from (behind_any (h.past tt) hc hmd hO hA (t : Int) (by omega) (by have := hsm.2.2; omega)).mono fun e w2 hw => by
    obtain ⟨j', q', a', k1, k2, k3, k4, k5, k6⟩ := hw
    rw [hR] at k4 k5
    simp only at k4
    subst k4
    rw [hq] at k1
    cases k1
    obtain ⟨m, rfl⟩ := k6
    exact ⟨a', k2, k5, tt.drewN m⟩)
  have HP := Lib.hid (fun w' (tt : Turn NoBlock w w') => (parts_any t' n w' (by omega) hn).mono fun e w2 hw => by
    obtain ⟨v, k1, k2, k3, k4⟩ := hw
    obtain ⟨gp, cp, rfl⟩ := k2.shape
    exact (⟨gp, cp, k1, k2, k3⟩ : ∃ gp cp, e = .returned (.slice gp (partsL t' n).length cp) ∧ Parts (.slice gp (partsL t' n).length cp) (partsL t' n) w2 ∧ Turn NoBlock w' w2))
  have HBy := Lib.hid (fun w' (tt : Turn NoBlock w w') a' (hA' : r.A j = some a') p (hp : p ∈ partsL t' n) => by
    obtain ⟨x, pb', hx1, hx2, -, -⟩ := h.live hq
    rw [hA'] at hx1
    cases hx1
    have hm := parts_mem hp
    exact bytes8_any (h.past tt) hq hA' hx2 p (by omega) hm.2.1 (fun z f hz => hh j q z f hq hz))
  have HBl := Lib.hid (fun p (hp : p ∈ partsL t' n) => byteL_len (S := ⟨M.L, q.pgs, q.cnt⟩) h.pool p (parts_mem hp).2.1)
  have q1 : iv.bytes * n ≤ 281474976710656 := by rw [hz2]; omega
  have q2 : n ≤ maxLen := by unfold maxLen; omega
  have hn0 : ¬ (n : Int) < 0 := by omega
  have hn1 : ¬ (4096 : Int) < (n : Int) := by omega
  have hPl := Lib.hid (Nat.le_trans (parts_len t' n) hn)
  have hPm := Lib.hid (fun p (hp : p ∈ partsL t' n) => (parts_mem hp).2)
  unfold readAll
  generalize partsL t' n = ps at *
  have hps2 : (ps.length : Int) ≤ 4096 := by have := hPl.out; omega
  have HT0 := Lib.hid (Turn.refl NoBlock w)
  generalize hS : (⟨M.L, q.pgs, q.cnt⟩ : PL) = S at *
  clear h hc hh hmd hi hO hd hn htn hR hq ht' hA hB hcell hpm hsm hS
  go_enter Try.func18, Try.ntmps18
  go_wp2_with (first
    | (go_at_call 49; (with_reducible refine c49.mono ?_); rintro e w1 ⟨rfl, rfl⟩)
    | (go_at_call 50; (with_reducible refine (c50 _).mono ?_); rintro e w1 ⟨rfl, rfl⟩)
    | (go_at_call 52; (with_reducible refine (HP.out _ (by assumption)).mono ?_); rintro e w3 ⟨gp, cp, rfl, k2, k3⟩; have K3 := Lib.hid (And.intro k2 k3); clear k2 k3)
    | (go_at_call 51; (with_reducible refine (HBh.out _ HT0.out).mono ?_); rintro e w2 ⟨a', hA', rfl, T2⟩; have HA' := Lib.hid hA'; clear hA')
    | (at_make; refine wpList_make_own _ rfl _ _ 22 rfl 0 5 iv _ 1 bytes31 hi5 hz0 hz1 .i64 .i64 _ n rfl rfl rfl q1 q2 (Nat.zero_le _) ?_; intro w4 hown hgrow; have T4 : Turn NoBlock w w4 := T2.grown hgrow (fun k e => by cases e); have K4 := Lib.hid (And.intro hown (And.intro hgrow T2)); clear hown hgrow T2))
  go_loopg [12, 51] ps.length (fun g s12 s51 wr => ∃ (k : Nat) (acc : List UInt8) (gu : Option Addr) (N cu : Nat), g = ps.length - k ∧ k ≤ ps.length ∧ s12 = .slice gu N cu ∧ s51 = .int .i64 k ∧ Hid (RIn w wr S (.slice gp ps.length cp) ps (.slice gu N cu) acc k ∧ acc.length = N))
  case atStart =>
    obtain ⟨k1, k2, k3⟩ := K4.out
    obtain ⟨k4, k5⟩ := K3.out
    refine ⟨0, [], _, 0, n, rfl, by omega, rfl, rfl, ⟨⟨k4, (show Byts _ [] _ from k5.own k1 (fun _ _ h => h)), rfl, T4.trans k5 (fun _ h => .inl h), fun j hj => ?_, by simp⟩, rfl⟩⟩
    simp [Blk, Value.ownBlock] at hj
    have := k3.size
    omega
  case round =>
    obtain ⟨k, acc, gu, N, cu, hg, hk, rfl, rfl, HA⟩ := hrel
    by_cases hlt : k < ps.length
    · obtain ⟨p, hp⟩ : ∃ p, ps[k]? = some p := ⟨_, List.getElem?_eq_getElem hlt⟩
      obtain ⟨gb, cb, he, hkl, e0, e1, e2⟩ := HA.out.1.parts.at hp
      simp only [Value.slice.injEq] at he
      obtain ⟨rfl, -, rfl⟩ := he
      have hpm := hPm.out p (List.mem_of_getElem? hp)
      have hbl := HBl.out p (List.mem_of_getElem? hp)
      have hklI : (k : Int) < (ps.length : Int) := by omega
      have hacc := HA.out.1.len
      rw [HA.out.2] at hacc
      have hpl := hPl.out
      have ta : ∀ ob, Turn NoBlock wr (wr.alloc ob) := fun ob => (Turn.refl NoBlock wr).alloc ob
      have cB := fun ob => HBy.out _ (HA.out.1.turn.trans (ta ob) (fun _ h => .inl h)) a' HA'.out p (List.mem_of_getElem? hp)
      have HO := Lib.hid (fun ob w5 (t5 : Turn NoBlock (wr.alloc ob) w5) => show w5.ownsRow 0 5 1 (.slice gu N cu) N (bcells acc) from by
        have := (ta ob).trans t5 (fun _ h => .inl h) |>.own HA.out.1.own (fun _ _ h => h)
        rwa [HA.out.2] at this)
      have hvu : ∀ j, Blk (.slice (some ⟨gb, 0, none⟩) ps.length cp) j → ¬ Blk (.slice gu N cu) j := fun j h1 h2 => ne_own2 HA.out.1.parts HA.out.1.own (by decide) h1 h2
      have HPs := Lib.hid (fun (wx w1 : World) (t : Turn NoBlock wr wx) g c (hown : w1.ownsRow 0 5 1 (.slice (some ⟨g, 0, none⟩) (N + (byteL S p).length) c) (N + (byteL S p).length) (bcells acc ++ bcells (byteL S p))) hgrow hat =>
        RIn.push (w1 := w1) (g := g) (c := c) HA.out.1 t hp hvu rfl (by rw [hbl]; omega) HA.out.2 hown hgrow hat)
      obtain ⟨pg, pat, pn⟩ := p
      simp only [ptV] at e0 e1 e2 hpm hbl cB
      generalize hbs : byteL S ⟨pg, pat, pn⟩ = bs at *
      rw [hbl] at HPs
      have q3 : N + pn ≤ maxLen := by unfold maxLen; omega
      have q4 : (N + pn) * 1 ≤ 140737488355328 := by omega
      have HB2 := Lib.hid (And.intro hbl hpm.2)
      have HQ := Lib.hid (And.intro q3 q4)
      clear hvu hpm hbl hacc hpl hp hkl ta q3 q4 hbs
      go_wp2_with (first
        | (go_at_call 54; (with_reducible refine (cB _).mono ?_); rintro e w5 ⟨v5, rfl, hb5, hf5, t5⟩; obtain ⟨g5, c5, rfl, hg5, hn5⟩ := byts_news hb5 HB2.out.1 HB2.out.2; have KT := Lib.hid t5; have KB := Lib.hid (And.intro hb5 hn5); clear t5 hb5 hf5 hn5)
        | (at_builtin; refine wpList_append_lies _ rfl (.tmp 55) (.tmp 59) 22 rfl 0 5 iv _ 1 1 bytes31 hi5 hz0 hz1 hz2 rfl (by decide) (.slice gu N cu) N (bcells acc) rfl (HO.out _ _ KT.out) ⟨g5, 0, none⟩ pn c5 (bcells bs) rfl (by rw [bcells_len, HB2.out.1, Nat.mul_one]) KB.out.2 (bcells_one _) HB2.out.2 HQ.out.1 HQ.out.2 (Nat.zero_le _) _ rfl ?_; intro g6 c6 w6 hown hgrow hat hlt6; have K6 := Lib.hid (HPs.out _ w6 (((Turn.refl NoBlock wr).alloc _).trans KT.out (fun _ h => .inl h)) g6 c6 hown hgrow hat); clear hown hgrow hat))
      go_roundg (ps.length - (k + 1))
      case measure => omega
      case rel => exact ⟨k + 1, acc ++ bs, _, N + pn, c6, rfl, by omega, rfl, by go_num, ⟨K6.out, by rw [List.length_append, HA.out.2, HB2.out.1]⟩⟩
    · obtain rfl : k = ps.length := by omega
      go_wp2
      go_ret2
      obtain ⟨h1, h2⟩ := HA.out
      have e := h1.eq
      rw [List.take_of_length_le (Nat.le_refl _)] at e
      exact ⟨_, rfl, e ▸ h1.own, h1.fresh, h1.turn⟩
end
end Go.Proofs.Ytdhbhigoboamfaa
