/-
  SpaceDrops' walk.
-/
import Derived.Test.YtdddmjdlikjedaaGreatLawDr
namespace Go.Proofs.YtdddmjdlikjedaaGreat
open Go.ChangeShapes Go.WideShapes Go.ChangeAt Go.RowKit

theorem uses_put (l : List Pc) (k : Nat) (p : Pc) (i : Int) : usesN (putL l k p) i = usesN l i + (if p.vmo = i then 1 else 0) := by
  unfold usesN putL
  rw [List.filter_append, List.filter_append, List.length_append, List.length_append]
  have h : (l.filter (fun p => decide (p.vmo = i))).length = ((l.take k).filter (fun p => decide (p.vmo = i))).length + ((l.drop k).filter (fun p => decide (p.vmo = i))).length := by
    rw [← List.length_append, ← List.filter_append, List.take_append_drop]
  rw [h]
  by_cases e : p.vmo = i
  · simp [e]
    omega
  · simp [e]
/-- The pieces of the first loop, and those behind them. -/
def DrP (n : Nat) (p : Pc) : Prop := p.at' % 64 = 0 ∧ p.len = 64 ∧ 0 ≤ p.at' ∧ (p.at' < 64 * (n : Int) → p.vmo = p.at' / 64 + 1 ∧ p.from' = 0 ∧ p.prot = 3)
/-- Behind k objects. -/
structure D1 (w0 w : World) (c s a : Nat) (k : Nat) (d : Int) : Prop where
  ex : ∃ r l, SpS w0 c s a 1024 20 r (Mk k) l w ∧ RunQ l (64 * (k : Int)) (fun p => p.at' % 64 = 0 ∧ p.len = 64 ∧ 0 ≤ p.at' ∧ p.vmo = p.at' / 64 + 1 ∧ p.from' = 0 ∧ p.prot = 3) ∧ usesN l d = (if 1 ≤ d ∧ d ≤ (k : Int) then 1 else 0) ∧ l.length = k
/-- Behind the drop, and m more pieces. -/
structure D2 (w0 w : World) (c s a : Nat) (n : Nat) (d : Int) (m : Nat) : Prop where
  ex : ∃ r M l, SpS w0 c s a 1024 20 r M l w ∧ Dn M n d ∧ RunQ l (64 * ((n : Int) + (m : Int))) (DrP n) ∧ usesN l d = 1 ∧ l.length = n + m
section
variable {w0 w w' : World} {c s a k n m : Nat} {d : Int}
theorem D1.past (h : D1 w0 w c s a k d) (t : Turn NoBlock w w') : D1 w0 w' c s a k d := by
  obtain ⟨r, l, h1, h2⟩ := h.ex
  exact ⟨⟨r, l, h1.past t, h2⟩⟩
theorem D1.turn (h : D1 w0 w c s a k d) : Turn NoBlock w0 w := by
  obtain ⟨r, l, h1, h2⟩ := h.ex
  exact h1.turn
theorem D2.past (h : D2 w0 w c s a n d m) (t : Turn NoBlock w w') : D2 w0 w' c s a n d m := by
  obtain ⟨r, M, l, h1, h2⟩ := h.ex
  exact ⟨⟨r, M, l, h1.past t, h2⟩⟩
theorem D2.turn (h : D2 w0 w c s a n d m) : Turn NoBlock w0 w := by
  obtain ⟨r, M, l, h1, h2⟩ := h.ex
  exact h1.turn
/-- One object more: made and mapped. -/
theorem D1.create (h : D1 w0 w c s a k d) (hk : k < 8) :
    Calls Tryz.prog 7 #[.pointer (some ⟨s, 0, none⟩), .int .i64 64] w fun e w' => e = .returned (.tuple #[.int .i64 ((k : Int) + 1), .int .i64 0]) ∧ Hid (∀ w2, Turn NoBlock w' w2 → Calls Tryz.prog 8 #[.pointer (some ⟨c, 0, none⟩), .int .i64 (-1), .int .i64 64, .int .i64 ((k : Int) + 1), .int .i64 0, .int .i64 3] w2 fun e w3 => e = .returned (.tuple #[.int .i64 (64 * (k : Int)), .int .i64 0]) ∧ D1 w0 w3 c s a (k + 1) d) := by
  obtain ⟨r, l, h1, h2, h3, h4⟩ := h.ex
  refine (mk_create h1.mem (by omega)).mono ?_
  rintro e w' ⟨g1, r', g2, g3⟩
  refine ⟨g1, Lib.hid (fun w2 t => ?_)⟩
  have h5 := (h1.next g2 g3).past t
  have ho : (Mk (k + 1)).O ((k : Int) + 1) = some (newOb 64 0 0 0) := mk_at ⟨by omega, by omega⟩
  refine (SpS.mapRun h5 h2 ⟨by omega, by omega⟩ (by omega) (by omega) 64 ((k : Int) + 1) 3 (by unfold fit; omega) (by omega) (by unfold isProt; omega) (by omega) ho rfl (by decide) (by show (64 : Int) ≤ ((64 : Nat) : Int); omega) ⟨by simp only; omega, rfl, by simp only; omega, by simp only; omega, rfl, rfl⟩).mono ?_
  rintro e w3 ⟨f1, kk, f2, f3⟩
  refine ⟨f1, ⟨⟨r', _, f2, ?_, ?_, ?_⟩⟩⟩
  · rw [show 64 * (((k + 1 : Nat)) : Int) = 64 * (k : Int) + 64 by omega]
    exact f3
  · rw [uses_put, h3]
    simp only
    by_cases e1 : 1 ≤ d ∧ d ≤ (k : Int)
    · rw [if_pos e1, if_neg (by omega), if_pos (by omega)]
    · rw [if_neg e1]
      by_cases e2 : (k : Int) + 1 = d
      · rw [if_pos e2, if_pos (by omega)]
      · rw [if_neg e2, if_neg (by omega)]
  · rw [put_len, h4]
/-- The drop. -/
theorem D1.drop (h : D1 w0 w c s a n d) (hn : n ≤ 8) (hd : 1 ≤ d ∧ d ≤ (n : Int)) :
    Calls Tryz.prog 9 #[.pointer (some ⟨s, 0, none⟩), .int .i64 d] w fun e w' => ∃ (q : Option Addr) (m cq : Nat), e = .returned (.tuple #[.slice q m cq, .int .i64 0]) ∧ D2 w0 w' c s a n d 0 := by
  obtain ⟨r, l, h1, h2, h3, h4⟩ := h.ex
  refine (mk_drop h1.mem hn hd).mono ?_
  rintro e w' ⟨q, m, cq, r', M', g1, g2, g3, g4⟩
  refine ⟨q, m, cq, g1, ⟨⟨r', M', l, h1.next g2 g3, g4, ⟨?_, ?_, fun p hp => ?_⟩, ?_, by omega⟩⟩⟩
  · intro y a1 a2
    exact h2.full y a1 (by omega)
  · intro y a1
    exact h2.free y (by omega)
  · obtain ⟨b1, b2, b3, b4⟩ := h2.each p hp
    exact ⟨b1, b2, b3, fun _ => b4⟩
  · rw [h3, if_pos hd]
/-- What stands at a place of the first loop. -/
theorem dr_key {l : List Pc} (hl : ∀ p ∈ l, DrP n p) {i : Nat} (hi : i < n) {p : Pc} (hp : p ∈ l) (a1 : p.at' < 64 * (i : Int) + 4) (a2 : 64 * (i : Int) < p.fin) : p.vmo = (i : Int) + 1 ∧ p.from' = 0 ∧ p.prot = 3 ∧ p.at' = 64 * (i : Int) ∧ p.len = 64 := by
  obtain ⟨b1, b2, b3, b4⟩ := hl p hp
  unfold Pc.fin at *
  have b6 : p.at' = 64 * (i : Int) := by omega
  obtain ⟨b7, b8, b9⟩ := b4 (by omega)
  exact ⟨by omega, b8, b9, b6, b2⟩
theorem dr_q {l li : List Pc} (hl : ∀ p ∈ l, DrP n p) {i : Nat} (hi : i < n) (h : SpM l (64 * (i : Int)) 4 li) {q : Pc} (hq : q ∈ li) : q.vmo = (i : Int) + 1 ∧ 0 < q.len ∧ q.len ≤ 4 ∧ 0 ≤ q.from' ∧ q.from' + q.len ≤ 64 := by
  obtain ⟨p, hp, e1, e2, e3, e4, e5, e6, e7⟩ := h.prot hq
  obtain ⟨k1, k2, k3, k4, k5⟩ := dr_key hl hi hp e1 e2
  obtain ⟨q1, q2, q3, _⟩ := h.ins q hq
  unfold Pc.fin at *
  exact ⟨by omega, by omega, by omega, by omega, by omega⟩
theorem D2.rdYes (h : D2 w0 w c s a n d m) (i : Nat) (hi : i < n) (hn : n ≤ 8) (hm : m ≤ 8) (hd : (i : Int) + 1 ≠ d) :
    Calls Tryz.prog 10 #[.pointer (some ⟨c, 0, none⟩), .int .i64 (64 * (i : Int)), .int .i64 4] w fun e w' => (∃ u, e = .returned (.tuple #[u, .int .i64 0])) ∧ D2 w0 w' c s a n d m := by
  obtain ⟨r, M, l, h1, h2, h3, h4, h5⟩ := h.ex
  have hO : M.O ((i : Int) + 1) = some (newOb 64 0 0 0) := h2.at' _ (by omega) (by omega) hd
  have cP := h1.partsYes (x := 64 * (i : Int)) (n := 4) (by omega) 1 (.inl rfl) (by omega) (by omega) (by omega) (fun y a1 a2 => h3.full y (by omega) (by omega)) (fun p hp a1 a2 => by rw [(dr_key h3.each hi hp a1 a2).2.2.1]; rfl)
  refine (zread_ok h1.sp (64 * (i : Int)) 4 (by omega) (SpM l (64 * (i : Int)) 4) (fun q => (List.range q.len.toNat).map fun j => fl M.L (newOb 64 0 0 0).pgs (q.from'.toNat + j)) (cP.mono (fun e w' hh => ?_)) (fun li hli => ?_)).mono ?_
  · obtain ⟨pv, li, N, cv, g1, g2, g3, g4, g5, g6⟩ := hh
    exact ⟨pv, li, N, cv, g1, g2, g3, g4, g6⟩
  · have hlen := hli.len
    refine ⟨by omega, fun q hq => ?_⟩
    obtain ⟨g1, g2, g3, g4, g5⟩ := dr_q h3.each hi hli hq
    refine ⟨g2, by omega, by simp, fun W' t => ?_⟩
    have c := read8_ok (h1.mem.past t) h2.inv.chain h2.inv.held (by rw [h2.made]; omega) (i := (i : Int) + 1) (by unfold fit; omega) hO rfl q.from'.toNat q.len.toNat (by omega) (by show q.from'.toNat + q.len.toNat ≤ 64; omega) (j := (i : Int) + 1) (q := newOb 64 0 0 0) (t' := q.from'.toNat) rfl hO (by omega)
    rw [show ((q.from'.toNat : Nat) : Int) = q.from' by omega, show ((q.len.toNat : Nat) : Int) = q.len by omega] at c
    rw [g1]
    refine Calls.mono c ?_
    rintro e w' ⟨u, f1, f2, f3, f4⟩
    rw [read_flat (S := ⟨M.L, (newOb 64 0 0 0).pgs, (newOb 64 0 0 0).cnt⟩) (full_pool h1.mem.pool)] at f2
    exact ⟨u, f1, f2, f3, f4⟩
  · rintro e w' ⟨u, g1, _, _, _, _, t⟩
    exact ⟨⟨u, g1⟩, h.past t⟩
end
set_option maxRecDepth 20000 in
set_option maxHeartbeats 4000000 in
/-- A read whose first part is not told. -/
theorem zread_gone {w : World} {c s a : Nat} (hc : SpAt w c s a) (x : Int) (n : Nat) (hn : n ≤ 4096) (A : List Pc → Prop)
    (cP : Calls Tryz.prog 23 #[.pointer (some ⟨c, 0, none⟩), .int .i64 x, .int .i64 (n : Int), .int .i64 1] w fun e w' => ∃ (pv : Option Addr) (li : List Pc) (N cv : Nat), e = .returned (.tuple #[.slice pv N cv, .int .i64 0]) ∧ N = li.length ∧ A li ∧ PRow (.slice pv N cv) li w' ∧ Turn NoBlock w w')
    (hA : ∀ li, A li → 0 < li.length ∧ li.length ≤ 4096 ∧ ∀ q ∈ li,
      ∀ W', Turn NoBlock w W' → Calls Tryz.prog 14 #[.pointer (some ⟨s, 0, none⟩), .int .i64 q.vmo, .int .i64 q.from', .int .i64 q.len] W' fun e w' => e = .returned (.tuple #[.slice none 0 0, .int .i64 (-25)]) ∧ W' = w') :
    Calls Tryz.prog 10 #[.pointer (some ⟨c, 0, none⟩), .int .i64 x, .int .i64 (n : Int)] w fun e w' => e = .returned (.tuple #[.slice none 0 0, .int .i64 (-25)]) ∧ Turn NoBlock w w' := by
  obtain ⟨iv, hi5, hz0, hz1, hz2⟩ := info_parts info5
  have q1 : iv.bytes * n ≤ 281474976710656 := by rw [hz2]; omega
  have q2 : n ≤ maxLen := by unfold maxLen; omega
  have hn0 : ¬ (n : Int) < 0 := by omega
  have hn1 : ¬ (4096 : Int) < (n : Int) := by omega
  have HC := Lib.hid (fun w' (t : Turn NoBlock w w') => (hc.past t id).c0)
  have HA := Lib.hid hA
  clear hc hA
  go_enter Tryz.func10, Tryz.ntmps10
  go_wp2_with (first
    | (go_at_call 23; (with_reducible refine cP.mono ?_); rintro e w1 ⟨pv, li, N, cv, rfl, hN, hAl, hrow, t1⟩; have HN := Lib.hid hN; have HL := Lib.hid (And.intro hAl (And.intro hrow t1)); have hN4 : 0 < N ∧ N ≤ 4096 := (by have := HA.out li hAl; omega); clear hN hAl hrow t1)
    | (at_make; refine wpList_make_own _ rfl _ _ 34 rfl 0 5 iv _ 1 bytes31 hi5 hz0 hz1 .i64 .i64 _ n rfl rfl rfl q1 q2 (Nat.zero_le _) ?_; intro w4 hown hgrow; have T4 : Turn NoBlock w w4 := HL.out.2.2.grown hgrow (fun k e => by cases e); have K4 := Lib.hid (And.intro (HL.out.2.1.past ((Turn.refl NoBlock _).grown hgrow (fun k e => by cases e))) T4); clear hown hgrow T4))
  go_loopg [10, 35] N (fun g s10 s35 wr => g = N ∧ s35 = .int .i64 0 ∧ (∃ q m cq, s10 = .slice q m cq) ∧ Hid (PRow (.slice pv N cv) li wr ∧ Turn NoBlock w wr))
  case atStart => exact ⟨rfl, rfl, ⟨_, _, _, rfl⟩, K4⟩
  case round =>
    obtain ⟨rfl, rfl, ⟨q9, m9, c9, rfl⟩, HR⟩ := hrel
    obtain ⟨q, hq⟩ := gget_some (show 0 < li.length by rw [← HN.out]; exact hN4.1)
    have hr1 := HR.out.1
    obtain ⟨g, c', he, -, -⟩ := hr1.shape (by rw [← HN.out]; exact hN4.1)
    simp only [Value.slice.injEq] at he
    obtain ⟨rfl, -, rfl⟩ := he
    obtain ⟨c0, c1, c2, c3, c4⟩ := hr1.five hq
    have cR0 := (HA.out li HL.out.1).2.2 q (List.mem_of_getElem? hq)
    have hk0 : (0 : Int) < (gk : Int) := by omega
    obtain ⟨qa, ql, qv, qf, qr⟩ := q
    simp only [Nat.zero_mul, Nat.zero_add] at c0 c1 c2 c3 c4 cR0
    clear hr1 hq
    go_wp2_with (fail)
    obtain ⟨W2, hW2⟩ : ∃ W2, W2 = wr.alloc (.cells #[.int .i64 qa, .int .i64 ql, .int .i64 qv, .int .i64 qf, .int .i64 qr] 58) := ⟨_, rfl⟩
    have tW : Turn NoBlock wr W2 := by rw [hW2]; exact (Turn.refl _ _).alloc _
    have hbx : W2.heap[wr.heap.size]? = some (.cells #[.int .i64 qa, .int .i64 ql, .int .i64 qv, .int .i64 qf, .int .i64 qr] 58 (0, 0)) := by rw [hW2]; exact heap_alloc_new wr _
    have x0 := HC.out _ (HR.out.2.trans tW (fun _ h => .inl h))
    have x1 := cell_at hbx 1
    have x2 := cell_at hbx 2
    have x3 := cell_at hbx 3
    simp at x1 x2 x3
    have y0 := HC.out _ (HR.out.2.trans tW.drew (fun _ h => .inl h))
    have y1 : W2.drew.cell? ⟨wr.heap.size, 1, none⟩ = some (.int .i64 ql) := x1
    have y2 : W2.drew.cell? ⟨wr.heap.size, 2, none⟩ = some (.int .i64 qv) := x2
    have y3 : W2.drew.cell? ⟨wr.heap.size, 3, none⟩ = some (.int .i64 qf) := x3
    have cR2 := cR0 W2.drew (HR.out.2.trans tW.drew (fun _ h => .inl h))
    have HT9 := Lib.hid (HR.out.2.trans tW.drew (fun _ h => .inl h))
    rw [← hW2]
    clear hW2 tW hbx cR0
    go_region_held3 (fun w' => w'.cell? ⟨c, 0, none⟩ = some (.pointer (some ⟨s, 0, none⟩)) ∧ w'.cell? ⟨wr.heap.size, 1, none⟩ = some (.int .i64 ql) ∧ w'.cell? ⟨wr.heap.size, 2, none⟩ = some (.int .i64 qv) ∧ w'.cell? ⟨wr.heap.size, 3, none⟩ = some (.int .i64 qf)) ((refine ⟨?_, ?_, ?_, ?_⟩ <;> (first | assumption)))
      (first
        | (go_at_call 14; (with_reducible refine cR2.mono ?_); rintro e w5 ⟨rfl, rfl⟩))
    go_wp2
    go_ret2
    exact ⟨rfl, HT9.out⟩
section
variable {w0 w w' : World} {c s a k n m : Nat} {d : Int}
theorem D2.rdNo (h : D2 w0 w c s a n d m) (i : Nat) (hi : i < n) (hn : n ≤ 8) (hm : m ≤ 8) (hd : (i : Int) + 1 = d) :
    Calls Tryz.prog 10 #[.pointer (some ⟨c, 0, none⟩), .int .i64 (64 * (i : Int)), .int .i64 4] w fun e w' => e = .returned (.tuple #[.slice none 0 0, .int .i64 (-25)]) ∧ D2 w0 w' c s a n d m := by
  obtain ⟨r, M, l, h1, h2, h3, h4, h5⟩ := h.ex
  have cP := h1.partsYes (x := 64 * (i : Int)) (n := 4) (by omega) 1 (.inl rfl) (by omega) (by omega) (by omega) (fun y a1 a2 => h3.full y (by omega) (by omega)) (fun p hp a1 a2 => by rw [(dr_key h3.each hi hp a1 a2).2.2.1]; rfl)
  refine (zread_gone h1.sp (64 * (i : Int)) 4 (by omega) (SpM l (64 * (i : Int)) 4) (cP.mono (fun e w' hh => ?_)) (fun li hli => ?_)).mono ?_
  · obtain ⟨pv, li, N, cv, g1, g2, g3, g4, g5, g6⟩ := hh
    exact ⟨pv, li, N, cv, g1, g2, g3, g4, g6⟩
  · have hlen := hli.len
    refine ⟨?_, by omega, fun q hq W' t => ?_⟩
    · obtain ⟨q, hq, _⟩ := hli.cov (64 * (i : Int)) (Int.le_refl _) (by omega)
      exact List.length_pos_of_mem hq
    · rw [(dr_q h3.each hi hli hq).1]
      exact read_gone (h1.mem.past t) ((i : Int) + 1) _ _ (by unfold fit; omega) (by rw [hd]; exact h2.gone)
  · rintro e w' ⟨g1, t⟩
    exact ⟨g1, h.past t⟩
theorem D2.mapYes (h : D2 w0 w c s a n d m) (i : Nat) (hi : i < n) (hn : n ≤ 8) (hm : m < 8) (hd : (i : Int) + 1 ≠ d) :
    Calls Tryz.prog 8 #[.pointer (some ⟨c, 0, none⟩), .int .i64 (-1), .int .i64 64, .int .i64 ((i : Int) + 1), .int .i64 0, .int .i64 1] w fun e w' => e = .returned (.tuple #[.int .i64 (64 * ((n : Int) + (m : Int))), .int .i64 0]) ∧ D2 w0 w' c s a n d (m + 1) := by
  obtain ⟨r, M, l, h1, h2, h3, h4, h5⟩ := h.ex
  have hO : M.O ((i : Int) + 1) = some (newOb 64 0 0 0) := h2.at' _ (by omega) (by omega) hd
  refine (SpS.mapRun h1 h3 ⟨by omega, by omega⟩ (by omega) (by omega) 64 ((i : Int) + 1) 1 (by unfold fit; omega) (by omega) (by unfold isProt; omega) (by omega) hO rfl (by decide) (by show (64 : Int) ≤ ((64 : Nat) : Int); omega) ⟨by simp only; omega, rfl, by simp only; omega, fun e => by simp only at e; omega⟩).mono ?_
  rintro e w3 ⟨f1, kk, f2, f3⟩
  refine ⟨f1, ⟨⟨r, M, _, f2, h2, ?_, ?_, ?_⟩⟩⟩
  · rw [show 64 * ((n : Int) + ((m + 1 : Nat) : Int)) = 64 * ((n : Int) + (m : Int)) + 64 by omega]
    exact f3
  · rw [uses_put, h4, if_neg hd]
  · rw [put_len, h5]
    omega
theorem D2.mapNo (h : D2 w0 w c s a n d m) (i : Nat) (hi : i < n) (hn : n ≤ 8) (hd : (i : Int) + 1 = d) :
    Calls Tryz.prog 8 #[.pointer (some ⟨c, 0, none⟩), .int .i64 (-1), .int .i64 64, .int .i64 ((i : Int) + 1), .int .i64 0, .int .i64 1] w fun e w' => e = .returned (.tuple #[.int .i64 0, .int .i64 (-25)]) ∧ D2 w0 w' c s a n d m := by
  obtain ⟨r, M, l, h1, h2, h3, h4, h5⟩ := h.ex
  exact (map_lie (-1) 64 ((i : Int) + 1) 0 1 (.inl rfl) (lies_gone h1.sp h1.mem ((i : Int) + 1) 0 64 (by unfold fit; omega) (by rw [hd]; exact h2.gone))).mono (fun e w' hh => ⟨hh.1, h.past hh.2⟩)
theorem D2.uses (h : D2 w0 w c s a n d m) :
    Calls Tryz.prog 11 #[.pointer (some ⟨c, 0, none⟩), .int .i64 d] w fun e w' => e = .returned (.int .i64 1) ∧ Turn NoBlock w w' := by
  obtain ⟨r, M, l, h1, h2, h3, h4, h5⟩ := h.ex
  have cU := h1.uses (by omega) d
  rw [h4] at cU
  exact cU
end
end Go.Proofs.YtdddmjdlikjedaaGreat
