/-
  SpaceGuards' calls.
-/
import Derived.Test.YtdddmjdlikjedaaSAll
namespace Go.Proofs.Ytdddmjdlikjedaa
open Go.ChangeShapes Go.WideShapes Go.ChangeAt Go.RowKit

section
variable {K : Nat → Prop} {W w w' : World} {a : Nat} {size most : Int} {l : List Pc}
theorem prot_yes (h : GT K W a size most l w) (hs : size ≤ 65536) (hm : (l.length : Int) ≤ most ∧ most ≤ 65536) (x n pr : Int) (hr : isGrid x n ∧ x + n ≤ size) (hp : isProt pr) (hall : ∀ y, x ≤ y → y < x + n → ¬ Free l y) (hin : ∀ p ∈ l, x ≤ p.at' ∧ p.fin ≤ x + n) :
    Calls Try.prog 34 #[.pointer (some ⟨a, 0, none⟩), .int .i64 x, .int .i64 n, .int .i64 pr] w fun e w' => e = .returned (.int .i64 0) ∧ ∃ l', ProtV l x n pr l' ∧ GT K W a size most l' w' ∧ Turn (fun j => ¬ K j ∧ W.heap.size ≤ j) w w' := by
  obtain ⟨v, h1, h2⟩ := h.mem
  have hl := gok_len h.ok
  obtain ⟨k, b, hk⟩ := seg_any h.ok x n
  have hx1 : 0 ≤ x ∧ 1 ≤ n := by have := hr.1; unfold isGrid isMul at this; omega
  have hsm := (span_m hk h.ok hx1.1 (by omega) hall).sum
  have hseg : (seg l k b).length = b - k := by
    have := hk.hi
    unfold seg
    rw [List.length_drop, List.length_take]
    omega
  have hout : outL l k b x n = [] := by
    unfold outL
    rw [List.flatMap_eq_nil_iff]
    intro p hp
    obtain ⟨j, _, _, hj⟩ := mem_seg hp
    have := hin p (List.mem_of_getElem? hj)
    unfold outP
    rw [if_neg (by omega), if_neg (by omega)]
    rfl
  have hpl : (protL l k b x n pr).length = b - k := by
    unfold protL
    rw [hout, List.append_nil, List.length_map]
    unfold insL
    rw [List.length_map, hseg]
  refine (protect_any h1 h.ok (by omega) (by omega) (by omega) x n pr hr hp k b hk).mono ?_
  rintro e w' (⟨g0, _⟩ | ⟨_, ⟨g0, _⟩ | ⟨_, g1, ⟨v', lo', p1, p2, p3, p4⟩, g3⟩⟩)
  · omega
  · have := hk.hi
    have := hk.lo
    omega
  · refine ⟨g1, _, fun y t => vw_prot hk h.ok hx1 p1, ⟨gok_prot hk h.ok hr.1 hp p1 p2, ⟨v', p3, fun j hj => ?_⟩, fun j hj => Nat.lt_of_lt_of_le (h.kb j hj) g3.size, h.turn.trans g3 (fun j hj => .inr (h2 j hj).1)⟩, g3.mono (fun j hj => .inl ⟨(h2 j hj).2, (h2 j hj).1⟩)⟩
    rcases p4 j hj with e | e
    · exact h2 j e
    · exact ⟨Nat.le_trans h.turn.size e, fun hh => by have := h.kb j hh; omega⟩
end
section
variable {w0 w w' : World} {c s a : Nat} {size most : Int} {r r' : Rep} {M M' : Mod} {l l' li : List Pc} {o : Ob} {U R : Nat} {C : Nat → UInt8} {x n : Int}
/-- All parts have what is needed; of an empty range nothing is asked. -/
theorem SpS.partsYes0 (h : SpS w0 c s a size most r M l w) (hs : size ≤ 65536) (need : Int) (hneed : need = 1 ∨ need = 2) (hx : 0 ≤ x) (hn : 0 ≤ n) (hxn : x + n ≤ size) (hm : ∀ y, x ≤ y → y < x + n → ¬ Free l y) (hpr : 0 < n → ∀ p ∈ l, p.at' < x + n → x < p.fin → hasB p.prot need = true) :
    Calls Try.prog 77 #[.pointer (some ⟨c, 0, none⟩), .int .i64 x, .int .i64 n, .int .i64 need] w fun e w' => ∃ (pv : Option Addr) (li : List Pc) (N cv : Nat), e = .returned (.tuple #[.slice pv N cv, .int .i64 0]) ∧ N = li.length ∧ SpM l x n li ∧ PRow (.slice pv N cv) li w' ∧ (∀ j, Blk (.slice pv N cv) j → w.heap.size ≤ j) ∧ Turn NoBlock w w' := by
  refine (parts_all h.sp h.gt hs x n need hx hn hxn hneed hm).mono ?_
  rintro e w' (⟨pv, li, N, cv, h1, h2, h3, _, h5, h6, h7⟩ | ⟨_, ⟨li, h3, q, hq, hb⟩, _⟩)
  · exact ⟨pv, li, N, cv, h1, h2, h3, h5, h6, h7⟩
  · obtain ⟨p, hp, e1, e2, e3, _⟩ := h3.prot hq
    have hi := h3.ins q hq
    rw [e3, hpr (by omega) p hp e1 e2] at hb
    cases hb
theorem SpS.write0 (h : SpS w0 c s a size most r M l w) (z : So M U C o R) (hs : size ≤ 65536) (hU : U ≤ 65536) (hx : 0 ≤ x) (B off cb : Nat) (pb : Option Addr) (bs : List UInt8) (hpb : 0 < bs.length → pb = some ⟨B, off, none⟩) (hv : SrcF w s r (.slice pb bs.length cb) bs) (hl : bs.length ≤ 4096) (hxn : x + (bs.length : Int) ≤ size) (hm : ∀ y, x ≤ y → y < x + (bs.length : Int) → ¬ Free l y) (h1 : In1 l U) (hpr : 0 < (bs.length : Int) → ∀ p ∈ l, p.at' < x + (bs.length : Int) → x < p.fin → hasB p.prot 2 = true) (hl16 : l.length ≤ 16) (P : Nat) (hP : bs.length + 63 < 64 * P + 1) (hR : l.length * P ≤ R) :
    Calls Try.prog 42 #[.pointer (some ⟨c, 0, none⟩), .int .i64 x, .slice pb bs.length cb] w fun e w' => e = .returned (.tuple #[.int .i64 (bs.length : Int), .int .i64 0]) ∧ ∃ li r' M' o', SpM l x (bs.length : Int) li ∧ SpS w0 c s a size most r' M' l w' ∧ So M' U (wrK C li bs li.length) o' (R - l.length * P) := by
  refine (zwrite_ok (P := P) h.sp h.mem z h.cf hU x B off cb pb bs hpb hv hl (SpM l x (bs.length : Int)) (h.partsYes0 hs 2 (.inr rfl) hx (by omega) hxn hm hpr) (fun li hli => ?_)).mono ?_
  · have hlen := hli.len
    refine ⟨by omega, hli.sum, Nat.le_trans (Nat.mul_le_mul_right P hlen) hR, fun q hq => ?_⟩
    have := hli.in1 h1 hq
    omega
  · rintro e w' ⟨h2, li, r', M', o', h3, h4, h5, h6, _⟩
    have := Nat.mul_le_mul_right P h3.len
    exact ⟨h2, li, r', M', o', h3, h.next h4 h6, h5.less (by omega)⟩
theorem SpS.read0 (h : SpS w0 c s a size most r M l w) (z : So M U C o R) (hs : size ≤ 65536) (hU : U ≤ 65536) (hx : 0 ≤ x) (n : Nat) (hl : n ≤ 4096) (hxn : x + (n : Int) ≤ size) (hm : ∀ y, x ≤ y → y < x + (n : Int) → ¬ Free l y) (h1 : In1 l U) (hpr : 0 < (n : Int) → ∀ p ∈ l, p.at' < x + (n : Int) → x < p.fin → hasB p.prot 1 = true) (hl16 : l.length ≤ 16) :
    Calls Try.prog 43 #[.pointer (some ⟨c, 0, none⟩), .int .i64 x, .int .i64 (n : Int)] w fun e w' => ∃ u, e = .returned (.tuple #[u, .int .i64 0]) ∧ ∃ li, SpM l x (n : Int) li ∧ Byts u (li.flatMap (rdP C)) w' ∧ (∀ j, Blk u j → w.heap.size ≤ j) ∧ Turn NoBlock w w' := by
  refine zread_ok h.sp x n hl (SpM l x (n : Int)) (rdP C) ((h.partsYes0 hs 1 (.inl rfl) hx (by omega) hxn hm hpr).mono (fun e w' hh => ?_)) (fun li hli => ?_)
  · obtain ⟨pv, li, N, cv, g1, g2, g3, g4, g5, g6⟩ := hh
    exact ⟨pv, li, N, cv, g1, g2, g3, g4, g6⟩
  · have hlen := hli.len
    refine ⟨by omega, fun q hq => ?_⟩
    obtain ⟨g1, g2, g3, g4, g5⟩ := hli.in1 h1 hq
    refine ⟨g2, by omega, by unfold rdP; simp, fun W' t => ?_⟩
    have c := so_read (h.mem.past t) z q.from'.toNat q.len.toNat (by omega) (by omega) (by omega)
    rw [show ((q.from'.toNat : Nat) : Int) = q.from' by omega, show ((q.len.toNat : Nat) : Int) = q.len by omega] at c
    rw [g1]
    exact c
end
/-- Whether a range may be used. -/
def mayB (one two x n bit : Int) : Bool := (decide (n = 0) || decide (64 ≤ x) || hasB one bit) && (decide (n = 0) || decide (x + n ≤ 64) || hasB two bit)
/-- The space, its object, and which pieces there are. -/
structure Gu (w0 w : World) (c s a : Nat) (one two : Int) (R : Nat) : Prop where
  ex : ∃ r M o C l, SpS w0 c s a 128 4 r M l w ∧ So M 128 C o R ∧ (∀ y, 0 ≤ y → y < 128 → ¬ Free l y) ∧ ∀ p ∈ l, p.vmo = 1 ∧ p.from' = p.at' ∧ ∀ y, p.at' ≤ y → y < p.fin → p.prot = if y < 64 then one else two
theorem rd_len {C : Nat → UInt8} : ∀ (li : List Pc), (∀ q ∈ li, 0 ≤ q.len) → ((li.flatMap (rdP C)).length : Int) = sumP li
  | [], _ => rfl
  | q :: r, h => by
    have h1 := rd_len (C := C) r (fun p hp => h p (by simp [hp]))
    have h2 := h q (by simp)
    have h3 : sumP (q :: r) = q.len + sumP r := by unfold sumP; simp
    rw [List.flatMap_cons, List.length_append, h3]
    unfold rdP at *
    simp only [List.length_map, List.length_range]
    omega
section
variable {w0 w w' : World} {c s a : Nat} {one two x n bit : Int} {R : Nat} {l : List Pc}
theorem Gu.past (h : Gu w0 w c s a one two R) (t : Turn NoBlock w w') : Gu w0 w' c s a one two R := by
  obtain ⟨r, M, o, C, l, h1, h2⟩ := h.ex
  exact ⟨⟨r, M, o, C, l, h1.past t, h2⟩⟩
theorem Gu.turn (h : Gu w0 w c s a one two R) : Turn NoBlock w0 w := by
  obtain ⟨r, M, o, C, l, h1, h2⟩ := h.ex
  exact h1.turn
theorem may_yes (hm : ∀ p ∈ l, ∀ y, p.at' ≤ y → y < p.fin → p.prot = if y < 64 then one else two) (hb : mayB one two x n bit = true) (ok : GOK 128 l) (hn : 0 < n) : ∀ p ∈ l, p.at' < x + n → x < p.fin → hasB p.prot bit = true := fun p hp h1 h2 => by
  have h3 := (ok.each p hp).1
  have h4 := hm p hp (max x p.at') (by omega) (by unfold Pc.fin at *; omega)
  unfold mayB at hb
  simp only [Bool.and_eq_true, Bool.or_eq_true, decide_eq_true_eq] at hb
  by_cases h5 : max x p.at' < 64
  · rw [if_pos h5] at h4
    rw [h4]
    rcases hb.1 with (h6 | h6) | h6
    · omega
    · omega
    · exact h6
  · rw [if_neg h5] at h4
    rw [h4]
    rcases hb.2 with (h6 | h6) | h6
    · omega
    · omega
    · exact h6
theorem may_no (hall : ∀ y, 0 ≤ y → y < 128 → ¬ Free l y) (hm : ∀ p ∈ l, ∀ y, p.at' ≤ y → y < p.fin → p.prot = if y < 64 then one else two) (hb : mayB one two x n bit = false) (hx : 0 ≤ x) (hn : 0 ≤ n) (hxn : x + n ≤ 128) : ∃ p ∈ l, ∃ y, x ≤ y ∧ y < x + n ∧ p.at' ≤ y ∧ y < p.fin ∧ hasB p.prot bit = false := by
  have key : ∀ y, x ≤ y → y < x + n → (∀ q : Int, q = (if y < 64 then one else two) → hasB q bit = false) → ∃ p ∈ l, ∃ y, x ≤ y ∧ y < x + n ∧ p.at' ≤ y ∧ y < p.fin ∧ hasB p.prot bit = false := fun y h1 h2 h3 => by
    obtain ⟨t, p, hp, g1, g2, _⟩ := not_free (hall y (by omega) (by omega))
    exact ⟨p, hp, y, h1, h2, g1, g2, h3 _ (hm p hp y g1 g2)⟩
  unfold mayB at hb
  simp only [Bool.and_eq_false_iff, Bool.or_eq_false_iff, decide_eq_false_iff_not] at hb
  rcases hb with ⟨⟨h1, h2⟩, h3⟩ | ⟨⟨h1, h2⟩, h3⟩
  · exact key x (Int.le_refl _) (by omega) (fun q hq => by rw [hq, if_pos (by omega)]; exact h3)
  · exact key (max x 64) (by omega) (by omega) (fun q hq => by rw [hq, if_neg (by omega)]; exact h3)
theorem gu_in1 (ok : GOK 128 l) (hm : ∀ p ∈ l, p.vmo = 1 ∧ p.from' = p.at') : In1 l 128 := fun p hp => by
  have h1 := (ok.each p hp).1
  have h2 := hm p hp
  unfold Pc.fin at *
  exact ⟨h2.1, by omega, by omega⟩
/-- A read that is answered. -/
theorem Gu.rdYes (h : Gu w0 w c s a one two R) (n : Nat) (hx : 0 ≤ x) (hxn : x + (n : Int) ≤ 128) (hb : mayB one two x n 1 = true) :
    Calls Try.prog 43 #[.pointer (some ⟨c, 0, none⟩), .int .i64 x, .int .i64 (n : Int)] w fun e w' => ∃ (q : Option Addr) (cq : Nat), e = .returned (.tuple #[.slice q n cq, .int .i64 0]) ∧ Turn NoBlock w w' := by
  obtain ⟨r, M, o, C, l, h1, z, h2, h3⟩ := h.ex
  have hll := gok_len h1.gt.ok
  refine (SpS.read0 h1 z (by omega) (by omega) hx n (by omega) (by omega) (fun y g0 g1 => h2 y (by omega) (by omega)) (gu_in1 h1.gt.ok (fun p hp => ⟨(h3 p hp).1, (h3 p hp).2.1⟩)) (may_yes (fun p hp => (h3 p hp).2.2) hb h1.gt.ok) (by omega)).mono ?_
  rintro e w' ⟨u, rfl, li, h4, h5, h6, h7⟩
  have h8 := rd_len (C := C) li (fun q hq => by have := (h4.ins q hq).2.1; unfold Pc.fin at this; omega)
  rw [h4.sum] at h8
  obtain ⟨q, cq, rfl⟩ := own_slice h5
  exact ⟨q, cq, by rw [show (li.flatMap (rdP C)).length = n by omega], h7⟩
/-- A read that is refused. -/
theorem Gu.rdNo (h : Gu w0 w c s a one two R) (n : Nat) (hx : 0 ≤ x) (hxn : x + (n : Int) ≤ 128) (hb : mayB one two x n 1 = false) :
    Calls Try.prog 43 #[.pointer (some ⟨c, 0, none⟩), .int .i64 x, .int .i64 (n : Int)] w fun e w' => e = .returned (.tuple #[.slice none 0 0, .int .i64 (-30)]) ∧ Turn NoBlock w w' := by
  obtain ⟨r, M, o, C, l, h1, z, h2, h3⟩ := h.ex
  exact zread_no x n (by omega) (h1.partsNo (by omega) 1 (.inl rfl) hx (by omega) (by omega) (fun y g0 g1 => h2 y (by omega) (by omega)) (may_no h2 (fun p hp => (h3 p hp).2.2) hb hx (by omega) hxn))
/-- A write that is done. -/
theorem Gu.wrYes {wp : World} (h0 : Gu w0 wp c s a one two R) (t0 : Turn NoBlock wp w) (hR : 6 ≤ R) (bs : List UInt8) (B cb : Nat) (hx : 0 ≤ x) (hxn : x + (bs.length : Int) ≤ 128) (hb : mayB one two x bs.length 2 = true) (hB : Byts (.slice (some ⟨B, 0, none⟩) bs.length cb) bs w) (hcb : bs.length ≤ cb) (hfr : wp.heap.size ≤ B) :
    Calls Try.prog 42 #[.pointer (some ⟨c, 0, none⟩), .int .i64 x, .slice (some ⟨B, 0, none⟩) bs.length cb] w fun e w' => e = .returned (.tuple #[.int .i64 (bs.length : Int), .int .i64 0]) ∧ Gu w0 w' c s a one two (R - 6) := by
  obtain ⟨r, M, o, C, l, hp, z, h2, h3⟩ := h0.ex
  have h1 := hp.past t0
  have hll := gok_len h1.gt.ok
  have hv : SrcF w s r (.slice (some ⟨B, 0, none⟩) bs.length cb) bs := by
    rcases Nat.eq_zero_or_pos bs.length with h0' | h0'
    · have : bs = [] := List.eq_nil_of_length_eq_zero h0'
      subst this
      exact .inl ⟨_, _, rfl, rfl⟩
    · obtain ⟨cur, hcur⟩ := own_block hB (k := B) rfl
      rcases hB.src with ⟨_, h5⟩ | ⟨g, off, c', h5, h6⟩
      · rw [h5] at h0'
        simp at h0'
      · simp only [Value.slice.injEq, Option.some.injEq, Addr.mk.injEq] at h5
        obtain ⟨⟨rfl, rfl, -⟩, -, rfl⟩ := h5
        exact .inr ⟨_, _, _, rfl, hcb, (fun e => by have := hp.mem.lt e; omega), lt_of_block hcur, h6⟩
  refine (SpS.write0 h1 z (by omega) (by omega) hx B 0 cb _ bs (fun _ => rfl) hv (by omega) (by omega) (fun y g0 g1 => h2 y (by omega) (by omega)) (gu_in1 h1.gt.ok (fun p hp => ⟨(h3 p hp).1, (h3 p hp).2.1⟩)) (may_yes (fun p hp => (h3 p hp).2.2) hb h1.gt.ok) (by omega) 3 (by omega) (by omega)).mono ?_
  rintro e w' ⟨h4, li, r', M', o', h5, h6, h7⟩
  exact ⟨h4, ⟨⟨r', M', o', _, l, h6, h7.less (by omega), h2, h3⟩⟩⟩
/-- A write that is refused. -/
theorem Gu.wrNo (h : Gu w0 w c s a one two R) (n : Nat) (pb : Option Addr) (cb : Nat) (hx : 0 ≤ x) (hxn : x + (n : Int) ≤ 128) (hb : mayB one two x n 2 = false) :
    Calls Try.prog 42 #[.pointer (some ⟨c, 0, none⟩), .int .i64 x, .slice pb n cb] w fun e w' => e = .returned (.tuple #[.int .i64 0, .int .i64 (-30)]) ∧ Turn NoBlock w w' := by
  obtain ⟨r, M, o, C, l, h1, z, h2, h3⟩ := h.ex
  exact zwrite_no x pb n cb (by omega) (h1.partsNo (by omega) 2 (.inr rfl) hx (by omega) (by omega) (fun y g0 g1 => h2 y (by omega) (by omega)) (may_no h2 (fun p hp => (h3 p hp).2.2) hb hx (by omega) hxn))
set_option maxRecDepth 20000 in
/-- Protecting all. -/
theorem Gu.protect (h : Gu w0 w c s a one two R) :
    Calls Try.prog 46 #[.pointer (some ⟨c, 0, none⟩), .int .i64 0, .int .i64 128, .int .i64 3] w fun e w' => e = .returned (.int .i64 0) ∧ Gu w0 w' c s a 3 3 R := by
  obtain ⟨r, M, o, C, l, h1, z, h2, h3⟩ := h.ex
  have hll := gok_len h1.gt.ok
  have cP := (prot_yes h1.gt (by omega) (by omega) 0 128 3 (by unfold isGrid isMul; omega) (by unfold isProt; omega) (fun y g0 g1 => h2 y g0 (by omega)) (fun p hp => by have := (h1.gt.ok.each p hp).1; omega)).mono (R' := fun e w' => e = .returned (.int .i64 0) ∧ Gu w0 w' c s a 3 3 R) (by
    rintro e w' ⟨g1, l', g2, g3, g4⟩
    refine ⟨g1, ⟨⟨r, M, o, C, l', h1.mapped g3 g4, z, fun y g5 g6 hf => ?_, fun p hp => ?_⟩⟩⟩
    · obtain ⟨t, ht⟩ := not_free (h2 y g5 g6)
      exact vw_free.1 hf _ ((g2 y _).2 (.inr ⟨by omega, t, ht, rfl⟩))
    · have g5 := (g3.ok.each p hp).1
      have g6 : Vw l' p.at' p.key := ⟨p, hp, Int.le_refl _, by unfold Pc.fin; omega, rfl⟩
      rcases (g2 _ _).1 g6 with ⟨g7, _⟩ | ⟨_, u, ⟨q, hq, q1, q2, rfl⟩, g9⟩
      · exact absurd ⟨g5.1, by unfold Pc.fin at *; omega⟩ g7
      · obtain ⟨b1, b2, _⟩ := h3 q hq
        unfold Pc.key at g9
        simp only [Prod.mk.injEq] at g9
        refine ⟨by rw [g9.1, b1], by omega, fun y _ _ => ?_⟩
        rw [g9.2.2]
        split <;> rfl)
  have c1 := h1.sp.c1
  clear h h1 h2 h3 z hll
  go_enter Try.func46, Try.ntmps46
  go_wp2_with (go_at_call 34; (with_reducible refine cP.mono ?_); rintro e w1 ⟨rfl, g1⟩; have G1 := Lib.hid g1; clear g1)
  go_ret
  exact ⟨rfl, G1.out⟩
end
end Go.Proofs.Ytdddmjdlikjedaa
