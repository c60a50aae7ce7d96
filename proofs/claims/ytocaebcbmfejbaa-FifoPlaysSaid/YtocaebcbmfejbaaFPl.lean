/-
  FifoPlays' state: the program's fifo and the reference's, alike; what each of the two calls makes of it. No conditions.
-/
import Derived.Test.YtocaebcbmfejbaaFRRead
import Derived.Test.YtocaebcbmfejbaaFLaw
namespace Go.Proofs.Ytocaebcbmfejbaa
open Go.RowKit

theorem rk_lt {w : World} {v : Value} {b : List UInt8} (h : Rk w v b) (h0 : ¬ b.length = 0) : ∀ k, Blk v k → k < w.heap.size := by
  obtain ⟨p', c', hpe, hpz, hpc⟩ := (h.rz.rd (by omega)).form
  intro k hk
  subst hpe
  cases p' with
  | none => have := hpz rfl; omega
  | some pa =>
    obtain ⟨gb, ob, rfl, hcb⟩ := hpc pa rfl
    have h1 := hcb 0 (by omega)
    rw [List.getElem?_eq_getElem (by rw [bcells_len]; omega)] at h1
    have h2 := World.block_lt_of_cell? w _ h1
    have h3 : gb = k := by simpa [Blk, Value.ownBlock] using hk
    exact h3 ▸ h2
structure Rel (size : Nat) (K : Nat → Re) (C : Nat → Bool) (Q : Nat → Pcs) : Prop where
  c : ∀ e, e < 2 → C e = !(K e).op
  d : ∀ e, e < 2 → (K e).d = pb (Q e)
  q : ∀ e, e < 2 → ∀ q ∈ Q e, q.2.length = size
section
variable {w : World} {x count size : Nat} {K : Nat → Re} {C : Nat → Bool} {U : Nat → Value} {Q : Nat → Pcs}
theorem Rel.dl (h : Rel size K C Q) {e : Nat} (he : e < 2) : (K e).d.length = (Q e).length * size := by rw [h.d e he, pb_len (h.q e he)]
theorem Rel.ln (h : Rel size K C Q) (h1 : 1 ≤ size) {e : Nat} (he : e < 2) : (K e).d.length / size = (Q e).length := by rw [h.dl he]; exact Nat.mul_div_cancel _ (by omega)
theorem Rel.le (h : Rel size K C Q) (h1 : 1 ≤ size) {e : Nat} (he : e < 2) (hok : ROK count size (K e)) : (Q e).length ≤ count := by
  obtain ⟨n, h2, h3⟩ := hok.num
  rw [← h.ln h1 he, h2, Nat.mul_div_cancel _ (by omega)]
  exact h3
theorem Rel.set (h : Rel size K C Q) {e : Nat} (_he : e < 2) {s : Re} {l : Pcs} (h2 : s.op = (K e).op) (h5 : s.d = pb l) (h7 : ∀ q ∈ l, q.2.length = size) : Rel size (updN K e s) C (updN Q e l) := by
  refine ⟨fun i hi => ?_, fun i hi => ?_, fun i hi => ?_⟩
  all_goals
    by_cases hie : i = e
    · subst hie
      first
        | (rw [updN_same, h2]; exact h.c i hi)
        | (rw [updN_same, updN_same]; exact h5)
        | (rw [updN_same]; exact h7)
    · first
        | (rw [updN_other _ _ hie, updN_other _ _ hie]; exact h.d i hi)
        | (rw [updN_other _ _ hie]; exact h.c i hi)
        | (rw [updN_other _ _ hie]; exact h.q i hi)
theorem Rel.same (h : Rel size K C Q) {K2 : Nat → Re} (hk : K = K2) : Rel size K2 C Q := hk ▸ h
theorem Rel.eq (h : Rel size K C Q) {K2 : Nat → Re} {Q2 : Nat → Pcs} (hk : K = K2) (hq : Q = Q2) : Rel size K2 C Q2 := hk ▸ hq ▸ h
theorem rw0 (h : QAt w x count size C U Q) (rel : Rel size K C Q) (hok : ROK count size (K 1)) (h1 : 1 ≤ size) (h2 : size ≤ 64) (h3 : count ≤ 1024) {v : Value} {b : List UInt8} (hb : Rk w v b) (hoff : ¬ b.length = 0 → ∀ k, Blk v k → ¬ QF x U Q k) (hbl : b.length ≤ 1000) :
    Calls Try.prog 42 #[.pointer (some ⟨x, 0, none⟩), .int .i64 0, v] w fun y w' => y = .returned (.tuple #[.int .i64 ((wrN count size (K 0) (K 1) b : Nat) : Int), .int .i64 (wrS count size (K 0) (K 1) b)]) ∧ ∃ Q', QMade w w' x count size C U Q Q' ∧ Rel size (wrK count size K 0 b) C Q' := by
  have hce := rel.c 0 (by omega)
  have hco := rel.c 1 (by omega)
  have hsame : wrS count size (K 0) (K 1) b ≠ 0 → wrN count size (K 0) (K 1) b = 0 ∧ wrK count size K 0 b = K := fun h0 => by
    unfold wrK wrE wrN
    rw [show oth 0 = 1 from rfl, if_neg h0, if_neg h0, updN_self]
    exact ⟨rfl, rfl⟩
  have no : ∀ st : Int, wrS count size (K 0) (K 1) b = st → st ≠ 0 → ∀ (y : Ending) (w' : World), y = .returned (.tuple #[.int .i64 0, .int .i64 st]) ∧ Turn NoBlock w w' → (y = .returned (.tuple #[.int .i64 ((wrN count size (K 0) (K 1) b : Nat) : Int), .int .i64 (wrS count size (K 0) (K 1) b)]) ∧ ∃ Q', QMade w w' x count size C U Q Q' ∧ Rel size (wrK count size K 0 b) C Q') := fun st hs h0 y w' hh => by
    obtain ⟨e1, e2⟩ := hsame (hs ▸ h0)
    rw [e1, e2, hs]
    exact ⟨hh.1, Q, QMade.refl h hh.2, rel⟩
  obtain ⟨p, ca, hv, -⟩ := hb.sl
  rcases wrS_any count size (K 0) (K 1) b with ⟨hs, o1⟩ | ⟨hs, o1, l0⟩ | ⟨hs, o1, l0, l1⟩ | ⟨hs, o1, l0, l1, o2⟩ | ⟨hs, o1, l0, l1, o2, l2⟩ | ⟨hs, o1, l0, l1, o2, l2⟩
  · rw [o1] at hce
    subst hv
    exact (qwrite_closed0 h hce p _ ca).mono (fun y w' hh => no _ hs (by decide) y w' ⟨hh.1, hh.2 ▸ Turn.refl _ _⟩)
  · rw [o1] at hce
    subst hv
    exact (qwrite_size0 h hce h1 p _ ca (.inl l0)).mono (fun y w' hh => no _ hs (by decide) y w' ⟨hh.1, hh.2 ▸ Turn.refl _ _⟩)
  · rw [o1] at hce
    subst hv
    exact (qwrite_size0 h hce h1 p _ ca (.inr ⟨l0, l1⟩)).mono (fun y w' hh => no _ hs (by decide) y w' ⟨hh.1, hh.2 ▸ Turn.refl _ _⟩)
  · rw [o1] at hce
    rw [o2] at hco
    subst hv
    exact (qwrite_no0 h hce h1 p _ ca l0 l1 _ (.inl ⟨rfl, hco⟩)).mono (fun y w' hh => no _ hs (by decide) y w' hh)
  · rw [o1] at hce
    rw [o2] at hco
    subst hv
    have hl : (Q 1).length = count := by
      have := rel.dl (e := 1) (by omega)
      rw [l2] at this
      exact Nat.eq_of_mul_eq_mul_right (by omega) this.symm
    exact (qwrite_no0 h hce h1 p _ ca l0 l1 _ (.inr ⟨rfl, hco, hl⟩)).mono (fun y w' hh => no _ hs (by decide) y w' hh)
  · rw [o1] at hce
    rw [o2] at hco
    have hlt : (Q 1).length < count := by
      have h5 := rel.le h1 (e := 1) (by omega) hok
      have h6 := rel.dl (e := 1) (by omega)
      rcases Nat.lt_or_ge (Q 1).length count with h7 | h7
      · exact h7
      · exact (l2 (by rw [h6, show (Q 1).length = count by omega])).elim
    obtain ⟨k, hk⟩ : ∃ k, b.length = k * size := ⟨b.length / size, by have := Nat.div_add_mod b.length size; rw [Nat.mul_comm]; omega⟩
    have hk0 : 0 < k := by
      rcases Nat.eq_zero_or_pos k with h5 | h5
      · subst h5; rw [Nat.zero_mul] at hk; omega
      · exact h5
    have hkd : b.length / size = k := by rw [hk]; exact Nat.mul_div_cancel _ (by omega)
    obtain ⟨e1, e2⟩ := wrE_def count size (K 0) (K 1) b _ hs rfl
    rw [hkd, rel.ln h1 (e := 1) (by omega)] at e1 e2
    refine (qwrite0 h hce hco h1 h2 h3 hb (hoff l0) k hk hk0 hbl hlt).mono ?_
    rintro y w' ⟨rfl, L, hL1, hL2, hL3, hL4⟩
    refine ⟨by rw [e1, hs], _, hL4, ?_⟩
    unfold wrK
    rw [show oth 0 = 1 from rfl, e2]
    refine rel.set (e := 1) (by omega) rfl ?_ (fun q hq => ?_)
    · rw [pb_app, hL3, rel.d 1 (by omega)]
    · rcases List.mem_append.1 hq with h5 | h5
      · exact rel.q 1 (by omega) q h5
      · exact hL2 q h5
theorem rr0 (h : QAt w x count size C U Q) (rel : Rel size K C Q) (hok : ROK count size (K 0)) (h1 : 1 ≤ size) (h2 : size ≤ 64) (h3 : count ≤ 1024) (n : Int) (hn : n ≤ 9223372036854775807) :
    Calls Try.prog 44 #[.pointer (some ⟨x, 0, none⟩), .int .i64 0, .int .i64 n] w fun y w' => ∃ v, y = .returned (.tuple #[v, .int .i64 (rdS (K 0) (K 1) n)]) ∧ Byts v (rdB size (K 0) (K 1) n) w' ∧ ∃ Q', QMade w w' x count size C U Q Q' ∧ Rel size (rdK size K 0 n) C Q' := by
  have hce := rel.c 0 (by omega)
  have hco := rel.c 1 (by omega)
  have hsame : rdS (K 0) (K 1) n ≠ 0 → rdB size (K 0) (K 1) n = [] ∧ rdK size K 0 n = K := fun h0 => by
    unfold rdK rdE rdB
    rw [show oth 0 = 1 from rfl, if_neg h0, if_neg h0, updN_self]
    exact ⟨rfl, rfl⟩
  have no : ∀ st : Int, rdS (K 0) (K 1) n = st → st ≠ 0 → ∀ (y : Ending) (w' : World), y = .returned (.tuple #[.slice none 0 0, .int .i64 st]) ∧ w = w' → ∃ v, y = .returned (.tuple #[v, .int .i64 (rdS (K 0) (K 1) n)]) ∧ Byts v (rdB size (K 0) (K 1) n) w' ∧ ∃ Q', QMade w w' x count size C U Q Q' ∧ Rel size (rdK size K 0 n) C Q' := fun st hs h0 y w' hh => by
    obtain ⟨e1, e2⟩ := hsame (hs ▸ h0)
    rw [e1, e2, hs]
    exact ⟨_, hh.1, byts_nil _, Q, QMade.refl h (hh.2 ▸ Turn.refl _ _), rel⟩
  have ql : (K 0).d.length = 0 → (Q 0).length = 0 := fun h5 => by
    have := rel.dl (e := 0) (by omega)
    rw [h5] at this
    rcases Nat.mul_eq_zero.1 this.symm with h6 | h6
    · exact h6
    · omega
  rcases rdS_any (K 0) (K 1) n with ⟨hs, o1⟩ | ⟨hs, o1, l0⟩ | ⟨hs, o1, l0, l1, o2⟩ | ⟨hs, o1, l0, l1, o2⟩ | ⟨hs, o1, l0, l1⟩
  · rw [o1] at hce
    exact (qread_no0 h n _ (.inl ⟨rfl, hce⟩)).mono (no _ hs (by decide))
  · rw [o1] at hce
    exact (qread_no0 h n _ (.inr (.inl ⟨rfl, hce, l0⟩))).mono (no _ hs (by decide))
  · rw [o1] at hce
    rw [o2] at hco
    exact (qread_no0 h n _ (.inr (.inr (.inl ⟨rfl, hce, l0, ql l1, hco⟩)))).mono (no _ hs (by decide))
  · rw [o1] at hce
    rw [o2] at hco
    exact (qread_no0 h n _ (.inr (.inr (.inr ⟨rfl, hce, l0, ql l1, hco⟩)))).mono (no _ hs (by decide))
  · rw [o1] at hce
    obtain ⟨m, rfl⟩ : ∃ m : Nat, n = m := ⟨n.toNat, by omega⟩
    have h5 := rel.le h1 (e := 0) (by omega) hok
    have h6 := rel.dl (e := 0) (by omega)
    have hpos : 0 < (Q 0).length := by
      rcases Nat.eq_zero_or_pos (Q 0).length with h7 | h7
      · rw [h7, Nat.zero_mul] at h6; exact (l1 h6).elim
      · exact h7
    obtain ⟨t1, t2⟩ := take_min (K 0).d (Q 0).length _ size m h6 rfl
    obtain ⟨p1, p2⟩ := pb_take (rel.q 0 (by omega)) (min m (Q 0).length)
    have e1 : rdB size (K 0) (K 1) (m : Int) = pb ((Q 0).take (min m (Q 0).length)) := by
      unfold rdB
      rw [if_pos hs, p1, ← rel.d 0 (by omega), t1]
      rfl
    have e2 : rdE size (K 0) (K 1) (m : Int) = { K 0 with d := pb ((Q 0).drop (min m (Q 0).length)) } := by
      unfold rdE
      rw [if_pos hs, p2, ← rel.d 0 (by omega), t2]
      rfl
    refine (qread0 h hce h2 m hn (by omega) hpos (rel.q 0 (by omega)) (by omega) _ rfl).mono ?_
    rintro y w' ⟨v, rfl, v1, v2⟩
    rw [e1, hs]
    refine ⟨v, rfl, v1, _, v2, ?_⟩
    unfold rdK
    rw [show oth 0 = 1 from rfl, e2]
    exact rel.set (e := 0) (by omega) rfl rfl (fun q hq => rel.q 0 (by omega) q (List.mem_of_mem_drop hq))
theorem rw1 (h : QAt w x count size C U Q) (rel : Rel size K C Q) (hok : ROK count size (K 0)) (h1 : 1 ≤ size) (h2 : size ≤ 64) (h3 : count ≤ 1024) {v : Value} {b : List UInt8} (hb : Rk w v b) (hoff : ¬ b.length = 0 → ∀ k, Blk v k → ¬ QF x U Q k) (hbl : b.length ≤ 1000) :
    Calls Try.prog 42 #[.pointer (some ⟨x, 0, none⟩), .int .i64 1, v] w fun y w' => y = .returned (.tuple #[.int .i64 ((wrN count size (K 1) (K 0) b : Nat) : Int), .int .i64 (wrS count size (K 1) (K 0) b)]) ∧ ∃ Q', QMade w w' x count size C U Q Q' ∧ Rel size (wrK count size K 1 b) C Q' := by
  have hce := rel.c 1 (by omega)
  have hco := rel.c 0 (by omega)
  have hsame : wrS count size (K 1) (K 0) b ≠ 0 → wrN count size (K 1) (K 0) b = 0 ∧ wrK count size K 1 b = K := fun h0 => by
    unfold wrK wrE wrN
    rw [show oth 1 = 0 from rfl, if_neg h0, if_neg h0, updN_self]
    exact ⟨rfl, rfl⟩
  have no : ∀ st : Int, wrS count size (K 1) (K 0) b = st → st ≠ 0 → ∀ (y : Ending) (w' : World), y = .returned (.tuple #[.int .i64 0, .int .i64 st]) ∧ Turn NoBlock w w' → (y = .returned (.tuple #[.int .i64 ((wrN count size (K 1) (K 0) b : Nat) : Int), .int .i64 (wrS count size (K 1) (K 0) b)]) ∧ ∃ Q', QMade w w' x count size C U Q Q' ∧ Rel size (wrK count size K 1 b) C Q') := fun st hs h0 y w' hh => by
    obtain ⟨e1, e2⟩ := hsame (hs ▸ h0)
    rw [e1, e2, hs]
    exact ⟨hh.1, Q, QMade.refl h hh.2, rel⟩
  obtain ⟨p, ca, hv, -⟩ := hb.sl
  rcases wrS_any count size (K 1) (K 0) b with ⟨hs, o1⟩ | ⟨hs, o1, l0⟩ | ⟨hs, o1, l0, l1⟩ | ⟨hs, o1, l0, l1, o2⟩ | ⟨hs, o1, l0, l1, o2, l2⟩ | ⟨hs, o1, l0, l1, o2, l2⟩
  · rw [o1] at hce
    subst hv
    exact (qwrite_closed1 h hce p _ ca).mono (fun y w' hh => no _ hs (by decide) y w' ⟨hh.1, hh.2 ▸ Turn.refl _ _⟩)
  · rw [o1] at hce
    subst hv
    exact (qwrite_size1 h hce h1 p _ ca (.inl l0)).mono (fun y w' hh => no _ hs (by decide) y w' ⟨hh.1, hh.2 ▸ Turn.refl _ _⟩)
  · rw [o1] at hce
    subst hv
    exact (qwrite_size1 h hce h1 p _ ca (.inr ⟨l0, l1⟩)).mono (fun y w' hh => no _ hs (by decide) y w' ⟨hh.1, hh.2 ▸ Turn.refl _ _⟩)
  · rw [o1] at hce
    rw [o2] at hco
    subst hv
    exact (qwrite_no1 h hce h1 p _ ca l0 l1 _ (.inl ⟨rfl, hco⟩)).mono (fun y w' hh => no _ hs (by decide) y w' hh)
  · rw [o1] at hce
    rw [o2] at hco
    subst hv
    have hl : (Q 0).length = count := by
      have := rel.dl (e := 0) (by omega)
      rw [l2] at this
      exact Nat.eq_of_mul_eq_mul_right (by omega) this.symm
    exact (qwrite_no1 h hce h1 p _ ca l0 l1 _ (.inr ⟨rfl, hco, hl⟩)).mono (fun y w' hh => no _ hs (by decide) y w' hh)
  · rw [o1] at hce
    rw [o2] at hco
    have hlt : (Q 0).length < count := by
      have h5 := rel.le h1 (e := 0) (by omega) hok
      have h6 := rel.dl (e := 0) (by omega)
      rcases Nat.lt_or_ge (Q 0).length count with h7 | h7
      · exact h7
      · exact (l2 (by rw [h6, show (Q 0).length = count by omega])).elim
    obtain ⟨k, hk⟩ : ∃ k, b.length = k * size := ⟨b.length / size, by have := Nat.div_add_mod b.length size; rw [Nat.mul_comm]; omega⟩
    have hk0 : 0 < k := by
      rcases Nat.eq_zero_or_pos k with h5 | h5
      · subst h5; rw [Nat.zero_mul] at hk; omega
      · exact h5
    have hkd : b.length / size = k := by rw [hk]; exact Nat.mul_div_cancel _ (by omega)
    obtain ⟨e1, e2⟩ := wrE_def count size (K 1) (K 0) b _ hs rfl
    rw [hkd, rel.ln h1 (e := 0) (by omega)] at e1 e2
    refine (qwrite1 h hce hco h1 h2 h3 hb (hoff l0) k hk hk0 hbl hlt).mono ?_
    rintro y w' ⟨rfl, L, hL1, hL2, hL3, hL4⟩
    refine ⟨by rw [e1, hs], _, hL4, ?_⟩
    unfold wrK
    rw [show oth 1 = 0 from rfl, e2]
    refine rel.set (e := 0) (by omega) rfl ?_ (fun q hq => ?_)
    · rw [pb_app, hL3, rel.d 0 (by omega)]
    · rcases List.mem_append.1 hq with h5 | h5
      · exact rel.q 0 (by omega) q h5
      · exact hL2 q h5
theorem rr1 (h : QAt w x count size C U Q) (rel : Rel size K C Q) (hok : ROK count size (K 1)) (h1 : 1 ≤ size) (h2 : size ≤ 64) (h3 : count ≤ 1024) (n : Int) (hn : n ≤ 9223372036854775807) :
    Calls Try.prog 44 #[.pointer (some ⟨x, 0, none⟩), .int .i64 1, .int .i64 n] w fun y w' => ∃ v, y = .returned (.tuple #[v, .int .i64 (rdS (K 1) (K 0) n)]) ∧ Byts v (rdB size (K 1) (K 0) n) w' ∧ ∃ Q', QMade w w' x count size C U Q Q' ∧ Rel size (rdK size K 1 n) C Q' := by
  have hce := rel.c 1 (by omega)
  have hco := rel.c 0 (by omega)
  have hsame : rdS (K 1) (K 0) n ≠ 0 → rdB size (K 1) (K 0) n = [] ∧ rdK size K 1 n = K := fun h0 => by
    unfold rdK rdE rdB
    rw [show oth 1 = 0 from rfl, if_neg h0, if_neg h0, updN_self]
    exact ⟨rfl, rfl⟩
  have no : ∀ st : Int, rdS (K 1) (K 0) n = st → st ≠ 0 → ∀ (y : Ending) (w' : World), y = .returned (.tuple #[.slice none 0 0, .int .i64 st]) ∧ w = w' → ∃ v, y = .returned (.tuple #[v, .int .i64 (rdS (K 1) (K 0) n)]) ∧ Byts v (rdB size (K 1) (K 0) n) w' ∧ ∃ Q', QMade w w' x count size C U Q Q' ∧ Rel size (rdK size K 1 n) C Q' := fun st hs h0 y w' hh => by
    obtain ⟨e1, e2⟩ := hsame (hs ▸ h0)
    rw [e1, e2, hs]
    exact ⟨_, hh.1, byts_nil _, Q, QMade.refl h (hh.2 ▸ Turn.refl _ _), rel⟩
  have ql : (K 1).d.length = 0 → (Q 1).length = 0 := fun h5 => by
    have := rel.dl (e := 1) (by omega)
    rw [h5] at this
    rcases Nat.mul_eq_zero.1 this.symm with h6 | h6
    · exact h6
    · omega
  rcases rdS_any (K 1) (K 0) n with ⟨hs, o1⟩ | ⟨hs, o1, l0⟩ | ⟨hs, o1, l0, l1, o2⟩ | ⟨hs, o1, l0, l1, o2⟩ | ⟨hs, o1, l0, l1⟩
  · rw [o1] at hce
    exact (qread_no1 h n _ (.inl ⟨rfl, hce⟩)).mono (no _ hs (by decide))
  · rw [o1] at hce
    exact (qread_no1 h n _ (.inr (.inl ⟨rfl, hce, l0⟩))).mono (no _ hs (by decide))
  · rw [o1] at hce
    rw [o2] at hco
    exact (qread_no1 h n _ (.inr (.inr (.inl ⟨rfl, hce, l0, ql l1, hco⟩)))).mono (no _ hs (by decide))
  · rw [o1] at hce
    rw [o2] at hco
    exact (qread_no1 h n _ (.inr (.inr (.inr ⟨rfl, hce, l0, ql l1, hco⟩)))).mono (no _ hs (by decide))
  · rw [o1] at hce
    obtain ⟨m, rfl⟩ : ∃ m : Nat, n = m := ⟨n.toNat, by omega⟩
    have h5 := rel.le h1 (e := 1) (by omega) hok
    have h6 := rel.dl (e := 1) (by omega)
    have hpos : 0 < (Q 1).length := by
      rcases Nat.eq_zero_or_pos (Q 1).length with h7 | h7
      · rw [h7, Nat.zero_mul] at h6; exact (l1 h6).elim
      · exact h7
    obtain ⟨t1, t2⟩ := take_min (K 1).d (Q 1).length _ size m h6 rfl
    obtain ⟨p1, p2⟩ := pb_take (rel.q 1 (by omega)) (min m (Q 1).length)
    have e1 : rdB size (K 1) (K 0) (m : Int) = pb ((Q 1).take (min m (Q 1).length)) := by
      unfold rdB
      rw [if_pos hs, p1, ← rel.d 1 (by omega), t1]
      rfl
    have e2 : rdE size (K 1) (K 0) (m : Int) = { K 1 with d := pb ((Q 1).drop (min m (Q 1).length)) } := by
      unfold rdE
      rw [if_pos hs, p2, ← rel.d 1 (by omega), t2]
      rfl
    refine (qread1 h hce h2 m hn (by omega) hpos (rel.q 1 (by omega)) (by omega) _ rfl).mono ?_
    rintro y w' ⟨v, rfl, v1, v2⟩
    rw [e1, hs]
    refine ⟨v, rfl, v1, _, v2, ?_⟩
    unfold rdK
    rw [show oth 1 = 0 from rfl, e2]
    exact rel.set (e := 1) (by omega) rfl rfl (fun q hq => rel.q 1 (by omega) q (List.mem_of_mem_drop hq))
end
/-- The program's fifo has the ends K1, the reference's those that answer to K; the blocks of Y lie beside both. -/
structure PSt (w0 w : World) (c x count size : Nat) (Y : Nat → Prop) (K1 K : Nat → Re) (G : Nat → Nat) (C : Nat → Bool) (U : Nat → Value) (Q : Nat → Pcs) : Prop where
  k : FSt w0 w c count size K1 G (fun j => QF x U Q j ∨ Y j)
  r : QAt w x count size C U Q
  rel : Rel size K C Q
  ok : ∀ e, e < 2 → ROK count size (K e)
  ap : ∀ j, Y j → ¬ QF x U Q j
  mine : ∀ j, QF x U Q j ∨ Y j → w0.heap.size ≤ j
def PSx (w0 w : World) (c x count size : Nat) (Y : Nat → Prop) (K1 K : Nat → Re) : Prop := ∃ G C U Q, PSt w0 w c x count size Y K1 K G C U Q
section
variable {w0 w w' : World} {c x count size : Nat} {Y Z : Nat → Prop} {K1 K : Nat → Re}
theorem PSx.turn (h : PSx w0 w c x count size Y K1 K) : Turn NoBlock w0 w := by
  obtain ⟨G, C, U, Q, h⟩ := h
  exact h.k.turn
theorem PSt.past {G : Nat → Nat} {C : Nat → Bool} {U : Nat → Value} {Q : Nat → Pcs} (h : PSt w0 w c x count size Y K1 K G C U Q) (t : Turn NoBlock w w') : PSt w0 w' c x count size Y K1 K G C U Q := ⟨h.k.past t, h.r.past t, h.rel, h.ok, h.ap, h.mine⟩
theorem PSx.past (h : PSx w0 w c x count size Y K1 K) (t : Turn NoBlock w w') : PSx w0 w' c x count size Y K1 K := by
  obtain ⟨G, C, U, Q, h⟩ := h
  exact ⟨G, C, U, Q, h.past t⟩
/-- What lies beside has turned, or has become other blocks. -/
theorem PSx.more (h : PSx w0 w c x count size Y K1 K) (t : Turn Y w w') (hZ : ∀ k, Z k → Y k ∨ (w.heap.size ≤ k ∧ k < w'.heap.size)) : PSx w0 w' c x count size Z K1 K := by
  obtain ⟨G, C, U, Q, h⟩ := h
  have hr := h.r.kept t (fun k hk hy => h.ap k hy hk)
  have hz : ∀ k, Z k → ¬ QF x U Q k ∧ w0.heap.size ≤ k := fun k hk => by
    rcases hZ k hk with h1 | h1
    · exact ⟨h.ap k h1, h.mine k (.inr h1)⟩
    · exact ⟨fun h2 => by have := h.r.lt h2; omega, by have := h.k.turn.size; omega⟩
  refine ⟨G, C, U, Q, h.k.more (t.mono (fun k hk => .inl (.inr hk))) (fun k hk => ?_) h.mine, hr, h.rel, h.ok, fun k hk => (hz k hk).1, fun k hk => ?_⟩
  · rcases hk with hk | hk
    · exact .inl (.inl hk)
    · rcases hZ k hk with h1 | h1
      · exact .inl (.inr h1)
      · exact .inr h1
  · rcases hk with hk | hk
    · exact h.mine k (.inl hk)
    · exact (hz k hk).2
theorem PSx.fewer (h : PSx w0 w c x count size Y K1 K) (hZ : ∀ k, Z k → Y k) : PSx w0 w c x count size Z K1 K := by
  obtain ⟨G, C, U, Q, h⟩ := h
  exact ⟨G, C, U, Q, h.k.fewer (fun k hk => hk.imp (fun h => h) (hZ k)), h.r, h.rel, h.ok, fun k hk => h.ap k (hZ k hk), fun k hk => h.mine k (hk.imp (fun h => h) (hZ k))⟩
/-- The program's call has been made. -/
theorem pst_prog {G : Nat → Nat} {C : Nat → Bool} {U : Nat → Value} {Q : Nat → Pcs} {K2 : Nat → Re} (h : PSt w0 w c x count size Y K1 K G C U Q) (hk : FSt w0 w' c count size K2 G (fun j => QF x U Q j ∨ Y j)) (kp : Kp (fun j => QF x U Q j ∨ Y j) w w') : PSt w0 w' c x count size Y K2 K G C U Q := by
  obtain ⟨F, t, hF⟩ := kp
  exact ⟨hk, h.r.kept t (fun k hk hf => hF k (.inl hk) hf), h.rel, h.ok, h.ap, h.mine⟩
/-- The reference's call has been made. -/
theorem pst_ref {G : Nat → Nat} {C : Nat → Bool} {U : Nat → Value} {Q Q' : Nat → Pcs} {K2 : Nat → Re} (h : PSt w0 w c x count size Y K2 K G C U Q) (hm : QMade w w' x count size C U Q Q') (hr : Rel size K2 C Q') : PSx w0 w' c x count size Y K2 K2 ∧ Kp Y w w' := by
  obtain ⟨U', h1, t, h3⟩ := hm
  have ht := h.k.turn.size
  refine ⟨⟨G, C, U', Q', h.k.more (t.mono (fun k hk => .inl (.inl hk))) (fun k hk => ?_) h.mine, h1, hr, fun e he => h.k.mem.ok e he, fun j hj hf => ?_, fun j hj => ?_⟩, _, t, fun k hk e => h.ap k hk e⟩
  · rcases hk with hk | hk
    · rcases h3 k hk with h4 | h4
      · exact .inl (.inl h4)
      · exact .inr h4
    · exact .inl (.inr hk)
  · rcases h3 j hf with h4 | h4
    · exact h.ap j hj h4
    · have := (h.k.ap j (.inr hj)).1
      omega
  · rcases hj with hj | hj
    · rcases h3 j hj with h4 | h4
      · exact h.mine j (.inl h4)
      · omega
    · exact h.mine j (.inr hj)
/-- Write's answer at any end, and the ends behind it. -/
def wN (count size : Nat) (K : Nat → Re) (e : Int) (b : List UInt8) : Int := if e = 0 then (wrN count size (K 0) (K 1) b : Nat) else if e = 1 then (wrN count size (K 1) (K 0) b : Nat) else 0
def wS (count size : Nat) (K : Nat → Re) (e : Int) (b : List UInt8) : Int := if e = 0 then wrS count size (K 0) (K 1) b else if e = 1 then wrS count size (K 1) (K 0) b else -10
def wK (count size : Nat) (K : Nat → Re) (e : Int) (b : List UInt8) : Nat → Re := if e = 0 then wrK count size K 0 b else if e = 1 then wrK count size K 1 b else K
def rS (K : Nat → Re) (e n : Int) : Int := if e = 0 then rdS (K 0) (K 1) n else if e = 1 then rdS (K 1) (K 0) n else -10
def rB (size : Nat) (K : Nat → Re) (e n : Int) : List UInt8 := if e = 0 then rdB size (K 0) (K 1) n else if e = 1 then rdB size (K 1) (K 0) n else []
def rK (size : Nat) (K : Nat → Re) (e n : Int) : Nat → Re := if e = 0 then rdK size K 0 n else if e = 1 then rdK size K 1 n else K
theorem kp_Y {U : Nat → Value} {Q : Nat → Pcs} (h : Kp (fun j => QF x U Q j ∨ Y j) w w') : Kp Y w w' := by
  obtain ⟨F, t, hF⟩ := h
  exact ⟨F, t, fun k hk => hF k (.inr hk)⟩
/-- The program's Write. -/
theorem p_write (h : PSx w0 w c x count size Y K K) (e : Int) (vb : Value) (b : List UInt8) (hb : b.length ≤ 1000000) (hr : Rk w vb b) (hv : ∀ k, Blk vb k → Y k) :
    Calls Try.prog 41 #[.pointer (some ⟨c, 0, none⟩), .int .i64 e, vb] w fun y w' => y = .returned (.tuple #[.int .i64 (wN count size K e b), .int .i64 (wS count size K e b)]) ∧ PSx w0 w' c x count size Y (wK count size K e b) K ∧ Kp Y w w' := by
  obtain ⟨G, C, U, Q, h⟩ := h
  unfold wN wS wK
  by_cases e0 : e = 0
  · subst e0
    rw [if_pos rfl, if_pos rfl, if_pos rfl]
    exact (h.k.write0 hr (by omega) (fun k hk => .inr (.inr (hv k hk)))).mono (fun y w' hh => ⟨hh.1, ⟨G, C, U, Q, pst_prog h hh.2.1 hh.2.2⟩, kp_Y hh.2.2⟩)
  · by_cases e1 : e = 1
    · subst e1
      rw [if_neg (show ¬ (1 : Int) = 0 by decide), if_pos rfl, if_neg (show ¬ (1 : Int) = 0 by decide), if_pos rfl, if_neg (show ¬ (1 : Int) = 0 by decide), if_pos rfl]
      exact (h.k.write1 hr (by omega) (fun k hk => .inr (.inr (hv k hk)))).mono (fun y w' hh => ⟨hh.1, ⟨G, C, U, Q, pst_prog h hh.2.1 hh.2.2⟩, kp_Y hh.2.2⟩)
    · rw [if_neg e0, if_neg e1, if_neg e0, if_neg e1, if_neg e0, if_neg e1]
      obtain ⟨p, ca, rfl, -⟩ := hr.sl
      exact (fwrite_bad e e0 e1 c p _ ca w).mono (fun y w' hh => by
        obtain ⟨rfl, rfl⟩ := hh
        exact ⟨rfl, ⟨G, C, U, Q, h⟩, Kp.of_past (Turn.refl _ _)⟩)
/-- The reference's Write, behind the program's. -/
theorem p_write2 (e : Int) (vb : Value) (b : List UInt8) (h : PSx w0 w c x count size Y (wK count size K e b) K) (hb : Rk w vb b) (hv : ¬ b.length = 0 → ∀ k, Blk vb k → k < w0.heap.size) (hbl : b.length ≤ 1000) :
    Calls Try.prog 42 #[.pointer (some ⟨x, 0, none⟩), .int .i64 e, vb] w fun y w' => y = .returned (.tuple #[.int .i64 (wN count size K e b), .int .i64 (wS count size K e b)]) ∧ PSx w0 w' c x count size Y (wK count size K e b) (wK count size K e b) ∧ Kp Y w w' := by
  obtain ⟨G, C, U, Q, h⟩ := h
  have hoff : ¬ b.length = 0 → ∀ k, Blk vb k → ¬ QF x U Q k := fun l0 k hk hq => by have := h.mine k (.inl hq); have := hv l0 k hk; omega
  unfold wN wS wK at *
  by_cases e0 : e = 0
  · subst e0
    rw [if_pos rfl] at h
    rw [if_pos rfl, if_pos rfl, if_pos rfl]
    refine (rw0 h.r h.rel (h.ok 1 (by omega)) h.k.mem.r3 h.k.mem.r4 h.k.mem.r2 hb hoff hbl).mono (fun y w' hh => ⟨hh.1, ?_⟩)
    obtain ⟨Q', h2, h3⟩ := hh.2
    exact pst_ref h h2 h3
  · by_cases e1 : e = 1
    · subst e1
      rw [if_neg (by decide), if_pos rfl] at h
      rw [if_neg (show ¬ (1 : Int) = 0 by decide), if_pos rfl, if_neg (show ¬ (1 : Int) = 0 by decide), if_pos rfl, if_neg (show ¬ (1 : Int) = 0 by decide), if_pos rfl]
      refine (rw1 h.r h.rel (h.ok 0 (by omega)) h.k.mem.r3 h.k.mem.r4 h.k.mem.r2 hb hoff hbl).mono (fun y w' hh => ⟨hh.1, ?_⟩)
      obtain ⟨Q', h2, h3⟩ := hh.2
      exact pst_ref h h2 h3
    · rw [if_neg e0, if_neg e1] at h
      rw [if_neg e0, if_neg e1, if_neg e0, if_neg e1, if_neg e0, if_neg e1]
      obtain ⟨p, ca, rfl, -⟩ := hb.sl
      exact (qwrite_bad x e p _ ca w e0 e1).mono (fun y w' hh => by
        obtain ⟨rfl, rfl⟩ := hh
        exact ⟨rfl, ⟨G, C, U, Q, h⟩, Kp.of_past (Turn.refl _ _)⟩)
/-- The program's Read. -/
theorem p_read (h : PSx w0 w c x count size Y K K) (e n : Int) :
    Calls Try.prog 43 #[.pointer (some ⟨c, 0, none⟩), .int .i64 e, .int .i64 n] w fun y w' => ∃ p ca, y = .returned (.tuple #[.slice p (rB size K e n).length ca, .int .i64 (rS K e n)]) ∧ Byts (.slice p (rB size K e n).length ca) (rB size K e n) w' ∧ PSx w0 w' c x count size (fun j => Y j ∨ Blk (.slice p (rB size K e n).length ca) j) (rK size K e n) K ∧ Kp Y w w' := by
  obtain ⟨G, C, U, Q, h⟩ := h
  have go : ∀ (u : Int) (bs : List UInt8) (K2 : Nat → Re), (∀ (y : Ending) (w' : World), (∃ v, y = .returned (.tuple #[v, .int .i64 u]) ∧ Byts v bs w' ∧ FSt w0 w' c count size K2 G (fun k => (QF x U Q k ∨ Y k) ∨ Blk v k) ∧ Kp (fun k => QF x U Q k ∨ Y k) w w' ∧ ∀ k, Blk v k → w.heap.size ≤ k) → ∃ p ca, y = .returned (.tuple #[.slice p bs.length ca, .int .i64 u]) ∧ Byts (.slice p bs.length ca) bs w' ∧ PSx w0 w' c x count size (fun j => Y j ∨ Blk (.slice p bs.length ca) j) K2 K ∧ Kp Y w w') := by
    rintro u bs K2 y w' ⟨v, rfl, h1, h2, ⟨F, t, hF⟩, h4⟩
    obtain ⟨p, ca, rfl⟩ := WRow.sl h1
    refine ⟨p, ca, rfl, h1, ⟨G, C, U, Q, h2.fewer (fun k hk => ?_), h.r.kept t (fun k hk hf => hF k (.inl hk) hf), h.rel, h.ok, fun j hj hf => ?_, fun j hj => ?_⟩, ⟨F, t, fun k hk => hF k (.inr hk)⟩⟩
    · rcases hk with hk | hk | hk
      · exact .inl (.inl hk)
      · exact .inl (.inr hk)
      · exact .inr hk
    · rcases hj with hj | hj
      · exact h.ap j hj hf
      · have := h.r.lt hf; have := h4 j hj; omega
    · rcases hj with hj | hj | hj
      · exact h.mine j (.inl hj)
      · exact h.mine j (.inr hj)
      · have := h.k.turn.size; have := h4 j hj; omega
  unfold rS rB rK
  by_cases e0 : e = 0
  · subst e0
    rw [if_pos rfl, if_pos rfl, if_pos rfl]
    exact (h.k.read0 n).mono (go _ _ _)
  · by_cases e1 : e = 1
    · subst e1
      rw [if_neg (show ¬ (1 : Int) = 0 by decide), if_pos rfl, if_neg (show ¬ (1 : Int) = 0 by decide), if_pos rfl, if_neg (show ¬ (1 : Int) = 0 by decide), if_pos rfl]
      exact (h.k.read1 n).mono (go _ _ _)
    · rw [if_neg e0, if_neg e1, if_neg e0, if_neg e1, if_neg e0, if_neg e1]
      exact (fread_bad e e0 e1 c n w).mono (fun y w' hh => by
        obtain ⟨rfl, rfl⟩ := hh
        exact ⟨none, 0, rfl, byts_nil _, PSx.more ⟨G, C, U, Q, h⟩ (Turn.refl _ _) (fun k hk => .inl (hk.elim (fun h => h) (fun h => (blk_nil k h).elim))), Kp.of_past (Turn.refl _ _)⟩)
/-- The reference's Read, behind the program's. -/
theorem p_read2 (e n : Int) (hn : n ≤ 9223372036854775807) (h : PSx w0 w c x count size Y (rK size K e n) K) :
    Calls Try.prog 44 #[.pointer (some ⟨x, 0, none⟩), .int .i64 e, .int .i64 n] w fun y w' => ∃ v, y = .returned (.tuple #[v, .int .i64 (rS K e n)]) ∧ Byts v (rB size K e n) w' ∧ PSx w0 w' c x count size Y (rK size K e n) (rK size K e n) ∧ Kp Y w w' := by
  obtain ⟨G, C, U, Q, h⟩ := h
  unfold rS rB
  unfold rK at *
  by_cases e0 : e = 0
  · subst e0
    rw [if_pos rfl] at h
    rw [if_pos rfl, if_pos rfl, if_pos rfl]
    refine (rr0 h.r h.rel (h.ok 0 (by omega)) h.k.mem.r3 h.k.mem.r4 h.k.mem.r2 n hn).mono ?_
    rintro y w' ⟨v, rfl, h1, Q', h2, h3⟩
    exact ⟨v, rfl, h1, pst_ref h h2 h3⟩
  · by_cases e1 : e = 1
    · subst e1
      rw [if_neg (by decide), if_pos rfl] at h
      rw [if_neg (show ¬ (1 : Int) = 0 by decide), if_pos rfl, if_neg (show ¬ (1 : Int) = 0 by decide), if_pos rfl, if_neg (show ¬ (1 : Int) = 0 by decide), if_pos rfl]
      refine (rr1 h.r h.rel (h.ok 1 (by omega)) h.k.mem.r3 h.k.mem.r4 h.k.mem.r2 n hn).mono ?_
      rintro y w' ⟨v, rfl, h1, Q', h2, h3⟩
      exact ⟨v, rfl, h1, pst_ref h h2 h3⟩
    · rw [if_neg e0, if_neg e1] at h
      rw [if_neg e0, if_neg e1, if_neg e0, if_neg e1, if_neg e0, if_neg e1]
      exact (qread_bad x e n w e0 e1).mono (fun y w' hh => by
        obtain ⟨rfl, rfl⟩ := hh
        exact ⟨_, rfl, byts_nil _, ⟨G, C, U, Q, h⟩, Kp.of_past (Turn.refl _ _)⟩)
/-- Close's answer at any end, and the ends behind it. -/
def stI (K : Nat → Re) (e : Int) : Int := if e = 0 then (if (K 0).op = true then 0 else -24) else if e = 1 then (if (K 1).op = true then 0 else -24) else -10
def clI (K : Nat → Re) (e : Int) : Nat → Re := if e = 0 then clK K 0 else if e = 1 then clK K 1 else K
theorem p_close {G : Nat → Nat} {C : Nat → Bool} {U : Nat → Value} {Q : Nat → Pcs} (h : PSt w0 w c x count size Y K K G C U Q) (e : Int) :
    Calls Try.prog 45 #[.pointer (some ⟨c, 0, none⟩), .int .i64 e] w fun y w' => y = .returned (.int .i64 (stI K e)) ∧ PSt w0 w' c x count size Y (clI K e) K G C U Q ∧ Kp Y w w' := by
  unfold stI clI
  by_cases e0 : e = 0
  · subst e0
    rw [if_pos rfl, if_pos rfl]
    exact h.k.close0.mono (fun y w' hh => ⟨hh.1, pst_prog h hh.2.1 hh.2.2, kp_Y hh.2.2⟩)
  · by_cases e1 : e = 1
    · subst e1
      rw [if_neg (show ¬ (1 : Int) = 0 by decide), if_pos rfl, if_neg (show ¬ (1 : Int) = 0 by decide), if_pos rfl]
      exact h.k.close1.mono (fun y w' hh => ⟨hh.1, pst_prog h hh.2.1 hh.2.2, kp_Y hh.2.2⟩)
    · rw [if_neg e0, if_neg e1, if_neg e0, if_neg e1]
      exact (fclose_bad e e0 e1 c w).mono (fun y w' hh => by
        obtain ⟨rfl, rfl⟩ := hh
        exact ⟨rfl, h, Kp.of_past (Turn.refl _ _)⟩)
end
end Go.Proofs.Ytocaebcbmfejbaa
