/-
  What Close, Write, Read answer at an end, and what they make of the fifo. No conditions but that the fifo is one that calls can make.
-/
import Derived.Test.YtocaebcbmfejbaaFOps
namespace Go.Proofs.Ytocaebcbmfejbaa
open Go.ChangeShapes Go.WideShapes Go.ChangeAt Go.RowKit

def rdS (s t : Re) (n : Int) : Int := if s.op = false then -24 else if n < 1 then -14 else if s.d.length = 0 then (if t.op = false then -24 else -22) else 0
def rdB (size : Nat) (s t : Re) (n : Int) : List UInt8 := if rdS s t n = 0 then s.d.take (n.toNat * size) else []
def rdE (size : Nat) (s t : Re) (n : Int) : Re := if rdS s t n = 0 then { s with d := s.d.drop (n.toNat * size) } else s
def wrS (count size : Nat) (s t : Re) (b : List UInt8) : Int := if s.op = false then -24 else if b.length = 0 ∨ b.length % size ≠ 0 then -14 else if t.op = false then -24 else if t.d.length = count * size then -22 else 0
def wrN (count size : Nat) (s t : Re) (b : List UInt8) : Nat := if wrS count size s t b = 0 then min (b.length / size) (count - t.d.length / size) else 0
def wrE (count size : Nat) (s t : Re) (b : List UInt8) : Re := if wrS count size s t b = 0 then { t with d := t.d ++ b.take (wrN count size s t b * size) } else t
theorem updN_self {A : Type} (f : Nat → A) (e : Nat) : updN f e (f e) = f := by
  funext i
  unfold updN
  by_cases h : i = e
  · rw [if_pos h, h]
  · rw [if_neg h]
theorem rdS_any (s t : Re) (n : Int) : (rdS s t n = -24 ∧ s.op = false) ∨ (rdS s t n = -14 ∧ s.op = true ∧ n < 1) ∨ (rdS s t n = -24 ∧ s.op = true ∧ 1 ≤ n ∧ s.d.length = 0 ∧ t.op = false) ∨ (rdS s t n = -22 ∧ s.op = true ∧ 1 ≤ n ∧ s.d.length = 0 ∧ t.op = true) ∨ (rdS s t n = 0 ∧ s.op = true ∧ 1 ≤ n ∧ ¬ s.d.length = 0) := by
  unfold rdS
  cases s.op <;> cases t.op <;> by_cases h1 : n < 1 <;> by_cases h2 : s.d.length = 0 <;> simp [h1, h2] <;> omega
theorem wrS_any (count size : Nat) (s t : Re) (b : List UInt8) : (wrS count size s t b = -24 ∧ s.op = false) ∨ (wrS count size s t b = -14 ∧ s.op = true ∧ b.length = 0) ∨ (wrS count size s t b = -14 ∧ s.op = true ∧ ¬ b.length = 0 ∧ ¬ b.length % size = 0) ∨ (wrS count size s t b = -24 ∧ s.op = true ∧ ¬ b.length = 0 ∧ b.length % size = 0 ∧ t.op = false) ∨
    (wrS count size s t b = -22 ∧ s.op = true ∧ ¬ b.length = 0 ∧ b.length % size = 0 ∧ t.op = true ∧ t.d.length = count * size) ∨ (wrS count size s t b = 0 ∧ s.op = true ∧ ¬ b.length = 0 ∧ b.length % size = 0 ∧ t.op = true ∧ ¬ t.d.length = count * size) := by
  unfold wrS
  cases s.op <;> cases t.op <;> by_cases h1 : b.length = 0 <;> by_cases h2 : b.length % size = 0 <;> by_cases h3 : t.d.length = count * size <;> simp [h1, h2, h3]
theorem take_min (d : List UInt8) (m k size a : Nat) (hd : d.length = m * size) (hk : k = min a m) : d.take (k * size) = d.take (a * size) ∧ d.drop (k * size) = d.drop (a * size) := by
  rcases Nat.le_total a m with h | h
  · rw [Nat.min_eq_left h] at hk; subst hk; exact ⟨rfl, rfl⟩
  · rw [Nat.min_eq_right h] at hk
    subst hk
    have : k * size ≤ a * size := Nat.mul_le_mul_right _ h
    rw [List.take_of_length_le (by omega), List.take_of_length_le (by omega), List.drop_eq_nil_of_le (by omega), List.drop_eq_nil_of_le (by omega)]
    exact ⟨rfl, rfl⟩
theorem byts_nil (w : World) : Byts (.slice none 0 0) [] w := wrow_nil _ _ _
theorem close_mem {w : World} {c count size : Nat} {K : Nat → Re} {G : Nat → Nat} (h : FMem w c count size K G) {e : Nat} (he : e < 2) (vs : List Value) (hv : vs.length = 5) :
    FMem ((w.setCell ⟨c, fpl e, none⟩ (.bool false)).setCells c (fpl e + 1) vs) c count size (updN K e Re.cl) G ∧ Turn (FFoot c G) w ((w.setCell ⟨c, fpl e, none⟩ (.bool false)).setCells c (fpl e + 1) vs) := by
  have hs := h.s e he
  have t : Turn (fun k => k = c) w ((w.setCell ⟨c, fpl e, none⟩ (.bool false)).setCells c (fpl e + 1) vs) := wturn_sets (F := fun k => k = c) rfl _ _ _ _ ((Turn.refl (fun k => k = c) w).setCell (p := ⟨c, fpl e, none⟩) (.inl rfl) _)
  have hty : TBlk ((w.setCell ⟨c, fpl e, none⟩ (.bool false)).setCells c (fpl e + 1) vs) c 136 := TBlk.sets _ _ _ _ (h.typ.set _ _ _)
  have hout : ∀ j, ¬ (fpl e ≤ j ∧ j < fpl e + 6) → ((w.setCell ⟨c, fpl e, none⟩ (.bool false)).setCells c (fpl e + 1) vs).cell? ⟨c, j, none⟩ = w.cell? ⟨c, j, none⟩ := fun j hj => by
    rw [World.cell?_setCells_out c _ _ _ _ (fun _ _ => by rw [hv]; show j < fpl e + 1 ∨ fpl e + 1 + 5 ≤ j; omega)]
    exact cell_set_other (by omega)
  have hin : ((w.setCell ⟨c, fpl e, none⟩ (.bool false)).setCells c (fpl e + 1) vs).cell? ⟨c, fpl e, none⟩ = some (.bool Re.cl.op) := by
    rw [World.cell?_setCells_out c _ _ _ _ (fun _ _ => .inl (by show fpl e < fpl e + 1; omega))]
    exact World.cell?_setCell_same' _ _ _ (by rw [hs.c0]; rfl)
  have hat : FAt ((w.setCell ⟨c, fpl e, none⟩ (.bool false)).setCells c (fpl e + 1) vs) c (fpl e) count size Re.cl (G e) := ⟨hin, hs.typ.kept t (fun e1 => h.cg he e1.symm), fun h => by cases h⟩
  exact ⟨h.step he (t.mono (fun k hk => .inl (.inl hk))) hty hout hat (rok_cl _ _), t.mono (fun k hk => .inl (.inl hk))⟩
theorem take_ok {count size : Nat} {s : Re} (h : ROK count size s) (ho : s.op = true) (a : Nat) : ROK count size { s with d := s.d.drop (a * size) } := by
  obtain ⟨n, hn, hc⟩ := h.num
  refine ⟨⟨n - a, by rw [List.length_drop, hn, Nat.sub_mul], by omega⟩, fun hh => by rw [show (({ s with d := s.d.drop (a * size) } : Re)).op = s.op from rfl, ho] at hh; cases hh⟩
theorem add_ok {count size n k : Nat} {s : Re} {b : List UInt8} (ho : s.op = true) (hn : s.d.length = n * size) (hk : b.length = k * size) (hnc : n ≤ count) : ROK count size { s with d := s.d ++ b.take (min k (count - n) * size) } := by
  have hle : min k (count - n) * size ≤ k * size := Nat.mul_le_mul_right _ (Nat.min_le_left _ _)
  refine ⟨⟨n + min k (count - n), by rw [List.length_append, List.length_take, hn, hk, Nat.min_eq_left hle, Nat.add_mul], by omega⟩, fun hh => by rw [show (({ s with d := s.d ++ b.take (min k (count - n) * size) } : Re)).op = s.op from rfl, ho] at hh; cases hh⟩
section
variable {w : World} {c count size : Nat} {K : Nat → Re} {G : Nat → Nat}
theorem fclose0 (h : FMem w c count size K G) : Calls Try.prog 45 #[.pointer (some ⟨c, 0, none⟩), .int .i64 0] w fun x w' => x = .returned (.int .i64 (if (K 0).op = true then 0 else -24)) ∧ FMem w' c count size (updN K 0 (if (K 0).op = true then Re.cl else K 0)) G ∧ Turn (FFoot c G) w w' := by
  cases ho : (K 0).op with
  | false =>
    have HC := Lib.hid (fright_no0 h ho)
    have HM := Lib.hid h
    clear h ho
    go_enter Try.func45, Try.ntmps45
    go_wp2_with (go_at_call 81; (with_reducible refine HC.out.mono ?_); rintro x w2 ⟨rfl, rfl⟩)
    go_ret
    exact ⟨rfl, by simpa [updN_self] using HM.out, Turn.refl _ _⟩
  | true =>
    have HC := Lib.hid (fright_yes0 h ho)
    obtain ⟨f, bs, hi⟩ := (h.s 0 (by omega)).in' ho
    have c0 : w.cell? ⟨c, 1, none⟩ = some (.bool (K 0).op) := (h.s 0 (by omega)).c0
    have c1 : w.cell? ⟨c, 2, none⟩ = some (.int .i64 (count : Int)) := hi.hd.c1
    have c2 : w.cell? ⟨c, 3, none⟩ = some (.int .i64 (size : Int)) := hi.hd.c2
    have c3 : w.cell? ⟨c, 4, none⟩ = some (.slice (some ⟨G 0, 0, none⟩) (count * size) (count * size)) := hi.hd.c3
    have c4 : w.cell? ⟨c, 5, none⟩ = some (.int .i64 (f : Int)) := hi.hd.c4
    have c5 : w.cell? ⟨c, 6, none⟩ = some (.int .i64 (((K 0).d.length / size : Nat) : Int)) := hi.c5
    have hf := fun j => h.typ.free j
    have f0 := hf (1)
    have f1 := hf (1 + 1)
    have f2 := hf (1 + 2)
    have f3 := hf (1 + 3)
    have f4 := hf (1 + 4)
    have f5 := hf (1 + 5)
    have hlt := h.typ.lt
    have HM := Lib.hid h
    clear h ho hi hf
    go_enter Try.func45, Try.ntmps45
    go_wp2_with (go_at_call 81; (with_reducible refine HC.out.mono ?_); rintro x w2 ⟨rfl, rfl⟩)
    go_ret
    have g1 := close_mem HM.out (e := 0) (by omega) [.int .i64 0, .int .i64 0, .slice none 0 0, .int .i64 0, .int .i64 0] rfl
    exact ⟨rfl, g1.1, g1.2⟩
theorem fread0 (h : FMem w c count size K G) (n : Int) : Calls Try.prog 43 #[.pointer (some ⟨c, 0, none⟩), .int .i64 0, .int .i64 n] w fun x w' => (∃ v, x = .returned (.tuple #[v, .int .i64 (rdS (K 0) (K 1) n)]) ∧ Byts v (rdB size (K 0) (K 1) n) w' ∧ ∀ j, Blk v j → w.heap.size ≤ j) ∧ FMem w' c count size (updN K 0 (rdE size (K 0) (K 1) n)) G ∧ Turn (FFoot c G) w w' := by
  have HM := Lib.hid h
  have CO := Lib.hid (fun w => fother0 w)
  have HA := rdS_any (K 0) (K 1) n
  unfold rdB rdE
  generalize rdS (K 0) (K 1) n = st at *
  have o1 : w.cell? ⟨c, 7, none⟩ = some (.bool (K 1).op) := (h.s 1 (by omega)).c0
  rcases HA with ⟨rfl, ho⟩ | ⟨rfl, ho, h1⟩ | ⟨rfl, ho, h1, h2, h3⟩ | ⟨rfl, ho, h1, h2, h3⟩ | ⟨rfl, ho, h1, h2⟩
  · have HC := Lib.hid (fright_no0 h ho)
    clear h ho o1
    go_enter Try.func43, Try.ntmps43
    go_wp2_with (go_at_call 81; (with_reducible refine HC.out.mono ?_); rintro x w2 ⟨rfl, rfl⟩)
    go_ret2
    exact ⟨⟨_, rfl, byts_nil _, fun k hk => (blk_nil k hk).elim⟩, by simpa [updN_self] using HM.out, Turn.refl _ _⟩
  · have HC := Lib.hid (fright_yes0 h ho)
    clear h ho o1
    go_enter Try.func43, Try.ntmps43
    go_wp2_with (go_at_call 81; (with_reducible refine HC.out.mono ?_); rintro x w2 ⟨rfl, rfl⟩)
    go_ret2
    exact ⟨⟨_, rfl, byts_nil _, fun k hk => (blk_nil k hk).elim⟩, by simpa [updN_self] using HM.out, Turn.refl _ _⟩
  · have HC := Lib.hid (fright_yes0 h ho)
    obtain ⟨f, bs, hi⟩ := (h.s 0 (by omega)).in' ho
    have c5 : w.cell? ⟨c, 6, none⟩ = some (.int .i64 (((K 0).d.length / size : Nat) : Int)) := hi.c5
    rw [h2, Nat.zero_div] at c5
    rw [h3] at o1
    have hz : ((0 : Nat) : Int) = 0 := rfl
    rw [hz] at c5
    clear h ho h2 h3 hi
    go_enter Try.func43, Try.ntmps43
    go_wp2_with (go_at_call 81; (with_reducible refine HC.out.mono ?_); rintro x w2 ⟨rfl, rfl⟩)
    go_region_held3 (fun W => W.cell? ⟨c, 7, none⟩ = some (.bool false)) (exact o1) (first | (go_at_call 82; (with_reducible refine (CO.out _).mono ?_); rintro x w3 ⟨rfl, rfl⟩))
    go_wp2
    go_ret2
    exact ⟨⟨_, rfl, byts_nil _, fun k hk => (blk_nil k hk).elim⟩, by simpa [updN_self] using HM.out.past (Turn.refl _ _).drew, (Turn.refl _ _).drew⟩
  · have HC := Lib.hid (fright_yes0 h ho)
    obtain ⟨f, bs, hi⟩ := (h.s 0 (by omega)).in' ho
    have c5 : w.cell? ⟨c, 6, none⟩ = some (.int .i64 (((K 0).d.length / size : Nat) : Int)) := hi.c5
    rw [h2, Nat.zero_div] at c5
    rw [h3] at o1
    have hz : ((0 : Nat) : Int) = 0 := rfl
    rw [hz] at c5
    clear h ho h2 h3 hi
    go_enter Try.func43, Try.ntmps43
    go_wp2_with (go_at_call 81; (with_reducible refine HC.out.mono ?_); rintro x w2 ⟨rfl, rfl⟩)
    go_region_held3 (fun W => W.cell? ⟨c, 7, none⟩ = some (.bool true)) (exact o1) (first | (go_at_call 82; (with_reducible refine (CO.out _).mono ?_); rintro x w3 ⟨rfl, rfl⟩))
    go_wp2
    go_ret2
    exact ⟨⟨_, rfl, byts_nil _, fun k hk => (blk_nil k hk).elim⟩, by simpa [updN_self] using HM.out.past (Turn.refl _ _).drew, (Turn.refl _ _).drew⟩
  · have HC := Lib.hid (fright_yes0 h ho)
    obtain ⟨f, bs, hi⟩ := (h.s 0 (by omega)).in' ho
    have c5 : w.cell? ⟨c, 6, none⟩ = some (.int .i64 (((K 0).d.length / size : Nat) : Int)) := hi.c5
    obtain ⟨m, hm, hmc⟩ := (h.ok 0 (by omega)).num
    have hm0 : 0 < m := by
      rcases Nat.eq_zero_or_pos m with h0 | h0
      · subst h0; rw [Nat.zero_mul] at hm; exact (h2 hm).elim
      · exact h0
    rw [hm, Nat.mul_div_cancel _ (show 0 < size by have := h.r3; omega)] at c5
    obtain ⟨k, hk⟩ : ∃ k : Nat, (k : Int) = if (m : Int) < n then (m : Int) else n := by
      by_cases hmn : (m : Int) < n
      · exact ⟨m, by rw [if_pos hmn]⟩
      · exact ⟨n.toNat, by rw [if_neg hmn]; omega⟩
    have hkm : k = min n.toNat m := by split at hk <;> omega
    obtain ⟨e1, e2⟩ := take_min (K 0).d m k size n.toNat hm hkm
    have CT := Lib.hid (show Calls Try.prog 86 #[.pointer (some ⟨c, 2, none⟩), .int .i64 n] w _ from ftake hi h.typ (h.cg (e := 0) (by omega)) m hm hm0 hmc h.r3 h.r4 h.r2 h.r5 n h1 k hk)
    rw [e1, e2] at CT
    have HN := Lib.hid (And.intro hm hmc)
    have hgt : (0 : Int) < m := by omega
    have HO := Lib.hid ho
    clear h ho h2 hi hm hmc hm0 hk hkm e1 e2 o1
    go_enter Try.func43, Try.ntmps43
    go_wp2_with (first
      | (go_at_call 81; (with_reducible refine HC.out.mono ?_); rintro x w2 ⟨rfl, rfl⟩)
      | (go_at_call 86; (with_reducible refine CT.out.mono ?_); rintro x w3 ⟨⟨v, rfl, v1, v2⟩, hf, t3, hc3, ht3⟩))
    go_ret2
    have hM := HM.out
    refine ⟨⟨v, rfl, by simpa using v1, v2⟩, ?_, t3.mono (fun k hk => .inl (.inl hk))⟩
    have hat : FAt w3 c (fpl 0) count size { K 0 with d := (K 0).d.drop (n.toNat * size) } (G 0) := by
      refine ⟨(hc3 _ (by unfold fpl; omega) (by unfold fpl; omega)).trans (hM.s 0 (by omega)).c0, (hM.s 0 (by omega)).typ.kept t3 (fun e1 => hM.cg (e := 0) (by omega) e1.symm), fun _ => ?_⟩
      obtain ⟨f2, bs2, hi2⟩ := hf
      exact ⟨f2, bs2, hi2⟩
    exact hM.step (e := 0) (by omega) (t3.mono (fun k hk => .inl (.inl hk))) ht3 (fun j hj => hc3 j (by unfold fpl at hj ⊢; omega) (by unfold fpl at hj ⊢; omega)) hat (take_ok (hM.ok 0 (by omega)) HO.out _)
theorem fwrite0 (h : FMem w c count size K G) {v : Value} {b : List UInt8} (hb : Rk w v b) (hoff : Off v (G 1)) (hlt : ∀ k, Blk v k → k < w.heap.size) (hbl : b.length ≤ 1000000000) : Calls Try.prog 41 #[.pointer (some ⟨c, 0, none⟩), .int .i64 0, v] w fun x w' => x = .returned (.tuple #[.int .i64 ((wrN count size (K 0) (K 1) b : Nat) : Int), .int .i64 (wrS count size (K 0) (K 1) b)]) ∧ FMem w' c count size (updN K 1 (wrE count size (K 0) (K 1) b)) G ∧ Turn (FFoot c G) w w' := by
  have HM := Lib.hid h
  have CO := Lib.hid (fun w => fother0 w)
  have HA := wrS_any count size (K 0) (K 1) b
  unfold wrE wrN
  generalize wrS count size (K 0) (K 1) b = st at *
  have o1 : w.cell? ⟨c, 7, none⟩ = some (.bool (K 1).op) := (h.s 1 (by omega)).c0
  have o0 := h.c0
  have r3 := h.r3
  obtain ⟨p, ca, hv⟩ := hb.rz.sl
  have HB := Lib.hid (And.intro hb (And.intro hoff hlt))
  rw [hv] at HB
  subst hv
  have hs0 : (size : Int) ≠ 0 := by omega
  have hs1 : ((size : Int) == 0) = false := by simpa using hs0
  have etm := tmod_nat b.length size
  clear hb hoff hlt
  rcases HA with ⟨rfl, ho⟩ | ⟨rfl, ho, h1⟩ | ⟨rfl, ho, h1, h2⟩ | ⟨rfl, ho, h1, h2, h3⟩ | ⟨rfl, ho, h1, h2, h3, h4⟩ | ⟨rfl, ho, h1, h2, h3, h4⟩
  · have HC := Lib.hid (fright_no0 h ho)
    clear h ho o1 o0 etm
    go_enter Try.func41, Try.ntmps41
    go_wp2_with (go_at_call 81; (with_reducible refine HC.out.mono ?_); rintro x w2 ⟨rfl, rfl⟩)
    go_ret2
    exact ⟨rfl, by simpa [updN_self] using HM.out, Turn.refl _ _⟩
  · have HC := Lib.hid (fright_yes0 h ho)
    have b1 : ((b.length : Nat) : Int) = 0 := by omega
    clear h ho o1 etm h1
    go_enter Try.func41, Try.ntmps41
    go_wp2_with (go_at_call 81; (with_reducible refine HC.out.mono ?_); rintro x w2 ⟨rfl, rfl⟩)
    go_ret2
    exact ⟨rfl, by simpa [updN_self] using HM.out, Turn.refl _ _⟩
  · have HC := Lib.hid (fright_yes0 h ho)
    have b1 : (((b.length : Nat) : Int) == 0) = false := by rw [beq_eq_false_iff_ne]; omega
    have b2 : (Int.tmod ((b.length : Nat) : Int) (size : Int) != 0) = true := by rw [etm]; simp; omega
    have b3 : (((b.length : Nat) : Int) % (size : Int) != 0) = true := by rw [← Int.natCast_emod]; simp; omega
    clear h ho o1 etm h1 h2
    go_enter Try.func41, Try.ntmps41
    go_wp2_with (go_at_call 81; (with_reducible refine HC.out.mono ?_); rintro x w2 ⟨rfl, rfl⟩)
    go_ret2
    exact ⟨rfl, by simpa [updN_self] using HM.out, Turn.refl _ _⟩
  · have HC := Lib.hid (fright_yes0 h ho)
    have b1 : (((b.length : Nat) : Int) == 0) = false := by rw [beq_eq_false_iff_ne]; omega
    have b2 : Int.tmod ((b.length : Nat) : Int) (size : Int) = 0 := by rw [etm]; omega
    have b3 : ((b.length : Nat) : Int) % (size : Int) = 0 := by rw [← Int.natCast_emod]; omega
    rw [h3] at o1
    clear h ho etm h1 h2 h3
    go_enter Try.func41, Try.ntmps41
    go_wp2_with (go_at_call 81; (with_reducible refine HC.out.mono ?_); rintro x w2 ⟨rfl, rfl⟩)
    go_region_held3 (fun _ => True) (trivial) (first | (go_at_call 82; (with_reducible refine (CO.out _).mono ?_); rintro x w3 ⟨rfl, rfl⟩))
    go_wp2
    go_ret2
    exact ⟨rfl, by simpa [updN_self] using HM.out.past (Turn.refl _ _).drew, (Turn.refl _ _).drew⟩
  all_goals
    have HC := Lib.hid (fright_yes0 h ho)
    have b1 : (((b.length : Nat) : Int) == 0) = false := by rw [beq_eq_false_iff_ne]; omega
    have b2 : Int.tmod ((b.length : Nat) : Int) (size : Int) = 0 := by rw [etm]; omega
    have b3 : ((b.length : Nat) : Int) % (size : Int) = 0 := by rw [← Int.natCast_emod]; omega
    rw [h3] at o1
    obtain ⟨f, bs, hi⟩ := (h.s 1 (by omega)).in' h3
    obtain ⟨n, hn, hnc⟩ := (h.ok 1 (by omega)).num
    have hfi := div_full_iff (count := count) ⟨n, hn⟩ r3
    rw [hn, Nat.mul_div_cancel _ (show 0 < size by omega)] at hfi
    have CF := Lib.hid (fun W (t : Turn NoBlock w W) => show Calls Try.prog 83 #[.pointer (some ⟨c, 8, none⟩)] W fun x w' => x = .returned (.bool (decide (n = count))) ∧ ∃ m, w' = W.drewN m from ffull (hi.kept t (fun h => h) (fun h => h)) n hn r3)
    rw [hn] at h4
  · have hnn : decide (n = count) = true := by simpa using hfi.2 h4
    rw [hnn] at CF
    clear h ho etm h1 h2 h3 hi hn hnc hfi h4 hnn
    go_enter Try.func41, Try.ntmps41
    go_wp2_with (go_at_call 81; (with_reducible refine HC.out.mono ?_); rintro x w2 ⟨rfl, rfl⟩)
    go_region_held3 (fun _ => True) (trivial) (first | (go_at_call 82; (with_reducible refine (CO.out _).mono ?_); rintro x w3 ⟨rfl, rfl⟩))
    go_wp2_with (go_at_call 83; (with_reducible refine (CF.out _ (by first | exact (Turn.refl _ _).drew | exact (Turn.refl _ _).drewN _)).mono ?_); rintro x w3 ⟨rfl, m3, rfl⟩)
    go_ret2
    exact ⟨rfl, by simpa [updN_self] using HM.out.past ((Turn.refl NoBlock w).drewN _), (Turn.refl _ _).drewN _⟩
  · have hnl : n < count := by
      rcases Nat.lt_or_ge n count with h5 | h5
      · exact h5
      · exact (h4 (hfi.1 (by omega))).elim
    have hnn : decide (n = count) = false := by simp; omega
    rw [hnn] at CF
    obtain ⟨k, hk⟩ : ∃ k, b.length = k * size := ⟨b.length / size, (Nat.div_mul_cancel (Nat.dvd_of_mod_eq_zero h2)).symm⟩
    have hk0 : 0 < k := by
      rcases Nat.eq_zero_or_pos k with h0 | h0
      · subst h0; rw [Nat.zero_mul] at hk; exact (h1 hk).elim
      · exact h0
    have ek : b.length / size = k := by rw [hk, Nat.mul_div_cancel _ (by omega)]
    have en : (K 1).d.length / size = n := by rw [hn, Nat.mul_div_cancel _ (by omega)]
    have CA := Lib.hid (fun W (t : Turn NoBlock w W) => show Calls Try.prog 84 #[.pointer (some ⟨c, 8, none⟩), .slice p b.length ca] W _ from fadd (hi.kept t (fun h => h) (fun h => h)) (h.typ.kept t (fun h => h)) (h.cg (e := 1) (by omega)) n hn hnl r3 h.r4 h.r2 h.r5 (HB.out.1.past t) HB.out.2.1 (fun k hk => Nat.lt_of_lt_of_le (HB.out.2.2 k hk) t.size) k hk hk0 hbl)
    have HO := Lib.hid h3
    have HE := Lib.hid (And.intro ek (And.intro en (And.intro hnc hnl)))
    have HN := Lib.hid hn
    have HKK := Lib.hid hk
    clear h ho etm h1 h2 h3 hi hn hnc hfi h4 hnn hk hk0 ek en hnl
    go_enter Try.func41, Try.ntmps41
    go_wp2_with (go_at_call 81; (with_reducible refine HC.out.mono ?_); rintro x w2 ⟨rfl, rfl⟩)
    go_region_held3 (fun _ => True) (trivial) (first | (go_at_call 82; (with_reducible refine (CO.out _).mono ?_); rintro x w3 ⟨rfl, rfl⟩))
    go_wp2_with (first
      | (go_at_call 83; (with_reducible refine (CF.out _ (by first | exact (Turn.refl _ _).drew | exact (Turn.refl _ _).drewN _)).mono ?_); rintro x w3 ⟨rfl, m3, rfl⟩)
      | (go_at_call 84; (with_reducible refine (CA.out _ (by first | exact (Turn.refl _ _).drew | exact (Turn.refl _ _).drewN _)).mono ?_); rintro x w4 ⟨rfl, hf, t4, hc4, hty4⟩))
    go_ret2
    have tt := (Turn.refl NoBlock w).drewN (1 + m3)
    have hM := HM.out.past tt
    have hE := HE.out
    simp only [hE.1, hE.2.1]
    have t5 : Turn (fun j => j = c ∨ j = G 1) w w4 := (TU tt).trans t4 (fun _ h => .inl h)
    have hat : FAt w4 c (fpl 1) count size { K 1 with d := (K 1).d ++ b.take (min k (count - n) * size) } (G 1) := by
      refine ⟨(hc4 _ (by unfold fpl; omega)).trans (hM.s 1 (by omega)).c0, ?_, fun _ => ?_⟩
      · obtain ⟨bs2, hi2⟩ := hf
        exact hi2.row.typed (k := G 1) rfl
      · obtain ⟨bs2, hi2⟩ := hf
        exact ⟨f, bs2, hi2⟩
    refine ⟨rfl, hM.step (e := 1) (by omega) t4 hty4 (fun j hj => hc4 j (by unfold fpl at hj ⊢; omega)) hat (add_ok HO.out HN.out HKK.out hE.2.2.1), t5.mono (fun j hj => .inl ?_)⟩
    rcases hj with rfl | rfl
    · exact .inl rfl
    · exact foot_g (by omega)
theorem fclose1 (h : FMem w c count size K G) : Calls Try.prog 45 #[.pointer (some ⟨c, 0, none⟩), .int .i64 1] w fun x w' => x = .returned (.int .i64 (if (K 1).op = true then 0 else -24)) ∧ FMem w' c count size (updN K 1 (if (K 1).op = true then Re.cl else K 1)) G ∧ Turn (FFoot c G) w w' := by
  cases ho : (K 1).op with
  | false =>
    have HC := Lib.hid (fright_no1 h ho)
    have HM := Lib.hid h
    clear h ho
    go_enter Try.func45, Try.ntmps45
    go_wp2_with (go_at_call 81; (with_reducible refine HC.out.mono ?_); rintro x w2 ⟨rfl, rfl⟩)
    go_ret
    exact ⟨rfl, by simpa [updN_self] using HM.out, Turn.refl _ _⟩
  | true =>
    have HC := Lib.hid (fright_yes1 h ho)
    obtain ⟨f, bs, hi⟩ := (h.s 1 (by omega)).in' ho
    have c0 : w.cell? ⟨c, 7, none⟩ = some (.bool (K 1).op) := (h.s 1 (by omega)).c0
    have c1 : w.cell? ⟨c, 8, none⟩ = some (.int .i64 (count : Int)) := hi.hd.c1
    have c2 : w.cell? ⟨c, 9, none⟩ = some (.int .i64 (size : Int)) := hi.hd.c2
    have c3 : w.cell? ⟨c, 10, none⟩ = some (.slice (some ⟨G 1, 0, none⟩) (count * size) (count * size)) := hi.hd.c3
    have c4 : w.cell? ⟨c, 11, none⟩ = some (.int .i64 (f : Int)) := hi.hd.c4
    have c5 : w.cell? ⟨c, 12, none⟩ = some (.int .i64 (((K 1).d.length / size : Nat) : Int)) := hi.c5
    have hf := fun j => h.typ.free j
    have f0 := hf (7)
    have f1 := hf (7 + 1)
    have f2 := hf (7 + 2)
    have f3 := hf (7 + 3)
    have f4 := hf (7 + 4)
    have f5 := hf (7 + 5)
    have hlt := h.typ.lt
    have HM := Lib.hid h
    clear h ho hi hf
    go_enter Try.func45, Try.ntmps45
    go_wp2_with (go_at_call 81; (with_reducible refine HC.out.mono ?_); rintro x w2 ⟨rfl, rfl⟩)
    go_ret
    have g1 := close_mem HM.out (e := 1) (by omega) [.int .i64 0, .int .i64 0, .slice none 0 0, .int .i64 0, .int .i64 0] rfl
    exact ⟨rfl, g1.1, g1.2⟩
theorem fread1 (h : FMem w c count size K G) (n : Int) : Calls Try.prog 43 #[.pointer (some ⟨c, 0, none⟩), .int .i64 1, .int .i64 n] w fun x w' => (∃ v, x = .returned (.tuple #[v, .int .i64 (rdS (K 1) (K 0) n)]) ∧ Byts v (rdB size (K 1) (K 0) n) w' ∧ ∀ j, Blk v j → w.heap.size ≤ j) ∧ FMem w' c count size (updN K 1 (rdE size (K 1) (K 0) n)) G ∧ Turn (FFoot c G) w w' := by
  have HM := Lib.hid h
  have CO := Lib.hid (fun w => fother1 w)
  have HA := rdS_any (K 1) (K 0) n
  unfold rdB rdE
  generalize rdS (K 1) (K 0) n = st at *
  have o1 : w.cell? ⟨c, 1, none⟩ = some (.bool (K 0).op) := (h.s 0 (by omega)).c0
  rcases HA with ⟨rfl, ho⟩ | ⟨rfl, ho, h1⟩ | ⟨rfl, ho, h1, h2, h3⟩ | ⟨rfl, ho, h1, h2, h3⟩ | ⟨rfl, ho, h1, h2⟩
  · have HC := Lib.hid (fright_no1 h ho)
    clear h ho o1
    go_enter Try.func43, Try.ntmps43
    go_wp2_with (go_at_call 81; (with_reducible refine HC.out.mono ?_); rintro x w2 ⟨rfl, rfl⟩)
    go_ret2
    exact ⟨⟨_, rfl, byts_nil _, fun k hk => (blk_nil k hk).elim⟩, by simpa [updN_self] using HM.out, Turn.refl _ _⟩
  · have HC := Lib.hid (fright_yes1 h ho)
    clear h ho o1
    go_enter Try.func43, Try.ntmps43
    go_wp2_with (go_at_call 81; (with_reducible refine HC.out.mono ?_); rintro x w2 ⟨rfl, rfl⟩)
    go_ret2
    exact ⟨⟨_, rfl, byts_nil _, fun k hk => (blk_nil k hk).elim⟩, by simpa [updN_self] using HM.out, Turn.refl _ _⟩
  · have HC := Lib.hid (fright_yes1 h ho)
    obtain ⟨f, bs, hi⟩ := (h.s 1 (by omega)).in' ho
    have c5 : w.cell? ⟨c, 12, none⟩ = some (.int .i64 (((K 1).d.length / size : Nat) : Int)) := hi.c5
    rw [h2, Nat.zero_div] at c5
    rw [h3] at o1
    have hz : ((0 : Nat) : Int) = 0 := rfl
    rw [hz] at c5
    clear h ho h2 h3 hi
    go_enter Try.func43, Try.ntmps43
    go_wp2_with (go_at_call 81; (with_reducible refine HC.out.mono ?_); rintro x w2 ⟨rfl, rfl⟩)
    go_region_held3 (fun W => W.cell? ⟨c, 1, none⟩ = some (.bool false)) (exact o1) (first | (go_at_call 82; (with_reducible refine (CO.out _).mono ?_); rintro x w3 ⟨rfl, rfl⟩))
    go_wp2
    go_ret2
    exact ⟨⟨_, rfl, byts_nil _, fun k hk => (blk_nil k hk).elim⟩, by simpa [updN_self] using HM.out.past (Turn.refl _ _).drew, (Turn.refl _ _).drew⟩
  · have HC := Lib.hid (fright_yes1 h ho)
    obtain ⟨f, bs, hi⟩ := (h.s 1 (by omega)).in' ho
    have c5 : w.cell? ⟨c, 12, none⟩ = some (.int .i64 (((K 1).d.length / size : Nat) : Int)) := hi.c5
    rw [h2, Nat.zero_div] at c5
    rw [h3] at o1
    have hz : ((0 : Nat) : Int) = 0 := rfl
    rw [hz] at c5
    clear h ho h2 h3 hi
    go_enter Try.func43, Try.ntmps43
    go_wp2_with (go_at_call 81; (with_reducible refine HC.out.mono ?_); rintro x w2 ⟨rfl, rfl⟩)
    go_region_held3 (fun W => W.cell? ⟨c, 1, none⟩ = some (.bool true)) (exact o1) (first | (go_at_call 82; (with_reducible refine (CO.out _).mono ?_); rintro x w3 ⟨rfl, rfl⟩))
    go_wp2
    go_ret2
    exact ⟨⟨_, rfl, byts_nil _, fun k hk => (blk_nil k hk).elim⟩, by simpa [updN_self] using HM.out.past (Turn.refl _ _).drew, (Turn.refl _ _).drew⟩
  · have HC := Lib.hid (fright_yes1 h ho)
    obtain ⟨f, bs, hi⟩ := (h.s 1 (by omega)).in' ho
    have c5 : w.cell? ⟨c, 12, none⟩ = some (.int .i64 (((K 1).d.length / size : Nat) : Int)) := hi.c5
    obtain ⟨m, hm, hmc⟩ := (h.ok 1 (by omega)).num
    have hm0 : 0 < m := by
      rcases Nat.eq_zero_or_pos m with h0 | h0
      · subst h0; rw [Nat.zero_mul] at hm; exact (h2 hm).elim
      · exact h0
    rw [hm, Nat.mul_div_cancel _ (show 0 < size by have := h.r3; omega)] at c5
    obtain ⟨k, hk⟩ : ∃ k : Nat, (k : Int) = if (m : Int) < n then (m : Int) else n := by
      by_cases hmn : (m : Int) < n
      · exact ⟨m, by rw [if_pos hmn]⟩
      · exact ⟨n.toNat, by rw [if_neg hmn]; omega⟩
    have hkm : k = min n.toNat m := by split at hk <;> omega
    obtain ⟨e1, e2⟩ := take_min (K 1).d m k size n.toNat hm hkm
    have CT := Lib.hid (show Calls Try.prog 86 #[.pointer (some ⟨c, 8, none⟩), .int .i64 n] w _ from ftake hi h.typ (h.cg (e := 1) (by omega)) m hm hm0 hmc h.r3 h.r4 h.r2 h.r5 n h1 k hk)
    rw [e1, e2] at CT
    have HN := Lib.hid (And.intro hm hmc)
    have hgt : (0 : Int) < m := by omega
    have HO := Lib.hid ho
    clear h ho h2 hi hm hmc hm0 hk hkm e1 e2 o1
    go_enter Try.func43, Try.ntmps43
    go_wp2_with (first
      | (go_at_call 81; (with_reducible refine HC.out.mono ?_); rintro x w2 ⟨rfl, rfl⟩)
      | (go_at_call 86; (with_reducible refine CT.out.mono ?_); rintro x w3 ⟨⟨v, rfl, v1, v2⟩, hf, t3, hc3, ht3⟩))
    go_ret2
    have hM := HM.out
    refine ⟨⟨v, rfl, by simpa using v1, v2⟩, ?_, t3.mono (fun k hk => .inl (.inl hk))⟩
    have hat : FAt w3 c (fpl 1) count size { K 1 with d := (K 1).d.drop (n.toNat * size) } (G 1) := by
      refine ⟨(hc3 _ (by unfold fpl; omega) (by unfold fpl; omega)).trans (hM.s 1 (by omega)).c0, (hM.s 1 (by omega)).typ.kept t3 (fun e1 => hM.cg (e := 1) (by omega) e1.symm), fun _ => ?_⟩
      obtain ⟨f2, bs2, hi2⟩ := hf
      exact ⟨f2, bs2, hi2⟩
    exact hM.step (e := 1) (by omega) (t3.mono (fun k hk => .inl (.inl hk))) ht3 (fun j hj => hc3 j (by unfold fpl at hj ⊢; omega) (by unfold fpl at hj ⊢; omega)) hat (take_ok (hM.ok 1 (by omega)) HO.out _)
theorem fwrite1 (h : FMem w c count size K G) {v : Value} {b : List UInt8} (hb : Rk w v b) (hoff : Off v (G 0)) (hlt : ∀ k, Blk v k → k < w.heap.size) (hbl : b.length ≤ 1000000000) : Calls Try.prog 41 #[.pointer (some ⟨c, 0, none⟩), .int .i64 1, v] w fun x w' => x = .returned (.tuple #[.int .i64 ((wrN count size (K 1) (K 0) b : Nat) : Int), .int .i64 (wrS count size (K 1) (K 0) b)]) ∧ FMem w' c count size (updN K 0 (wrE count size (K 1) (K 0) b)) G ∧ Turn (FFoot c G) w w' := by
  have HM := Lib.hid h
  have CO := Lib.hid (fun w => fother1 w)
  have HA := wrS_any count size (K 1) (K 0) b
  unfold wrE wrN
  generalize wrS count size (K 1) (K 0) b = st at *
  have o1 : w.cell? ⟨c, 1, none⟩ = some (.bool (K 0).op) := (h.s 0 (by omega)).c0
  have o0 := h.c0
  have r3 := h.r3
  obtain ⟨p, ca, hv⟩ := hb.rz.sl
  have HB := Lib.hid (And.intro hb (And.intro hoff hlt))
  rw [hv] at HB
  subst hv
  have hs0 : (size : Int) ≠ 0 := by omega
  have hs1 : ((size : Int) == 0) = false := by simpa using hs0
  have etm := tmod_nat b.length size
  clear hb hoff hlt
  rcases HA with ⟨rfl, ho⟩ | ⟨rfl, ho, h1⟩ | ⟨rfl, ho, h1, h2⟩ | ⟨rfl, ho, h1, h2, h3⟩ | ⟨rfl, ho, h1, h2, h3, h4⟩ | ⟨rfl, ho, h1, h2, h3, h4⟩
  · have HC := Lib.hid (fright_no1 h ho)
    clear h ho o1 o0 etm
    go_enter Try.func41, Try.ntmps41
    go_wp2_with (go_at_call 81; (with_reducible refine HC.out.mono ?_); rintro x w2 ⟨rfl, rfl⟩)
    go_ret2
    exact ⟨rfl, by simpa [updN_self] using HM.out, Turn.refl _ _⟩
  · have HC := Lib.hid (fright_yes1 h ho)
    have b1 : ((b.length : Nat) : Int) = 0 := by omega
    clear h ho o1 etm h1
    go_enter Try.func41, Try.ntmps41
    go_wp2_with (go_at_call 81; (with_reducible refine HC.out.mono ?_); rintro x w2 ⟨rfl, rfl⟩)
    go_ret2
    exact ⟨rfl, by simpa [updN_self] using HM.out, Turn.refl _ _⟩
  · have HC := Lib.hid (fright_yes1 h ho)
    have b1 : (((b.length : Nat) : Int) == 0) = false := by rw [beq_eq_false_iff_ne]; omega
    have b2 : (Int.tmod ((b.length : Nat) : Int) (size : Int) != 0) = true := by rw [etm]; simp; omega
    have b3 : (((b.length : Nat) : Int) % (size : Int) != 0) = true := by rw [← Int.natCast_emod]; simp; omega
    clear h ho o1 etm h1 h2
    go_enter Try.func41, Try.ntmps41
    go_wp2_with (go_at_call 81; (with_reducible refine HC.out.mono ?_); rintro x w2 ⟨rfl, rfl⟩)
    go_ret2
    exact ⟨rfl, by simpa [updN_self] using HM.out, Turn.refl _ _⟩
  · have HC := Lib.hid (fright_yes1 h ho)
    have b1 : (((b.length : Nat) : Int) == 0) = false := by rw [beq_eq_false_iff_ne]; omega
    have b2 : Int.tmod ((b.length : Nat) : Int) (size : Int) = 0 := by rw [etm]; omega
    have b3 : ((b.length : Nat) : Int) % (size : Int) = 0 := by rw [← Int.natCast_emod]; omega
    rw [h3] at o1
    clear h ho etm h1 h2 h3
    go_enter Try.func41, Try.ntmps41
    go_wp2_with (go_at_call 81; (with_reducible refine HC.out.mono ?_); rintro x w2 ⟨rfl, rfl⟩)
    go_region_held3 (fun _ => True) (trivial) (first | (go_at_call 82; (with_reducible refine (CO.out _).mono ?_); rintro x w3 ⟨rfl, rfl⟩))
    go_wp2
    go_ret2
    exact ⟨rfl, by simpa [updN_self] using HM.out.past (Turn.refl _ _).drew, (Turn.refl _ _).drew⟩
  all_goals
    have HC := Lib.hid (fright_yes1 h ho)
    have b1 : (((b.length : Nat) : Int) == 0) = false := by rw [beq_eq_false_iff_ne]; omega
    have b2 : Int.tmod ((b.length : Nat) : Int) (size : Int) = 0 := by rw [etm]; omega
    have b3 : ((b.length : Nat) : Int) % (size : Int) = 0 := by rw [← Int.natCast_emod]; omega
    rw [h3] at o1
    obtain ⟨f, bs, hi⟩ := (h.s 0 (by omega)).in' h3
    obtain ⟨n, hn, hnc⟩ := (h.ok 0 (by omega)).num
    have hfi := div_full_iff (count := count) ⟨n, hn⟩ r3
    rw [hn, Nat.mul_div_cancel _ (show 0 < size by omega)] at hfi
    have CF := Lib.hid (fun W (t : Turn NoBlock w W) => show Calls Try.prog 83 #[.pointer (some ⟨c, 2, none⟩)] W fun x w' => x = .returned (.bool (decide (n = count))) ∧ ∃ m, w' = W.drewN m from ffull (hi.kept t (fun h => h) (fun h => h)) n hn r3)
    rw [hn] at h4
  · have hnn : decide (n = count) = true := by simpa using hfi.2 h4
    rw [hnn] at CF
    clear h ho etm h1 h2 h3 hi hn hnc hfi h4 hnn
    go_enter Try.func41, Try.ntmps41
    go_wp2_with (go_at_call 81; (with_reducible refine HC.out.mono ?_); rintro x w2 ⟨rfl, rfl⟩)
    go_region_held3 (fun _ => True) (trivial) (first | (go_at_call 82; (with_reducible refine (CO.out _).mono ?_); rintro x w3 ⟨rfl, rfl⟩))
    go_wp2_with (go_at_call 83; (with_reducible refine (CF.out _ (by first | exact (Turn.refl _ _).drew | exact (Turn.refl _ _).drewN _)).mono ?_); rintro x w3 ⟨rfl, m3, rfl⟩)
    go_ret2
    exact ⟨rfl, by simpa [updN_self] using HM.out.past ((Turn.refl NoBlock w).drewN _), (Turn.refl _ _).drewN _⟩
  · have hnl : n < count := by
      rcases Nat.lt_or_ge n count with h5 | h5
      · exact h5
      · exact (h4 (hfi.1 (by omega))).elim
    have hnn : decide (n = count) = false := by simp; omega
    rw [hnn] at CF
    obtain ⟨k, hk⟩ : ∃ k, b.length = k * size := ⟨b.length / size, (Nat.div_mul_cancel (Nat.dvd_of_mod_eq_zero h2)).symm⟩
    have hk0 : 0 < k := by
      rcases Nat.eq_zero_or_pos k with h0 | h0
      · subst h0; rw [Nat.zero_mul] at hk; exact (h1 hk).elim
      · exact h0
    have ek : b.length / size = k := by rw [hk, Nat.mul_div_cancel _ (by omega)]
    have en : (K 0).d.length / size = n := by rw [hn, Nat.mul_div_cancel _ (by omega)]
    have CA := Lib.hid (fun W (t : Turn NoBlock w W) => show Calls Try.prog 84 #[.pointer (some ⟨c, 2, none⟩), .slice p b.length ca] W _ from fadd (hi.kept t (fun h => h) (fun h => h)) (h.typ.kept t (fun h => h)) (h.cg (e := 0) (by omega)) n hn hnl r3 h.r4 h.r2 h.r5 (HB.out.1.past t) HB.out.2.1 (fun k hk => Nat.lt_of_lt_of_le (HB.out.2.2 k hk) t.size) k hk hk0 hbl)
    have HO := Lib.hid h3
    have HE := Lib.hid (And.intro ek (And.intro en (And.intro hnc hnl)))
    have HN := Lib.hid hn
    have HKK := Lib.hid hk
    clear h ho etm h1 h2 h3 hi hn hnc hfi h4 hnn hk hk0 ek en hnl
    go_enter Try.func41, Try.ntmps41
    go_wp2_with (go_at_call 81; (with_reducible refine HC.out.mono ?_); rintro x w2 ⟨rfl, rfl⟩)
    go_region_held3 (fun _ => True) (trivial) (first | (go_at_call 82; (with_reducible refine (CO.out _).mono ?_); rintro x w3 ⟨rfl, rfl⟩))
    go_wp2_with (first
      | (go_at_call 83; (with_reducible refine (CF.out _ (by first | exact (Turn.refl _ _).drew | exact (Turn.refl _ _).drewN _)).mono ?_); rintro x w3 ⟨rfl, m3, rfl⟩)
      | (go_at_call 84; (with_reducible refine (CA.out _ (by first | exact (Turn.refl _ _).drew | exact (Turn.refl _ _).drewN _)).mono ?_); rintro x w4 ⟨rfl, hf, t4, hc4, hty4⟩))
    go_ret2
    have tt := (Turn.refl NoBlock w).drewN (1 + m3)
    have hM := HM.out.past tt
    have hE := HE.out
    simp only [hE.1, hE.2.1]
    have t5 : Turn (fun j => j = c ∨ j = G 0) w w4 := (TU tt).trans t4 (fun _ h => .inl h)
    have hat : FAt w4 c (fpl 0) count size { K 0 with d := (K 0).d ++ b.take (min k (count - n) * size) } (G 0) := by
      refine ⟨(hc4 _ (by unfold fpl; omega)).trans (hM.s 0 (by omega)).c0, ?_, fun _ => ?_⟩
      · obtain ⟨bs2, hi2⟩ := hf
        exact hi2.row.typed (k := G 0) rfl
      · obtain ⟨bs2, hi2⟩ := hf
        exact ⟨f, bs2, hi2⟩
    refine ⟨rfl, hM.step (e := 0) (by omega) t4 hty4 (fun j hj => hc4 j (by unfold fpl at hj ⊢; omega)) hat (add_ok HO.out HN.out HKK.out hE.2.2.1), t5.mono (fun j hj => .inl ?_)⟩
    rcases hj with rfl | rfl
    · exact .inl rfl
    · exact foot_g (by omega)
end
end Go.Proofs.Ytocaebcbmfejbaa
