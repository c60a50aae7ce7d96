/-
  What Read makes of a law's state. No conditions.
-/
import Derived.Test.YtcbphfpfdfgehaaCLaw
namespace Go.Proofs.Ytcbphfpfdfgehaa
open Go.RowKit

theorem Apart.symm' {p q : QM} (h : Apart p q) : Apart q p := fun k h1 h2 => h k h2 h1
theorem mem_allq {S : Nat → Sd} {e : Nat} (he : e < 2) {q : QM} (h : q ∈ (S e).an ∨ q ∈ (S e).ot) : q ∈ allQ S := by
  have h2 : e = 0 ∨ e = 1 := by omega
  unfold allQ
  simp only [List.mem_append]
  rcases h2 with rfl | rfl <;> rcases h with h | h <;> simp [h]
theorem allq_x {S : Nat → Sd} {e : Nat} {s' : Sd} {x : QM} (he : e < 2) (h : (allQ S).Pairwise Apart) (hx : ((S e).an = s'.an ++ [x] ∧ s'.ot = (S e).ot) ∨ (s'.an = (S e).an ∧ (S e).ot = x :: s'.ot)) : ∀ p ∈ allQ (updN S e s'), Apart x p := by
  have hp : (allQ S).Perm (x :: allQ (updN S e s')) := by
    have h2 : e = 0 ∨ e = 1 := by omega
    unfold allQ
    rcases h2 with rfl | rfl
    · rw [updN_same, updN_other _ _ (by omega)]
      rcases hx with ⟨h1, h3⟩ | ⟨h1, h3⟩
      · rw [h1, h3, List.append_assoc]
        exact List.perm_middle
      · rw [h1, h3, List.cons_append]
        exact List.perm_middle
    · rw [updN_same, updN_other _ _ (by omega)]
      rcases hx with ⟨h1, h3⟩ | ⟨h1, h3⟩
      · rw [h1, h3]
        have := List.perm_middle (a := x) (l₁ := (S 0).an ++ (S 0).ot ++ s'.an) (l₂ := (S 1).ot)
        simpa [List.append_assoc] using this
      · rw [h1, h3]
        have := List.perm_middle (a := x) (l₁ := (S 0).an ++ (S 0).ot ++ (S 1).an) (l₂ := s'.ot)
        simpa [List.append_assoc] using this
  have h3 := (hp.pairwise_iff (fun h => Apart.symm' h)).1 h
  exact (List.pairwise_cons.1 h3).1

section
variable {w w' : World} {c depth N : Nat} {S : Nat → Sd} {V : Nat → SV}
theorem made_drop (hC : CMem w c depth N S V) {e : Nat} (he : e < 2) (ho : (S e).op = true) {x : QM} {q : List QM} (h : Dropped w w' c (plc e) (S e) (V e) x q) :
    ∃ S' V', (CMem w' c depth N S' V' ∧ planeOf S' = updN (planeOf S) e ⟨(planeOf S e).op, q.map (·.m), (planeOf S e).ws⟩ ∧ Turn (CFoot c S V) w w' ∧ ∀ k, CFoot c S' V' k → CFoot c S V k ∨ w.heap.size ≤ k) ∧ x.Ok w' ∧ (∀ k, x.F k → CFoot c S V k ∧ ¬ CFoot c S' V' k) := by
  obtain ⟨s', v', st, h1, h2, h3, h4, h5, h6⟩ := h.ex
  have hs := hC.s e he
  have hxs : x ∈ (S e).an ∨ x ∈ (S e).ot := by
    rcases h6 with ⟨h7, -⟩ | ⟨-, h7⟩
    · left; rw [h7]; simp
    · right; rw [h7]; simp
  have hxo := hs.ok x hxs
  have hln := hC.len e he
  obtain ⟨m1, m2, m3⟩ := hC.step he st (Nat.le_refl N) ⟨by have := h4.length_le; omega, by have := h5.length_le; omega, by rw [h2]; omega⟩ (fun h => by rw [h1, ho] at h; cases h) (allq_less he hC.apart h4 h5)
  refine ⟨_, _, ⟨m1, ?_, m2, m3⟩, ?_, fun k hk => ⟨.inr ⟨e, he, .inr ⟨x, hxs, hk⟩⟩, ?_⟩⟩
  · rw [plane_upd]
    congr 1
    show s'.ms = _
    unfold Sd.ms
    rw [h1, h2, h3]
    rfl
  · refine hxo.kept st.turn (fun k hk => ?_)
    rintro (rfl | hk2 | hk2 | hk2)
    · exact hk.elim (fun h => blk_typed hxo.d hs.typ (by decide) h) (fun h => blk_typed hxo.h hs.typ (by decide) h)
    · exact hs.apartA k (.inr (.inr (.inr ⟨x, hxs, hk⟩))) hk2
    · exact hs.apartO k (.inr (.inr (.inr ⟨x, hxs, hk⟩))) hk2
    · exact hs.apartW k (.inr (.inr (.inr ⟨x, hxs, hk⟩))) hk2
  · have hxo' : x.Ok w' := by
      refine hxo.kept st.turn (fun k hk => ?_)
      rintro (rfl | hk2 | hk2 | hk2)
      · exact hk.elim (fun h => blk_typed hxo.d hs.typ (by decide) h) (fun h => blk_typed hxo.h hs.typ (by decide) h)
      · exact hs.apartA k (.inr (.inr (.inr ⟨x, hxs, hk⟩))) hk2
      · exact hs.apartO k (.inr (.inr (.inr ⟨x, hxs, hk⟩))) hk2
      · exact hs.apartW k (.inr (.inr (.inr ⟨x, hxs, hk⟩))) hk2
    rintro (rfl | ⟨i, hi, hf | ⟨p, hp, hk2⟩⟩)
    · exact hk.elim (fun h => blk_typed hxo.d hs.typ (by decide) h) (fun h => blk_typed hxo.h hs.typ (by decide) h)
    · have hsi := m1.s i hi
      rcases hf with hk2 | hk2 | hk2
      · exact hk.elim (fun h => blks_typed hxo'.d hsi.rowA (by decide) k h hk2) (fun h => blks_typed hxo'.h hsi.rowA (by decide) k h hk2)
      · exact hk.elim (fun h => blks_typed hxo'.d hsi.rowO (by decide) k h hk2) (fun h => blks_typed hxo'.h hsi.rowO (by decide) k h hk2)
      · exact hk.elim (fun h => blks_typed hxo'.d hsi.rowW (by decide) k h hk2) (fun h => blks_typed hxo'.h hsi.rowW (by decide) k h hk2)
    · exact allq_x he hC.apart h6 p (mem_allq hi hp) k hk hk2
end
/-- A message that was read: of the call's own from now on. -/
def Took (w0 w w' : World) (c depth N : Nat) (K : Nat → MS) (X : Nat → Prop) (m : Msg) (q : QM) : Prop :=
  q.m = m ∧ q.Ok w' ∧ CSt w0 w' c depth N K (fun k => X k ∨ q.F k) ∧ Kp X w w' ∧ ∀ k, q.F k → w0.heap.size ≤ k
theorem CSt.fewer {w0 w : World} {c depth N : Nat} {K : Nat → MS} {X Y : Nat → Prop} (h : CSt w0 w c depth N K X) (hY : ∀ k, Y k → X k) : CSt w0 w c depth N K Y := by
  obtain ⟨S, V, h1, h2, h3, h4, h5⟩ := h
  exact ⟨S, V, h1, h2, h3, h4, fun k hk => h5 k (hY k hk)⟩
section
variable {w0 w : World} {c depth N : Nat} {K : Nat → MS} {X : Nat → Prop}
theorem CSt.take0 (h : CSt w0 w c depth N K X) (hN : N ≤ 1000000) (ho : (K 0).op = true) (b i : Int) (h0 : 0 ≤ b) (h1 : 0 ≤ i) (m : Msg) (rest : List Msg) (hq : (K 0).q = m :: rest) (hb : (m.d.length : Int) ≤ b) (hi : (m.h.length : Int) ≤ i) :
    Calls Try.prog 37 #[.pointer (some ⟨c, 0, none⟩), .int .i64 0, .int .i64 b, .int .i64 i] w fun x w' => ∃ q : QM, x = .returned (.tuple #[q.agg, .int .i64 0]) ∧ Took w0 w w' c depth N (updN K 0 ⟨(K 0).op, rest, (K 0).ws⟩) X m q := by
  obtain ⟨S, V, hC, rfl, ht, hf, hx⟩ := h
  have hcore : Calls Try.prog 37 #[.pointer (some ⟨c, 0, none⟩), .int .i64 0, .int .i64 b, .int .i64 i] w (RPost w c 1 (S 0) (V 0) (S 1).op b i) := by
    rcases (show b ≤ i ∨ i < b by omega) with h2 | h2
    · exact read_core0a hC hN b i h0 h2 ho
    · exact read_core0b hC hN b i h1 h2 ho
  refine hcore.mono (fun x w' hp => ?_)
  have hq' : (S 0).q.map (·.m) = m :: rest := hq
  rcases hp with ⟨q, qs, hs, hh⟩ | ⟨hs, -⟩
  · rw [hs] at hq'
    simp only [List.map_cons, List.cons.injEq] at hq'
    obtain ⟨rfl, rfl⟩ := hq'
    rcases hh with ⟨hbig, -⟩ | ⟨-, rfl, hd⟩
    · exfalso
      rcases hbig with h3 | h3 <;> omega
    · obtain ⟨S', V', hm, hqo, hqf⟩ := made_drop hC (e := 0) (by omega) ho hd
      refine ⟨q, rfl, rfl, hqo, ⟨S', V', hm.1, hm.2.1, ht.trans hm.2.2.1 (fun k hk => .inr (hf k hk)), fun k hk => ?_, fun k hk => ?_⟩, ⟨_, hm.2.2.1, fun k hk => (hx k hk).2⟩, fun k hk => hf k (hqf k hk).1⟩
      · rcases hm.2.2.2 k hk with h | h
        · exact hf k h
        · have := ht.size; omega
      · rcases hk with hk | hk
        · refine ⟨Nat.lt_of_lt_of_le (hx k hk).1 hm.2.2.1.size, fun hh => ?_⟩
          rcases hm.2.2.2 k hh with h | h
          · exact (hx k hk).2 h
          · have := (hx k hk).1; omega
        · exact ⟨hqo.lt hk, (hqf k hk).2⟩
  · rw [hs] at hq'
    simp at hq'
theorem CSt.none0 (h : CSt w0 w c depth N K X) (hN : N ≤ 1000000) (ho : (K 0).op = true) (b i : Int) (h0 : 0 ≤ b) (h1 : 0 ≤ i) (hq : (K 0).q = []) :
    Calls Try.prog 37 #[.pointer (some ⟨c, 0, none⟩), .int .i64 0, .int .i64 b, .int .i64 i] w fun x w' => x = .returned (.tuple #[.agg #[.int .i64 0, .slice none 0 0, .slice none 0 0], .int .i64 (if (K 1).op then -22 else -24)]) ∧ Turn NoBlock w w' := by
  obtain ⟨S, V, hC, rfl, ht, hf, hx⟩ := h
  have hcore : Calls Try.prog 37 #[.pointer (some ⟨c, 0, none⟩), .int .i64 0, .int .i64 b, .int .i64 i] w (RPost w c 1 (S 0) (V 0) (S 1).op b i) := by
    rcases (show b ≤ i ∨ i < b by omega) with h2 | h2
    · exact read_core0a hC hN b i h0 h2 ho
    · exact read_core0b hC hN b i h1 h2 ho
  refine hcore.mono (fun x w' hp => ?_)
  have hq' : (S 0).q.map (·.m) = [] := hq
  rcases hp with ⟨q, qs, hs, hh⟩ | ⟨hs, h3⟩
  · rw [hs] at hq'
    simp at hq'
  · exact h3
theorem CSt.shows0 (h : CSt w0 w c depth N K X) (hN : N ≤ 1000000) : Calls Try.prog 16 #[.pointer (some ⟨c, 0, none⟩), .int .i64 0] w fun x w' => x = .returned (.int .i64 (shK depth (K 0) (K 1))) ∧ Turn NoBlock w w' := by
  obtain ⟨S, V, hC, rfl, ht, hf, hx⟩ := h
  exact shows_0 hC hN
theorem CSt.take1 (h : CSt w0 w c depth N K X) (hN : N ≤ 1000000) (ho : (K 1).op = true) (b i : Int) (h0 : 0 ≤ b) (h1 : 0 ≤ i) (m : Msg) (rest : List Msg) (hq : (K 1).q = m :: rest) (hb : (m.d.length : Int) ≤ b) (hi : (m.h.length : Int) ≤ i) :
    Calls Try.prog 37 #[.pointer (some ⟨c, 0, none⟩), .int .i64 1, .int .i64 b, .int .i64 i] w fun x w' => ∃ q : QM, x = .returned (.tuple #[q.agg, .int .i64 0]) ∧ Took w0 w w' c depth N (updN K 1 ⟨(K 1).op, rest, (K 1).ws⟩) X m q := by
  obtain ⟨S, V, hC, rfl, ht, hf, hx⟩ := h
  have hcore : Calls Try.prog 37 #[.pointer (some ⟨c, 0, none⟩), .int .i64 1, .int .i64 b, .int .i64 i] w (RPost w c 5 (S 1) (V 1) (S 0).op b i) := by
    rcases (show b ≤ i ∨ i < b by omega) with h2 | h2
    · exact read_core1a hC hN b i h0 h2 ho
    · exact read_core1b hC hN b i h1 h2 ho
  refine hcore.mono (fun x w' hp => ?_)
  have hq' : (S 1).q.map (·.m) = m :: rest := hq
  rcases hp with ⟨q, qs, hs, hh⟩ | ⟨hs, -⟩
  · rw [hs] at hq'
    simp only [List.map_cons, List.cons.injEq] at hq'
    obtain ⟨rfl, rfl⟩ := hq'
    rcases hh with ⟨hbig, -⟩ | ⟨-, rfl, hd⟩
    · exfalso
      rcases hbig with h3 | h3 <;> omega
    · obtain ⟨S', V', hm, hqo, hqf⟩ := made_drop hC (e := 1) (by omega) ho hd
      refine ⟨q, rfl, rfl, hqo, ⟨S', V', hm.1, hm.2.1, ht.trans hm.2.2.1 (fun k hk => .inr (hf k hk)), fun k hk => ?_, fun k hk => ?_⟩, ⟨_, hm.2.2.1, fun k hk => (hx k hk).2⟩, fun k hk => hf k (hqf k hk).1⟩
      · rcases hm.2.2.2 k hk with h | h
        · exact hf k h
        · have := ht.size; omega
      · rcases hk with hk | hk
        · refine ⟨Nat.lt_of_lt_of_le (hx k hk).1 hm.2.2.1.size, fun hh => ?_⟩
          rcases hm.2.2.2 k hh with h | h
          · exact (hx k hk).2 h
          · have := (hx k hk).1; omega
        · exact ⟨hqo.lt hk, (hqf k hk).2⟩
  · rw [hs] at hq'
    simp at hq'
theorem CSt.none1 (h : CSt w0 w c depth N K X) (hN : N ≤ 1000000) (ho : (K 1).op = true) (b i : Int) (h0 : 0 ≤ b) (h1 : 0 ≤ i) (hq : (K 1).q = []) :
    Calls Try.prog 37 #[.pointer (some ⟨c, 0, none⟩), .int .i64 1, .int .i64 b, .int .i64 i] w fun x w' => x = .returned (.tuple #[.agg #[.int .i64 0, .slice none 0 0, .slice none 0 0], .int .i64 (if (K 0).op then -22 else -24)]) ∧ Turn NoBlock w w' := by
  obtain ⟨S, V, hC, rfl, ht, hf, hx⟩ := h
  have hcore : Calls Try.prog 37 #[.pointer (some ⟨c, 0, none⟩), .int .i64 1, .int .i64 b, .int .i64 i] w (RPost w c 5 (S 1) (V 1) (S 0).op b i) := by
    rcases (show b ≤ i ∨ i < b by omega) with h2 | h2
    · exact read_core1a hC hN b i h0 h2 ho
    · exact read_core1b hC hN b i h1 h2 ho
  refine hcore.mono (fun x w' hp => ?_)
  have hq' : (S 1).q.map (·.m) = [] := hq
  rcases hp with ⟨q, qs, hs, hh⟩ | ⟨hs, h3⟩
  · rw [hs] at hq'
    simp at hq'
  · exact h3
theorem CSt.shows1 (h : CSt w0 w c depth N K X) (hN : N ≤ 1000000) : Calls Try.prog 16 #[.pointer (some ⟨c, 0, none⟩), .int .i64 1] w fun x w' => x = .returned (.int .i64 (shK depth (K 1) (K 0))) ∧ Turn NoBlock w w' := by
  obtain ⟨S, V, hC, rfl, ht, hf, hx⟩ := h
  exact shows_1 hC hN
end
end Go.Proofs.Ytcbphfpfdfgehaa
