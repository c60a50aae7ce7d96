/-
  Pop of the freed places' heap. Conditions: the slice is the call's own.
-/
import Derived.Test.YtgcjjgljllephaaPDown
import Derived.Test.YtgcjjgljllephaaPPush
namespace Go.Proofs.Ytgcjjgljllephaa
open Go.ChangeShapes Go.WideShapes Go.ChangeAt Go.RowKit

theorem natsOf_take (l : List Nat) (n : Nat) : natsOf (l.take n) = (natsOf l).take n := by simp [natsOf, List.map_take]
theorem lpop_tail {w : World} {c : Addr} {g n cap : Nat} {l : List Nat} (h : LowW w c g (n + 1) cap l) :
    LowW (w.setCell c (.slice (some ⟨g, 0, none⟩) n cap)) c g n cap (l.take n) ∧ Turn (fun b => b = c.block) w (w.setCell c (.slice (some ⟨g, 0, none⟩) n cap)) ∧ Keeps c w (w.setCell c (.slice (some ⟨g, 0, none⟩) n cap)) := by
  refine ⟨⟨World.cell?_setCell_same _ _ _ h.cell, by rw [World.frozen?_setCell]; exact h.free, ?_, h.ne⟩, (Turn.refl (fun b => b = c.block) w).setCell (p := c) (.inl rfl) _, Keeps.store c w _⟩
  have h3 := own_head h.own (m := n) (by omega)
  rw [Nat.mul_one, ← natsOf_take] at h3
  exact own_past h3 (by have := h.ne; simp [Value.ownBlock]; exact fun e => this e.symm) _

theorem lpop_any {w : World} {c : Addr} {g n cap : Nat} {l : List Nat} (h : LowW w c g (n + 1) cap l) (hn : n ≤ 65537) :
    Calls Try.prog 112 #[.pointer (some c)] w fun e w' => e = .returned (.iface 3 (.int .i64 (l.getD n 0 : Nat))) ∧ LowW w' c g n cap (l.take n) ∧ Turn (fun b => b = c.block) w w' ∧ Keeps c w w' := by
  have c1 := h.cell
  have c2 := h.free
  have c3 := h.at' n (by omega)
  obtain ⟨g', cap', he, hc, hc'⟩ := own_shape h.own (by omega)
  simp at he
  obtain ⟨rfl, rfl⟩ := he
  have HT := Lib.hid (lpop_tail h)
  have hne : (n == cap) = false := by simp; omega
  generalize ((l.getD n 0 : Nat) : Int) = x at *
  clear h
  go_enter Try.func112, Try.ntmps112
  go_wp2
  go_ret
  exact ⟨rfl, HT.out⟩

theorem take_end {l : List Nat} {n : Nat} (h : l.length = n + 1) : l.take n ++ [l.getD n 0] = l := by
  have h1 : l.getD n 0 = l[n]'(by omega) := by simp [List.getD, List.getElem?_eq_getElem (show n < l.length by omega)]
  rw [h1, List.take_append_getElem (by omega), List.take_of_length_le (by omega)]
theorem heap_take {l : List Nat} {n : Nat} (h : HeapN (fun k => l.getD k 0) n) (hl : l.length = n + 1) : IsHeap (l.take n) := by
  intro c h0 hc
  have e : ∀ k, k < n → (l.take n).getD k 0 = l.getD k 0 := fun k hk => by simp [List.getD, hk]
  have hc' : c < n := by simp at hc; omega
  show (l.take n).getD _ 0 ≤ (l.take n).getD _ 0
  rw [e _ (by omega), e _ hc']
  exact h c h0 hc'

/-- heap.Pop -/
theorem hpop_any {w : World} {c : Addr} {g n cap : Nat} {l : List Nat} (h : LowW w c g (n + 1) cap l) (hn : n ≤ 65537) (hh : IsHeap l) :
    Calls Try.prog 54 #[.iface 105 (.pointer (some c))] w fun e w' => e = .returned (.iface 3 (.int .i64 (l.getD 0 0 : Nat))) ∧
      ∃ l', LowW w' c g n cap l' ∧ (l' ++ [l.getD 0 0]).Perm l ∧ IsHeap l' ∧ Turn (fun b => b = c.block ∨ b = g) w w' ∧ Keeps c w w' := by
  have hlen := h.len
  have cl := h.cell
  have mp := m_pop c
  have ml := fun v W h => m_len c v W h
  have ms := fun v W h => m_swap c v W h
  have hne := Lib.hid h.ne
  have hcw := World.block_lt_of_cell? w _ cl
  have c1 := swap_any h 0 n (by omega) (by omega)
  rw [show ((0 : Nat) : Int) = 0 from rfl] at c1
  have HD := Lib.hid (down_begin hh n hlen)
  have H0 := Lib.hid (show (swl l 0 n).getD n 0 = l.getD 0 0 by rw [swl_at l 0 n n (by omega) (by omega), sw_j])
  have HP := Lib.hid (swl_perm l 0 n (by omega) (by omega))
  clear h hh
  go_enter Try.func54, Try.ntmps54
  go_wp2_with (first
    | (go_at_call 109; (with_reducible refine (len_any _ _ _ _).mono ?_); rintro e w1 ⟨rfl, rfl⟩)
    | (go_at_call 111; (with_reducible refine c1.mono ?_); rintro e w2 ⟨rfl, hL2, hT2⟩; have K2 := Lib.hid (And.intro hL2 hT2); clear hL2 hT2)
    | (go_at_call 63; (with_reducible refine (down_any K2.out.1 hn HD.out).mono ?_); rintro e w3 ⟨⟨b3, rfl⟩, l3, hL3, hP3, hI3, hE3, hT3⟩; have K3 := Lib.hid (And.intro hL3 (And.intro hP3 (And.intro hI3 (And.intro hE3 hT3)))); clear hL3 hP3 hI3 hE3 hT3)
    | (go_at_call 112; (with_reducible refine (lpop_any K3.out.1 hn).mono ?_); rintro e w4 ⟨rfl, hL4, hT4, hK4⟩))
  go_ret
  obtain ⟨hL3, hP3, hI3, hE3, hT3⟩ := K3.out
  have hl3 := hL3.len
  have e3 : l3.getD n 0 = l.getD 0 0 := hE3.trans H0.out
  have e4 : l3.take n ++ [l.getD 0 0] = l3 := by rw [← e3]; exact take_end hl3
  have hb3 := (K2.out.2.trans hT3 (fun b hb => .inl hb)).block c.block hcw hne.out
  refine ⟨by rw [← e3]; rfl, l3.take n, hL4, ?_, heap_take hI3 hl3, ?_, hK4.ahead hb3⟩
  · rw [e4]; exact hP3.trans HP.out
  · exact ((K2.out.2.trans hT3 (fun b hb => .inl hb)).mono (fun b hb => .inl (.inr hb))).trans hT4 (fun b hb => .inl (.inl hb))
end Go.Proofs.Ytgcjjgljllephaa
