/-
  Advance in a law's state. No conditions but that the number is of 64 bits.
-/
import Derived.Test.YtcbphfpfdfgehaaTSet
namespace Go.Proofs.Ytcbphfpfdfgehaa
open Go.ChangeShapes Go.WideShapes Go.ChangeAt Go.RowKit

theorem wrap_fit' (x : Int) (h : fit x) : IntKind.i64.wrap x = x := by
  unfold fit at h
  have e : IntKind.i64.wrap x = (if x % 18446744073709551616 ≥ 9223372036854775808 then x % 18446744073709551616 - 18446744073709551616 else x % 18446744073709551616) := by
    simp [IntKind.wrap, IntKind.bits, IntKind.signed]
  rw [e]; split <;> omega
theorem gone_at {now : Int} : ∀ {L : List En} {j : Nat}, j ≤ L.length → (∀ e ∈ L.take j, e.d ≤ now) → (∀ a r, L.drop j = a :: r → ¬ a.d ≤ now) → gone L now = L.take j ∧ rest L now = L.drop j
  | [], j, h1, _, _ => by
    have : j = 0 := by simpa using h1
    subst this
    exact ⟨rfl, rfl⟩
  | a :: r, 0, _, _, h3 => by
    have := h3 a r rfl
    simp [gone, rest, this]
  | a :: r, j + 1, h1, h2, h3 => by
    have ha : a.d ≤ now := h2 a (by simp)
    have ih := gone_at (L := r) (j := j) (by simpa using h1) (fun e he => h2 e (by rw [List.take_succ_cons]; exact List.mem_cons_of_mem _ he)) (fun b s hs => h3 b s (by simpa using hs))
    unfold gone rest at ih ⊢
    rw [List.takeWhile_cons, List.dropWhile_cons, decide_eq_true ha, if_pos rfl, if_pos rfl, ih.1, ih.2]
    exact ⟨rfl, rfl⟩
section
variable {w0 w : World} {c : Nat} {most now : Int} {L : List En} {X : Nat → Prop}
theorem TSt.clock (h : TSt w0 w c most now L X) (t' : Int) (ht : 0 ≤ t' ∧ t' ≤ 1099511627776) : TSt w0 (w.setCell ⟨c, 1, none⟩ (.int .i64 t')) c most t' L X ∧ Kp X w (w.setCell ⟨c, 1, none⟩ (.int .i64 t')) := by
  obtain ⟨v, b, H, P, h1, h2, h3, h4, h5⟩ := h.ex
  have tc : Turn (fun k => k = c) w (w.setCell ⟨c, 1, none⟩ (.int .i64 t')) := (Turn.refl (fun k => k = c) w).setCell (p := ⟨c, 1, none⟩) (.inl rfl) _
  have other : ∀ j, j ≠ 1 → (w.setCell ⟨c, 1, none⟩ (.int .i64 t')).cell? ⟨c, j, none⟩ = w.cell? ⟨c, j, none⟩ := fun j hj => World.cell?_setCell_other _ _ _ _ (fun e => hj (by (try simp at e) <;> omega))
  have c1 : (w.setCell ⟨c, 1, none⟩ (.int .i64 t')).cell? ⟨c, 1, none⟩ = some (.int .i64 t') := by
    obtain ⟨cur, hcur⟩ := h1.typ
    rw [cell_at (set_at hcur 1 _)]
    have q := h1.c1
    rw [cell_at hcur] at q
    have : 1 < cur.size := by
      rcases Nat.lt_or_ge 1 cur.size with h6 | h6
      · exact h6
      · rw [Array.getElem?_eq_none h6] at q; cases q
    simp [this]
  have m : TM (w.setCell ⟨c, 1, none⟩ (.int .i64 t')) c most t' v b H P := ⟨(other 0 (by omega)).trans h1.c0, c1, (other 2 (by omega)).trans h1.c2, (other 3 (by omega)).trans h1.c3, h1.typ.set 1 _ c, h1.row.kept tc (fun k hk => (h1.vc hk).1), PMap.past h1.map tc (fun e => h1.cb e.symm), h1.pos, h1.fits, h1.len⟩
  exact tst_made h h1 h4 h5 m h2 h3 h.right h.room.1 ht (fun k hk => .inl hk) (tc.mono (fun k hk => .inl (.inl hk)))
theorem TSt.first {a : En} {r : List En} (h : TSt w0 w c most now (a :: r) X) : ∃ g o cap, w.cell? ⟨c, 2, none⟩ = some (.slice (some ⟨g, o, none⟩) (r.length + 1) cap) ∧ w.cell? ⟨g, o, none⟩ = some (.int .i64 a.k) ∧ w.cell? ⟨g, o + 1, none⟩ = some (.int .i64 a.d) := by
  obtain ⟨v, b, H, P, h1, h2, h3, -⟩ := h.ex
  have hl : H.length = r.length + 1 := by rw [h3.length_eq]; rfl
  have ha := heap_head h3 h.right h2 rfl
  obtain ⟨g, o, cap, rfl, -⟩ := WRow.shape h1.row (by omega)
  obtain ⟨q0, q1⟩ := h1.row.two (j := 0) (by omega)
  rw [ha] at q0 q1
  simp only [Nat.zero_mul, Nat.add_zero] at q0 q1
  have := h1.c2
  rw [hl] at this
  exact ⟨g, o, cap, this, q0, q1⟩
theorem TSt.pop0 {a : En} {r : List En} (h : TSt w0 w c most now (a :: r) X) : Calls Try.prog 57 #[.pointer (some ⟨c, 0, none⟩), .int .i64 0] w fun x w' => x = .returned (.tuple #[]) ∧ TSt w0 w' c most now r X ∧ Kp X w w' := by
  obtain ⟨v, b, H, P, h1, h2, h3, h4, h5⟩ := h.ex
  have hl : H.length = r.length + 1 := by rw [h3.length_eq]; rfl
  have ha := heap_head h3 h.right h2 rfl
  have hr := remove_any h1 0 (by omega) h2
  refine hr.mono ?_
  rintro x w' ⟨rfl, ⟨v', H', P', a1, a2, a3, a4⟩, t⟩
  have hp := a1.trans (erase_dropK h3 (posOK_nodup h1.pos) (i := 0) (by omega))
  rw [ha, drop_head h.right] at hp
  have := h.room.1
  rw [List.length_cons] at this
  exact ⟨rfl, tst_made h h1 h4 h5 a2 a3 hp h.right.tail (by omega) h.time (fun j hj => .inl ((a4 j).1 hj)) t⟩
def advS (now by' : Int) : Int := if by' < 0 ∨ 1099511627776 - now < by' then -10 else 0
def advN (now by' : Int) : Int := if by' < 0 ∨ 1099511627776 - now < by' then now else now + by'
def advL (now by' : Int) (L : List En) : List En := if by' < 0 ∨ 1099511627776 - now < by' then L else rest L (now + by')
def advK (now by' : Int) (L : List En) : List Int := if by' < 0 ∨ 1099511627776 - now < by' then [] else keysOf (gone L (now + by'))
set_option maxRecDepth 20000 in
set_option maxHeartbeats 1000000 in
theorem TSt.advance_no (h : TSt w0 w c most now L X) (n : Int) (hn : n < 0 ∨ 1099511627776 - now < n) :
    Calls Try.prog 28 #[.pointer (some ⟨c, 0, none⟩), .int .i64 n] w fun x w' => x = .returned (.tuple #[.slice none 0 0, .int .i64 (-10)]) ∧ w = w' := by
  obtain ⟨p, cap, c0, c1, c2, f1⟩ := h.heads
  have h1 := h.time
  have ew : IntKind.i64.wrap (1099511627776 - now) = 1099511627776 - now := wrap_fit' _ (by unfold fit; omega)
  clear h
  by_cases h0 : n < 0
  · clear hn
    go_enter Try.func28, Try.ntmps28
    go_wp2
    go_ret2
    exact ⟨rfl, rfl⟩
  · have h2 : 1099511627776 - now < n := by omega
    have hd : decide (n < 0) = false := by simpa using h0
    have hd2 : decide (1099511627776 - now < n) = true := by simpa using h2
    clear hn
    go_enter Try.func28, Try.ntmps28
    go_wp2
    go_ret2
    exact ⟨rfl, rfl⟩
end
end Go.Proofs.Ytcbphfpfdfgehaa
