/-
  The calls of timers in a law's state: Set, Cancel, Advance. No conditions but that the numbers are of 64 bits.
-/
import Derived.Test.YtcbphfpfdfgehaaTOps
namespace Go.Proofs.Ytcbphfpfdfgehaa
open Go.ChangeShapes Go.WideShapes Go.ChangeAt Go.RowKit

section
variable {w0 w : World} {c : Nat} {most now : Int} {L : List En} {X : Nat → Prop}
theorem TSt.due (h : TSt w0 w c most now L X) (d : Int) : Calls Try.prog 56 #[.pointer (some ⟨c, 0, none⟩), .int .i64 d] w fun x w' => x = .returned (.bool (decide (d ≤ now))) ∧ w = w' := by
  obtain ⟨v, b, H, P, h1, -⟩ := h.ex
  exact due_any h1 d
/-- What stands in the map, and the call that takes it off. -/
theorem TSt.has (h : TSt w0 w c most now L X) (k : Int) (hk : fit k) (hh : hasK L k = true) : ∃ (b i : Nat), w.cell? ⟨c, 3, none⟩ = some (.map (some b)) ∧ Sem.run Try.prog (Instr.lookup 113 (.map (some b)) (.int .i64 k) true) w = .ok (.tuple #[.int .i64 (i : Int), .bool true]) w ∧
    Calls Try.prog 57 #[.pointer (some ⟨c, 0, none⟩), .int .i64 (i : Int)] w fun x w' => x = .returned (.tuple #[]) ∧ TSt w0 w' c most now (dropK L k) X ∧ Kp X w w' := by
  obtain ⟨v, b, H, P, h1, h2, h3, h4, h5⟩ := h.ex
  obtain ⟨i, hi, hil, hik⟩ := find_some h3 h1.pos hh
  have hlook := h1.map.look k hk
  rw [hi] at hlook
  simp only [Option.getD_some, Option.isSome_some] at hlook
  refine ⟨b, i, h1.c3, hlook, (remove_any h1 i hil h2).mono ?_⟩
  rintro x w' ⟨rfl, ⟨v', H', P', a1, a2, a3, a4⟩, t⟩
  have hp := a1.trans (erase_dropK h3 (posOK_nodup h1.pos) hil)
  rw [hik] at hp
  have hle : (dropK L k).length ≤ L.length := List.length_filter_le _ _
  exact ⟨rfl, tst_made h h1 h4 h5 a2 a3 hp (h.right.drop k) (by have := h.room.1; omega) h.time (fun j hj => .inl ((a4 j).1 hj)) t⟩
theorem TSt.hasnt (h : TSt w0 w c most now L X) (k : Int) (hk : fit k) (hh : hasK L k = false) : ∃ (b : Nat), w.cell? ⟨c, 3, none⟩ = some (.map (some b)) ∧ Sem.run Try.prog (Instr.lookup 113 (.map (some b)) (.int .i64 k) true) w = .ok (.tuple #[.int .i64 0, .bool false]) w := by
  obtain ⟨v, b, H, P, h1, h2, h3, h4, h5⟩ := h.ex
  have hlook := h1.map.look k hk
  rw [find_none h3 h1.pos hh] at hlook
  exact ⟨b, h1.c3, hlook⟩
def canS (L : List En) (k : Int) : Int := if hasK L k = true then 0 else -25
theorem TSt.cancel (h : TSt w0 w c most now L X) (k : Int) (hk : fit k) : Calls Try.prog 25 #[.pointer (some ⟨c, 0, none⟩), .int .i64 k] w fun x w' => x = .returned (.int .i64 (canS L k)) ∧ TSt w0 w' c most now (dropK L k) X ∧ Kp X w w' := by
  unfold canS
  cases hh : hasK L k with
  | false =>
    obtain ⟨b, c3, hlook⟩ := h.hasnt k hk hh
    rw [dropK_no hh]
    have HF := Lib.hid h
    simp only [Bool.false_eq_true, if_false]
    clear h hh
    go_enter Try.func25, Try.ntmps25
    go_wp2
    go_ret
    exact ⟨rfl, HF.out, Kp.of_past (Turn.refl _ _)⟩
  | true =>
    obtain ⟨b, i, c3, hlook, hrem⟩ := h.has k hk hh
    have HR := Lib.hid hrem
    simp only [if_true]
    clear h hh hrem
    go_enter Try.func25, Try.ntmps25
    go_wp2_with (go_at_call 57; (with_reducible refine HR.out.mono ?_); rintro e w1 ⟨rfl, m1⟩; have M1 := Lib.hid m1; clear m1)
    go_ret
    exact ⟨rfl, M1.out⟩

def setB (now d : Int) : Bool := decide (d ≤ now)
def setS (most now : Int) (L : List En) (k d : Int) : Int := if d ≤ now then 0 else if 1099511627776 < d then -10 else if hasK L k = false ∧ most ≤ L.length then -4 else 0
def setL (most now : Int) (L : List En) (k d : Int) : List En := if d ≤ now then dropK L k else if 1099511627776 < d then L else if hasK L k = false ∧ most ≤ L.length then L else insE ⟨k, d⟩ (dropK L k)
/-- A new deadline of a key that has one. -/
theorem TSt.again (h : TSt w0 w c most now L X) (k d : Int) (hk : fit k) (hd : fit d) (hh : hasK L k = true) : ∃ (b i g o n cap : Nat), w.cell? ⟨c, 3, none⟩ = some (.map (some b)) ∧ Sem.run Try.prog (Instr.lookup 113 (.map (some b)) (.int .i64 k) true) w = .ok (.tuple #[.int .i64 (i : Int), .bool true]) w ∧
    w.cell? ⟨c, 2, none⟩ = some (.slice (some ⟨g, o, none⟩) n cap) ∧ (i : Int) < (n : Int) ∧ (∃ u, w.cell? ⟨g, o + i * 2 + 1, none⟩ = some (.int .i64 u)) ∧ w.frozen? ⟨g, o + i * 2 + 1, none⟩ = false ∧
    Calls Try.prog 58 #[.pointer (some ⟨c, 0, none⟩), .int .i64 (i : Int)] (w.setCell ⟨g, o + i * 2 + 1, none⟩ (.int .i64 d)) fun x w' => x = .returned (.tuple #[]) ∧ TSt w0 w' c most now (insE ⟨k, d⟩ (dropK L k)) X ∧ Kp X w w' := by
  obtain ⟨v, b, H, P, h1, h2, h3, h4, h5⟩ := h.ex
  obtain ⟨i, hi, hil, hik⟩ := find_some h3 h1.pos hh
  have hlook := h1.map.look k hk
  rw [hi] at hlook
  simp only [Option.getD_some, Option.isSome_some] at hlook
  obtain ⟨g, o, cap, hv, hnc, hcm, hty, -, -⟩ := WRow.shape h1.row (by omega)
  subst hv
  refine ⟨b, i, g, o, H.length, cap, h1.c3, hlook, h1.c2, by omega, ⟨_, (h1.row.two hil).2⟩, hty.free _, ?_⟩
  have tb : Turn (Blk (.slice (some ⟨g, o, none⟩) H.length cap)) w (w.setCell ⟨g, o + i * 2 + 1, none⟩ (.int .i64 d)) := (Turn.refl (Blk (.slice (some ⟨g, o, none⟩) H.length cap)) w).setCell (p := ⟨g, o + i * 2 + 1, none⟩) (.inl rfl) _
  have hfit : ∀ e ∈ reD H i d, fitE e := fun e he => by
    obtain ⟨j, hj, rfl⟩ := mem_eAt he
    rw [reD_len] at hj
    rw [reD_at H hil]
    split
    · exact ⟨by rw [hik]; exact hk, hd⟩
    · exact h1.fits _ (eAt_mem hj)
  have m1 := h1.row' tb (h1.row.set1 hil d) (reD_len H i d) (h1.pos.reD hil d) hfit
  have hperm : (reD H i d).Perm (insE ⟨k, d⟩ (dropK L k)) := by
    have e1 := erase_dropK h3 (posOK_nodup h1.pos) hil
    rw [hik] at e1
    have e2 := erase_dropK (List.Perm.refl (reD H i d)) (posOK_nodup (h1.pos.reD hil d)) (i := i) (by rw [reD_len]; exact hil)
    have e3 : (reD H i d).eraseIdx i = H.eraseIdx i := by
      unfold reD
      rw [List.eraseIdx_eq_take_drop_succ, List.eraseIdx_eq_take_drop_succ, List.take_set_of_le (Nat.le_refl _), List.drop_set_of_lt (by omega)]
    have hl2 : i < (reD H i d).length := by rw [reD_len]; exact hil
    have e4 : (reD H i d).Perm (eAt (reD H i d) i :: (reD H i d).eraseIdx i) := by
      have e : eAt (reD H i d) i = (reD H i d)[i] := by
        have := eAt_some hl2
        rw [List.getElem?_eq_getElem hl2] at this
        simpa using this.symm
      rw [e, List.eraseIdx_eq_take_drop_succ]
      have h4 : reD H i d = (reD H i d).take i ++ (reD H i d)[i] :: (reD H i d).drop (i + 1) := by rw [← List.drop_eq_getElem_cons hl2, List.take_append_drop]
      exact (by rw [← h4] : (reD H i d).Perm ((reD H i d).take i ++ (reD H i d)[i] :: (reD H i d).drop (i + 1))).trans List.perm_middle
    rw [e3, reD_at H hil, if_pos rfl, hik] at e4
    exact e4.trans ((e1.cons _).trans (insE_perm _ _).symm)
  have hR := (h.right.drop k).ins (e := ⟨k, d⟩) (hasK_drop L k) ⟨hk, hd⟩
  have hlen : ((insE ⟨k, d⟩ (dropK L k)).length : Int) ≤ most := by
    rw [← hperm.length_eq, reD_len, h3.length_eq]
    exact h.room.1
  refine (settle_any m1 i (by rw [reD_len]; exact hil) (by
    rw [reD_len]
    refine anyInv_of_heap (f := fH H) h2 (fun j h6 h7 => ?_) hil
    unfold fH
    rw [reD_at H hil, if_neg h6])).mono ?_
  rintro x w' ⟨rfl, ⟨H', P', a1, a2, a3⟩, t⟩
  exact ⟨rfl, tst_made h h1 h4 h5 a2 a3 (a1.trans hperm) hR hlen h.time (fun j hj => .inl hj) ((tb.mono (fun j hj => .inl (.inr (.inr hj)))).trans t (fun j hj => .inl hj))⟩
theorem TSt.fresh (h : TSt w0 w c most now L X) (k d : Int) (hk : fit k) (hd : fit d) (hh : hasK L k = false) (hl : (L.length : Int) < most) :
    Calls Try.prog 59 #[.pointer (some ⟨c, 0, none⟩), .agg #[.int .i64 k, .int .i64 d]] w fun x w' => x = .returned (.tuple #[]) ∧ TSt w0 w' c most now (insE ⟨k, d⟩ (dropK L k)) X ∧ Kp X w w' := by
  obtain ⟨v, b, H, P, h1, h2, h3, h4, h5⟩ := h.ex
  rw [dropK_no hh]
  have hle : H.length < 65536 := by have := h.room.2; rw [h3.length_eq]; omega
  refine (add_any h1 h2 ⟨k, d⟩ (find_none h3 h1.pos hh) ⟨hk, hd⟩ hle).mono ?_
  rintro x w' ⟨rfl, ⟨v', H', P', a1, a2, a3, a4⟩, t⟩
  have hp : H'.Perm (insE ⟨k, d⟩ L) := a1.trans (((h3.append_right _).trans (List.perm_append_singleton _ _)).trans (insE_perm _ _).symm)
  refine ⟨rfl, tst_made h h1 h4 h5 a2 a3 hp (h.right.ins (e := ⟨k, d⟩) hh ⟨hk, hd⟩) ?_ h.time a4 t⟩
  rw [(insE_perm _ _).length_eq, List.length_cons]
  omega
end
end Go.Proofs.Ytcbphfpfdfgehaa
