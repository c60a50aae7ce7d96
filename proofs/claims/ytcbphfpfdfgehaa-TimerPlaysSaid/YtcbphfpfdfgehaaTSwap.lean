/-
  Two places of the heap change: what becomes of the timers. Conditions: the timers are some that calls can make.
-/
import Derived.Test.YtcbphfpfdfgehaaTSmall
import Derived.BigRegion
namespace Go.Proofs.Ytcbphfpfdfgehaa
open Go.ChangeShapes Go.WideShapes Go.ChangeAt Go.RowKit

theorem eAt_swE_fit {H : List En} (hf : ∀ e ∈ H, fitE e) {i j : Nat} (hi : i < H.length) (hj : j < H.length) : ∀ e ∈ swE H i j, fitE e := fun e he => hf e ((swE_perm H hi hj).mem_iff.1 he)
set_option maxHeartbeats 1000000 in
theorem swap_any {w : World} {c b : Nat} {most now : Int} {v : Value} {H : List En} {P : Int → Option Int} (h : TM w c most now v b H P) (i j : Nat) (hi : i < H.length) (hj : j < H.length) :
    Calls Try.prog 74 #[.pointer (some ⟨c, 0, none⟩), .int .i64 (i : Int), .int .i64 (j : Int)] w fun x w' => x = .returned (.tuple #[]) ∧ (∃ P', TM w' c most now v b (swE H i j) P') ∧ Turn (TFoot c v b) w w' := by
  have c2 := h.c2
  have c3 := h.c3
  have hrow := h.row
  obtain ⟨g, o, cap, rfl, -, -, hty, -, -⟩ := WRow.shape hrow (by omega)
  obtain ⟨n, hn⟩ : ∃ n, H.length = n := ⟨_, rfl⟩
  have hln := h.len
  have HT := Lib.hid h
  have qi := hrow.two hi
  have qj := hrow.two hj
  have fi0 := hty.free (o + i * 2)
  have fi1 := hty.free (o + i * 2 + 1)
  have fj0 := hty.free (o + j * 2)
  have fj1 := hty.free (o + j * 2 + 1)
  have hin : (i : Int) < (n : Int) := by omega
  have hjn : (j : Int) < (n : Int) := by omega
  rw [hn] at c2 hrow
  have c2' := c2
  obtain ⟨ei, hei⟩ : ∃ e, eAt H i = e := ⟨_, rfl⟩
  obtain ⟨ej, hej⟩ : ∃ e, eAt H j = e := ⟨_, rfl⟩
  rw [hei] at qi
  rw [hej] at qj
  obtain ⟨qi0, qi1⟩ := qi
  obtain ⟨qj0, qj1⟩ := qj
  obtain ⟨x1, hx1⟩ := cell?_setCell_some (w := w) (p := ⟨g, o + i * 2, none⟩) (x := .int .i64 ej.k) (q := ⟨g, o + j * 2, none⟩) (v := .int .i64 ej.k) qj0
  obtain ⟨x0, hx0⟩ := cell?_setCell_some (w := w) (p := ⟨g, o + i * 2, none⟩) (x := .int .i64 ej.k) (q := ⟨g, o + j * 2 + 1, none⟩) qj1
  obtain ⟨x2, hx2⟩ := cell?_setCell_some (w := w.setCell ⟨g, o + i * 2, none⟩ (.int .i64 ej.k)) (p := ⟨g, o + i * 2 + 1, none⟩) (x := .int .i64 ej.d) (q := ⟨g, o + j * 2 + 1, none⟩) hx0
  clear hx0
  obtain ⟨W1, hW1⟩ : ∃ W1, ((((w.setCell ⟨g, o + i * 2, none⟩ (.int .i64 ej.k)).setCell ⟨g, o + i * 2 + 1, none⟩ (.int .i64 ej.d)).setCell ⟨g, o + j * 2, none⟩ (.int .i64 ei.k)).setCell ⟨g, o + j * 2 + 1, none⟩ (.int .i64 ei.d)).drew = W1 := ⟨_, rfl⟩
  have r1 : ERow (.slice (some ⟨g, o, none⟩) n cap) (swE H i j) W1 := by
    have h1 := hrow.set hi ej
    have h2 := h1.set (i := j) (by rw [List.length_set]; exact hj) ei
    rw [← hW1]
    unfold swE
    rw [hei, hej]
    exact h2.past (Turn.refl _ _).drew
  have t1 : Turn (Blk (.slice (some ⟨g, o, none⟩) n cap)) w W1 := by
    rw [← hW1]
    exact (((((Turn.refl (Blk (.slice (some ⟨g, o, none⟩) n cap)) w).setCell (p := ⟨g, o + i * 2, none⟩) (.inl rfl) _).setCell (p := ⟨g, o + i * 2 + 1, none⟩) (.inl rfl) _).setCell (p := ⟨g, o + j * 2, none⟩) (.inl rfl) _).setCell (p := ⟨g, o + j * 2 + 1, none⟩) (.inl rfl) _).drew
  have hvc : ¬ Blk (.slice (some ⟨g, o, none⟩) n cap) c ∧ ¬ Blk (.slice (some ⟨g, o, none⟩) n cap) b := by
    rw [← hn]
    exact ⟨fun hk => (h.vc hk).1 rfl, fun hk => (h.vc hk).2 rfl⟩
  have m1 := PMap.past h.map t1 hvc.2
  rw [hn] at m1
  have hsl : (swE H i j).length = n := by rw [swE_len, hn]
  have ka := eAt_mem (H := swE H i j) (i := i) (by omega)
  have kb := eAt_mem (H := swE H i j) (i := j) (by omega)
  have fa := eAt_swE_fit h.fits hi hj _ ka
  have fb := eAt_swE_fit h.fits hi hj _ kb
  have sa : (P (eAt (swE H i j) i).k).isSome = true := by
    obtain ⟨q, hq, he⟩ := mem_eAt ((swE_perm H hi hj).mem_iff.1 ka)
    rw [← he, h.pos.all q hq]; rfl
  have sb : (P (eAt (swE H i j) j).k).isSome = true := by
    obtain ⟨q, hq, he⟩ := mem_eAt ((swE_perm H hi hj).mem_iff.1 kb)
    rw [← he, h.pos.all q hq]; rfl
  have cbn := h.cb
  obtain ⟨W2, p2, m2, t2⟩ := PMap.put m1.drew (by unfold maxLen; omega) (eAt (swE H i j) i).k (i : Int) fa.1 (by unfold fit; omega)
  rw [sa, if_pos rfl] at m2
  obtain ⟨W3, p3, m3, t3⟩ := PMap.put m2.drew (by unfold maxLen; omega) (eAt (swE H i j) j).k (j : Int) fb.1 (by unfold fit; omega)
  rw [show (updI P (eAt (swE H i j) i).k (some (i : Int)) (eAt (swE H i j) j).k).isSome = true by unfold updI; split; rfl; exact sb, if_pos rfl] at m3
  have qa := (r1.two (j := i) (by omega)).1
  have d2 := t1.cell c2' hvc.1
  have d3 := t1.cell c3 hvc.1
  have tq : Turn (fun k => k = b) W1 W2 := ((Turn.refl _ W1).drew).trans t2 (fun k hk => .inl hk)
  have e2 := tq.cell d2 cbn
  have e3 := tq.cell d3 cbn
  have r2 : ERow (.slice (some ⟨g, o, none⟩) n cap) (swE H i j) W2 := r1.kept tq (fun k hk e => by subst e; exact hvc.2 hk)
  have qb := (r2.two (j := j) (by omega)).1
  have tr : Turn (fun k => k = b) W2 W3 := ((Turn.refl _ W2).drew).trans t3 (fun k hk => .inl hk)
  have RES := Lib.hid (show (∃ P', TM W3 c most now (.slice (some ⟨g, o, none⟩) n cap) b (swE H i j) P') ∧ Turn (TFoot c (.slice (some ⟨g, o, none⟩) n cap) b) w W3 from by
    have tw : Turn (TFoot c (.slice (some ⟨g, o, none⟩) n cap) b) w W3 := ((t1.mono (fun k hk => .inl (.inr (.inr hk)))).trans (tq.mono (G := TFoot c (.slice (some ⟨g, o, none⟩) n cap) b) (fun k hk => .inl (.inr (.inl hk)))) (fun k hk => .inl hk)).trans (tr.mono (G := TFoot c (.slice (some ⟨g, o, none⟩) n cap) b) (fun k hk => .inl (.inr (.inl hk)))) (fun k hk => .inl hk)
    have tyc := ((h.typ.kept t1 hvc.1).kept tq cbn).kept tr cbn
    refine ⟨⟨_, ⟨tr.cell (tq.cell (t1.cell h.c0 hvc.1) cbn) cbn, tr.cell (tq.cell (t1.cell h.c1 hvc.1) cbn) cbn, tr.cell e2 cbn, tr.cell e3 cbn, tyc, r2.kept tr (fun k hk e => by subst e; exact hvc.2 hk), by rw [hsl]; exact m3, h.pos.sw hi hj, eAt_swE_fit h.fits hi hj, by rw [hsl]; omega⟩⟩, tw⟩)
  generalize (eAt (swE H i j) i).k = xi at *
  generalize (eAt (swE H i j) j).k = xj at *
  have HI := Lib.hid (And.intro hei (And.intro hej (And.intro hn (And.intro hi hj))))
  have HC := Lib.hid cbn
  clear h hrow hty hn hei hej hi hj r1 t1 hvc m1 hsl ka kb fa fb sa sb cbn m2 m3 t2 t3 tq tr r2 c2'
  go_enter Try.func74, Try.ntmps74
  go_wp2
  go_region
  clear hW1 hx1 hx2
  go_wp2
  go_region
  go_wp2
  go_region
  go_end0
  exact ⟨rfl, by rw [HI.out.2.2.1]; exact RES.out⟩
end Go.Proofs.Ytcbphfpfdfgehaa
