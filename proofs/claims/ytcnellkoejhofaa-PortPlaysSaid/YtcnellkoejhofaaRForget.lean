/-
  What the document's port answers to Forget. No conditions but that its lists are no longer than a million.
-/
import Derived.Test.YtcnellkoejhofaaRSmall2
namespace Go.Proofs.Ytcnellkoejhofaa
open Go.ChangeShapes Go.WideShapes Go.ChangeAt Go.RowKit

theorem drop_snoc (l : List Wc) (t : Wc) (o : Int) (P : Wc → Bool) : dropW (l ++ [t]) o P = dropW l o P ++ if (t.o == o && P t) = true then [] else [t] := by
  unfold dropW
  rw [List.filter_append, List.filter_cons]
  cases (t.o == o && P t) <;> rfl
section
variable {w w' : World} {x : Nat} {depth most : Int} {vq vw vq' vw' : Value} {Q Q' : List Pk} {Ws Ws' : List Wc}
/-- A watch of the document's port, read. -/
theorem RM.watch_at (h : RM w x depth most vq vw Q Ws) {j : Nat} {t : Wc} (ht : Ws[j]? = some t) : ∃ g o cap, vw = .slice (some ⟨g, o, none⟩) Ws.length cap ∧
    w.cell? ⟨g, o + j * 3, none⟩ = some (.int .i64 t.o) ∧ w.cell? ⟨g, o + j * 3 + 1, none⟩ = some (.int .i64 t.k) ∧ w.cell? ⟨g, o + j * 3 + 2, none⟩ = some (.int .i64 t.m) := by
  have hlt := (List.getElem?_eq_some_iff.1 ht).1
  have hw := h.ws
  obtain ⟨g, o, cap, rfl, -⟩ := WRow.shape hw (by omega)
  obtain ⟨a, b, c⟩ := hw.three ht
  exact ⟨g, o, cap, rfl, a, b, c⟩
set_option maxRecDepth 20000 in
set_option maxHeartbeats 1000000 in
theorem rforget (h : RM w x depth most vq vw Q Ws) (hw0 : Ws.length ≤ 65536) (o : Int) : Calls Try.prog 22 #[.pointer (some ⟨x, 0, none⟩), .int .i64 o] w fun e w' => e = .returned (.int .i64 (frgN Ws o : Int)) ∧ RMade w w' x depth most vq vw Q (frgL Ws o) := by
  obtain ⟨pw, cw, hvw⟩ := WRow.sl h.ws
  have hdl := dropW_len Ws o (fun _ => true)
  have hfn : frgN Ws o = ((ofO Ws o).filter (fun _ => true)).length := rfl
  obtain ⟨y, hy⟩ : ∃ y, Ws.length = y := ⟨_, rfl⟩
  obtain ⟨r, hr⟩ : ∃ r, (frgL Ws o).length = r := ⟨_, rfl⟩
  have hyr : r + frgN Ws o = y := by rw [← hr, ← hy, hfn]; exact hdl
  obtain ⟨n, hn⟩ : ∃ n, frgN Ws o = n := ⟨_, rfl⟩
  rw [hn] at hyr ⊢
  have HM := Lib.hid h
  have HY := Lib.hid (And.intro hy (And.intro hr hvw))
  rw [hy] at hvw hw0
  subst hvw
  have CC := Lib.hid (fun W (t : Turn NoBlock w W) => (h.past t).hd.c1)
  clear h hdl hfn hy hr hn
  go_enter Try.func22, Try.ntmps22
  go_wp2
  go_loopg [5, 6] y (fun z s5 s6 wr => ∃ (j u : Nat) (p : Option Addr) (cap : Nat), z = y - j ∧ j ≤ y ∧ u ≤ j ∧ s5 = .slice p u cap ∧ s6 = .int .i64 (j : Int) ∧ Hid (Turn NoBlock w wr ∧ (dropW (Ws.take j) o (fun _ => true)).length = u ∧ CRow (.slice p u cap) (dropW (Ws.take j) o (fun _ => true)) wr ∧ ∀ k, Blk (.slice p u cap) k → w.heap.size ≤ k))
  case atStart => exact ⟨0, 0, none, 0, rfl, Nat.zero_le _, Nat.le_refl _, rfl, rfl, Lib.hid ⟨Turn.refl _ _, rfl, wrow_nil _ _ _, fun k hk => (blk_nil k hk).elim⟩⟩
  case round =>
    obtain ⟨j, u, pl, cl, hz, hj, hu, rfl, rfl, HR⟩ := hrel
    have c1 := CC.out _ HR.out.1
    by_cases hjn : j < y
    · obtain ⟨t, ht⟩ : ∃ t, Ws[j]? = some t := ⟨_, List.getElem?_eq_getElem (by rw [HY.out.1]; exact hjn)⟩
      obtain ⟨gw, ow, cw', hev, d0, d1, d2⟩ := (HM.out.past HR.out.1).watch_at ht
      rw [HY.out.1] at hev
      simp only [Value.slice.injEq] at hev
      obtain ⟨rfl, -, rfl⟩ := hev
      have hji : (j : Int) < (y : Int) := by omega
      have hsn := drop_snoc (Ws.take j) t o (fun _ => true)
      rw [show Ws.take j ++ [t] = Ws.take (j + 1) by rw [List.take_add_one, ht]; rfl, Bool.and_true] at hsn
      cases hto : (t.o == o) with
      | true =>
        rw [hto, if_pos rfl, List.append_nil] at hsn
        have hne : (t.o != o) = false := by simp at hto ⊢; exact hto
        have HS := Lib.hid hsn
        clear hsn hto ht
        go_wp2
        go_roundg (y - (j + 1))
        case measure => omega
        case rel => exact ⟨j + 1, u, pl, cl, rfl, by omega, by omega, rfl, by go_num, Lib.hid (by rw [HS.out]; exact HR.out)⟩
      | false =>
        rw [hto, if_neg (by simp)] at hsn
        have hne : (t.o != o) = true := by simp at hto ⊢; exact hto
        obtain ⟨p2, n2, cap2, p3, cap3, W3, he3, hn3, hap, hrow3, htn3, hbl3⟩ := HR.out.2.2.1.push t (by rw [HR.out.2.1]; omega)
        simp only [Value.slice.injEq] at he3
        obtain ⟨rfl, rfl, rfl⟩ := he3
        rw [← hsn] at hrow3
        have HS := Lib.hid (show Turn NoBlock w W3 ∧ (dropW (Ws.take (j + 1)) o (fun _ => true)).length = u + 1 ∧ CRow (.slice p3 (u + 1) cap3) (dropW (Ws.take (j + 1)) o (fun _ => true)) W3 ∧ ∀ k, Blk (.slice p3 (u + 1) cap3) k → w.heap.size ≤ k from
          ⟨HR.out.1.trans htn3 (fun k hk => .inr (HR.out.2.2.2 k hk)), by rw [hsn, List.length_append, HR.out.2.1]; rfl, hrow3, fun k hk => (hbl3 k hk).elim (HR.out.2.2.2 k) (fun e => Nat.le_trans HR.out.1.size e)⟩)
        clear hsn hto ht hn3 hrow3 htn3 hbl3
        go_wp2_with (at_builtin; refine wpList_append_run (by rfl) (.tmp 27) (.tmp 35) 28 28 (by rfl) _ _ (by rfl) (by rfl) _ _ (hap _) ?_)
        go_roundg (y - (j + 1))
        case measure => omega
        case rel => exact ⟨j + 1, u + 1, p3, cap3, rfl, by omega, by omega, rfl, by go_num, HS⟩
    · obtain rfl : j = y := by omega
      have hR := HR.out
      have htk : Ws.take j = Ws := List.take_of_length_le (by rw [HY.out.1]; exact Nat.le_refl _)
      rw [htk] at hR
      obtain ⟨rT, rL, rR, rB⟩ := hR
      have hur : u = r := by rw [← rL]; exact HY.out.2.1
      subst hur
      obtain ⟨e1, f1, gM, gF, gT⟩ := HM.out.setw (TU rT) (show CRow (.slice pl u cl) (frgL Ws o) _ from rR) (fun k hk => .inr (rB k hk))
      have HG := Lib.hid (show RMade w _ x depth most vq (.slice pw j cw) Q (frgL Ws o) from ⟨_, _, gM, gF, gT⟩)
      clear rT rL rR rB gM gF gT htk e1
      go_wp2
      go_ret
      exact ⟨ret_int (by omega), HG.out⟩
end
end Go.Proofs.Ytcnellkoejhofaa
