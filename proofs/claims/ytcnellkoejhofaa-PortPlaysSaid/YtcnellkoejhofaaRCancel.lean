/-
  What the document's port answers to Cancel. No conditions but that its lists are no longer than a million.
-/
import Derived.Test.YtcnellkoejhofaaRTell
namespace Go.Proofs.Ytcnellkoejhofaa
open Go.ChangeShapes Go.WideShapes Go.ChangeAt Go.RowKit

/-- A packet of the object o with the key k. -/
def ofKey (o k : Int) (p : Pk) : Bool := o != 0 && (p.s == o && p.k == k)
def canQ (Q : List Pk) (o k : Int) : List Pk := Q.filter (fun p => !ofKey o k p)
/-- How many watches and packets go. -/
def canM (Q : List Pk) (Ws : List Wc) (o k : Int) : Nat := goneN Ws o (fun t => t.k == k) + (Q.length - (canQ Q o k).length)
def canR (Q : List Pk) (Ws : List Wc) (o k : Int) : Int := if canM Q Ws o k = 0 then -25 else 0
theorem canQ_snoc (l : List Pk) (p : Pk) (o k : Int) : canQ (l ++ [p]) o k = canQ l o k ++ if ofKey o k p = true then [] else [p] := by
  unfold canQ
  rw [List.filter_append, List.filter_cons]
  cases ofKey o k p <;> rfl
section
variable {w w' : World} {x : Nat} {depth most : Int} {vq vw vq' vw' : Value} {Q Q' : List Pk} {Ws Ws' : List Wc}
theorem RM.packet_at (h : RM w x depth most vq vw Q Ws) {j : Nat} {t : Pk} (ht : Q[j]? = some t) : ∃ g o cap, vq = .slice (some ⟨g, o, none⟩) Q.length cap ∧
    w.cell? ⟨g, o + j * 3, none⟩ = some (.int .i64 t.k) ∧ w.cell? ⟨g, o + j * 3 + 1, none⟩ = some (.int .i64 t.s) ∧ w.cell? ⟨g, o + j * 3 + 2, none⟩ = some (.int .i64 t.v) := by
  have hlt := (List.getElem?_eq_some_iff.1 ht).1
  have hw := h.q
  obtain ⟨g, o, cap, rfl, -⟩ := WRow.shape hw (by omega)
  obtain ⟨a, b, c⟩ := hw.three ht
  exact ⟨g, o, cap, rfl, a, b, c⟩
/-- Both rows are others. -/
theorem RM.set2 {wr : World} (h : RM w x depth most vq vw Q Ws) (t : Turn NoBlock w wr) (hl : CRow vw' Ws' wr) (hq : BRow vq' Q' wr) (fl : ∀ k, Blk vw' k → w.heap.size ≤ k) (fq : ∀ k, Blk vq' k → w.heap.size ≤ k) :
    wr.cell? ⟨x, 1, none⟩ = some vw ∧ wr.frozen? ⟨x, 1, none⟩ = false ∧ (wr.setCell ⟨x, 1, none⟩ vw').cell? ⟨x, 0, none⟩ = some vq ∧ (wr.setCell ⟨x, 1, none⟩ vw').frozen? ⟨x, 0, none⟩ = false ∧
      RMade w ((wr.setCell ⟨x, 1, none⟩ vw').setCell ⟨x, 0, none⟩ vq') x depth most vq vw Q' Ws' := by
  have hd := h.hd.past t
  have hxl := h.hd.typ.lt
  have nq : ∀ k, Blk vq' k → k ≠ x := fun k hk e => by have := fq k hk; omega
  have nl : ∀ k, Blk vw' k → k ≠ x := fun k hk e => by have := fl k hk; omega
  have t1 := turn_c wr x 1 vw'
  have t2 := turn_c (wr.setCell ⟨x, 1, none⟩ vw') x 0 vq'
  refine ⟨hd.c1, hd.typ.free 1, (hd.set1 vw').c0, (hd.set1 vw').typ.free 0, vq', vw', ⟨(hd.set1 vw').set0 vq', (hq.kept t1 nq).kept t2 nq, (hl.kept t1 nl).kept t2 nl⟩, fun k hk => ?_, ((TU t).trans (t1.mono (G := RFoot x vq vw) (fun _ hk => .inl (.inl hk))) (fun _ h => .inl h)).trans t2 (fun _ hk => .inl (.inl hk))⟩
  rcases hk with hk | hk | hk
  · exact .inl (.inl hk)
  · exact .inr (fq k hk)
  · exact .inr (fl k hk)
set_option maxRecDepth 20000 in
set_option maxHeartbeats 4000000 in
theorem rcancel (h : RM w x depth most vq vw Q Ws) (hw0 : Ws.length ≤ 65536) (hq0 : Q.length ≤ 131072) (o k : Int) : Calls Try.prog 20 #[.pointer (some ⟨x, 0, none⟩), .int .i64 o, .int .i64 k] w fun e w' => e = .returned (.int .i64 (canR Q Ws o k)) ∧ RMade w w' x depth most vq vw (canQ Q o k) (canL Ws o k) := by
  obtain ⟨pw, cw, hvw⟩ := WRow.sl h.ws
  obtain ⟨pq, cq, hvq⟩ := WRow.sl h.q
  have hdl := dropW_len Ws o (fun t => t.k == k)
  obtain ⟨y, hy⟩ : ∃ y, Ws.length = y := ⟨_, rfl⟩
  obtain ⟨q, hq⟩ : ∃ q, Q.length = q := ⟨_, rfl⟩
  have HM := Lib.hid h
  have HY := Lib.hid (And.intro hy (And.intro hq hdl))
  rw [hy] at hvw hw0
  rw [hq] at hvq hq0
  subst hvw hvq
  have CC := Lib.hid (fun W (t : Turn NoBlock w W) => And.intro (h.past t).hd.c0 (h.past t).hd.c1)
  clear h hdl hy hq
  go_enter Try.func20, Try.ntmps20
  go_wp2
  go_loopg [7, 9, 10] y (fun z s7 s9 s10 wr => ∃ (j u f : Nat) (p : Option Addr) (cap : Nat), z = y - j ∧ j ≤ y ∧ u + f = j ∧ s7 = .slice p u cap ∧ s9 = .int .i64 (f : Int) ∧ s10 = .int .i64 (j : Int) ∧ Hid (Turn NoBlock w wr ∧ (dropW (Ws.take j) o (fun t => t.k == k)).length = u ∧ CRow (.slice p u cap) (dropW (Ws.take j) o (fun t => t.k == k)) wr ∧ ∀ i, Blk (.slice p u cap) i → w.heap.size ≤ i))
  case atStart => exact ⟨0, 0, 0, none, 0, rfl, Nat.zero_le _, rfl, rfl, rfl, rfl, Lib.hid ⟨Turn.refl _ _, rfl, wrow_nil _ _ _, fun k hk => (blk_nil k hk).elim⟩⟩
  case round =>
    obtain ⟨j, u, f, pl, cl, hz, hj, huf, rfl, rfl, rfl, HR⟩ := hrel
    obtain ⟨c0, c1⟩ := CC.out _ HR.out.1
    have hfj : f ≤ 65536 := by omega
    by_cases hjn : j < y
    · obtain ⟨t, ht⟩ : ∃ t, Ws[j]? = some t := ⟨_, List.getElem?_eq_getElem (by rw [HY.out.1]; exact hjn)⟩
      obtain ⟨gw, ow, cw', hev, d0, d1, d2⟩ := (HM.out.past HR.out.1).watch_at ht
      rw [HY.out.1] at hev
      simp only [Value.slice.injEq] at hev
      obtain ⟨rfl, -, rfl⟩ := hev
      have hji : (j : Int) < (y : Int) := by omega
      have hsn := drop_snoc (Ws.take j) t o (fun t => t.k == k)
      rw [show Ws.take j ++ [t] = Ws.take (j + 1) by rw [List.take_add_one, ht]; rfl] at hsn
      have HUF := Lib.hid huf
      clear huf
      cases hcnd : (t.o == o && t.k == k) with
      | true =>
        rw [hcnd, if_pos rfl, List.append_nil] at hsn
        rw [Bool.and_eq_true] at hcnd
        obtain ⟨hto, htk⟩ := hcnd
        have HS := Lib.hid hsn
        clear hsn ht
        go_wp2
        go_roundg (y - (j + 1))
        case measure => omega
        case rel => exact ⟨j + 1, u, f + 1, pl, cl, rfl, by omega, by have := HUF.out; omega, rfl, by go_num, by go_num, Lib.hid (by rw [HS.out]; exact HR.out)⟩
      | false =>
        rw [hcnd, if_neg (by simp)] at hsn
        obtain ⟨p2, n2, cap2, p3, cap3, W3, he3, hn3, hap, hrow3, htn3, hbl3⟩ := HR.out.2.2.1.push t (by rw [HR.out.2.1]; have := HUF.out; omega)
        simp only [Value.slice.injEq] at he3
        obtain ⟨rfl, rfl, rfl⟩ := he3
        rw [← hsn] at hrow3
        have HS := Lib.hid (show Turn NoBlock w W3 ∧ (dropW (Ws.take (j + 1)) o (fun t => t.k == k)).length = u + 1 ∧ CRow (.slice p3 (u + 1) cap3) (dropW (Ws.take (j + 1)) o (fun t => t.k == k)) W3 ∧ ∀ i, Blk (.slice p3 (u + 1) cap3) i → w.heap.size ≤ i from
          ⟨HR.out.1.trans htn3 (fun i hi => .inr (HR.out.2.2.2 i hi)), by rw [hsn, List.length_append, HR.out.2.1]; rfl, hrow3, fun i hi => (hbl3 i hi).elim (HR.out.2.2.2 i) (fun e => Nat.le_trans HR.out.1.size e)⟩)
        clear hsn ht hn3 hrow3 htn3 hbl3
        cases hto : (t.o == o) with
        | false =>
          clear hcnd
          go_wp2_with (at_builtin; refine wpList_append_run (by rfl) (.tmp 45) (.tmp 53) 28 28 (by rfl) _ _ (by rfl) (by rfl) _ _ (hap _) ?_)
          go_roundg (y - (j + 1))
          case measure => omega
          case rel => exact ⟨j + 1, u + 1, f, p3, cap3, rfl, by omega, by have := HUF.out; omega, rfl, rfl, by go_num, HS⟩
        | true =>
          rw [hto, Bool.true_and] at hcnd
          go_wp2_with (at_builtin; refine wpList_append_run (by rfl) (.tmp 45) (.tmp 53) 28 28 (by rfl) _ _ (by rfl) (by rfl) _ _ (hap _) ?_)
          go_roundg (y - (j + 1))
          case measure => omega
          case rel => exact ⟨j + 1, u + 1, f, p3, cap3, rfl, by omega, by have := HUF.out; omega, rfl, rfl, by go_num, HS⟩
    · obtain rfl : j = y := by omega
      have hR := HR.out
      rw [List.take_of_length_le (by rw [HY.out.1]; exact Nat.le_refl _)] at hR
      have HL := Lib.hid hR
      have hf65 : f ≤ 65536 := by omega
      have HUF := Lib.hid huf
      clear hR huf HR
      go_wp2
      go_loopg [8, 9, 11] q (fun z s8 s9 s11 wq => ∃ (i u2 f2 : Nat) (p2 : Option Addr) (cap2 : Nat), z = q - i ∧ i ≤ q ∧ u2 + f2 = i ∧ s8 = .slice p2 u2 cap2 ∧ s9 = .int .i64 ((f + f2 : Nat) : Int) ∧ s11 = .int .i64 (i : Int) ∧ Hid (Turn NoBlock w wq ∧ CRow (.slice pl u cl) (canL Ws o k) wq ∧ (canQ (Q.take i) o k).length = u2 ∧ BRow (.slice p2 u2 cap2) (canQ (Q.take i) o k) wq ∧ ∀ b, Blk (.slice p2 u2 cap2) b → w.heap.size ≤ b))
      case atStart => exact ⟨0, 0, 0, none, 0, rfl, Nat.zero_le _, rfl, rfl, rfl, rfl, Lib.hid ⟨HL.out.1, HL.out.2.2.1, rfl, wrow_nil _ _ _, fun k hk => (blk_nil k hk).elim⟩⟩
      case round =>
        obtain ⟨i, u2, f2, p2, c2, hz2, hi, huf2, rfl, rfl, rfl, HQ⟩ := hrel
        obtain ⟨cc0, cc1⟩ := CC.out _ HQ.out.1
        have hffb : f + f2 ≤ 200000 := by omega
        by_cases hiq : i < q
        · obtain ⟨t, ht⟩ : ∃ t, Q[i]? = some t := ⟨_, List.getElem?_eq_getElem (by rw [HY.out.2.1]; exact hiq)⟩
          obtain ⟨gq, oq, cq', heq, d0, d1, d2⟩ := (HM.out.past HQ.out.1).packet_at ht
          rw [HY.out.2.1] at heq
          simp only [Value.slice.injEq] at heq
          obtain ⟨rfl, -, rfl⟩ := heq
          have hii : (i : Int) < (q : Int) := by omega
          have hsn := canQ_snoc (Q.take i) t o k
          rw [show Q.take i ++ [t] = Q.take (i + 1) by rw [List.take_add_one, ht]; rfl] at hsn
          have HU2 := Lib.hid huf2
          clear huf2
          cases hcnd : ofKey o k t with
          | true =>
            rw [hcnd, if_pos rfl, List.append_nil] at hsn
            unfold ofKey at hcnd
            simp only [Bool.and_eq_true] at hcnd
            obtain ⟨ho0, hso, hkk⟩ := hcnd
            have HS := Lib.hid hsn
            clear hsn ht
            go_wp2
            go_roundg (q - (i + 1))
            case measure => omega
            case rel => exact ⟨i + 1, u2, f2 + 1, p2, c2, rfl, by omega, by have := HU2.out; omega, rfl, by go_num, by go_num, Lib.hid (by rw [HS.out]; exact HQ.out)⟩
          | false =>
            rw [hcnd, if_neg (by simp)] at hsn
            obtain ⟨pa, na, capa, pb, capb, W3, he3, hn3, hap, hrow3, htn3, hbl3⟩ := HQ.out.2.2.2.1.push t (by rw [HQ.out.2.2.1]; have := HU2.out; omega)
            simp only [Value.slice.injEq] at he3
            obtain ⟨rfl, rfl, rfl⟩ := he3
            rw [← hsn] at hrow3
            have HS := Lib.hid (show Turn NoBlock w W3 ∧ CRow (.slice pl u cl) (canL Ws o k) W3 ∧ (canQ (Q.take (i + 1)) o k).length = u2 + 1 ∧ BRow (.slice pb (u2 + 1) capb) (canQ (Q.take (i + 1)) o k) W3 ∧ ∀ b, Blk (.slice pb (u2 + 1) capb) b → w.heap.size ≤ b from
              ⟨HQ.out.1.trans htn3 (fun b hb => .inr (HQ.out.2.2.2.2 b hb)), HQ.out.2.1.kept htn3 (fun b hb hb' => ((WRow.typed HQ.out.2.1 hb).unlike (WRow.typed HQ.out.2.2.2.1 hb') (by decide)) rfl), by rw [hsn, List.length_append, HQ.out.2.2.1]; rfl, hrow3, fun b hb => (hbl3 b hb).elim (HQ.out.2.2.2.2 b) (fun e => Nat.le_trans HQ.out.1.size e)⟩)
            clear hsn ht hn3 hrow3 htn3 hbl3
            cases ho0 : (o != 0) with
            | false =>
              clear hcnd
              go_wp2_with (at_builtin; refine wpList_append_run (by rfl) (.tmp 92) (.tmp 100) 27 27 (by rfl) _ _ (by rfl) (by rfl) _ _ (hap _) ?_)
              go_roundg (q - (i + 1))
              case measure => omega
              case rel => exact ⟨i + 1, u2 + 1, f2, pb, capb, rfl, by omega, by have := HU2.out; omega, rfl, rfl, by go_num, HS⟩
            | true =>
              unfold ofKey at hcnd
              rw [ho0, Bool.true_and] at hcnd
              cases hso : (t.s == o) with
              | false =>
                clear hcnd
                go_wp2_with (at_builtin; refine wpList_append_run (by rfl) (.tmp 92) (.tmp 100) 27 27 (by rfl) _ _ (by rfl) (by rfl) _ _ (hap _) ?_)
                go_roundg (q - (i + 1))
                case measure => omega
                case rel => exact ⟨i + 1, u2 + 1, f2, pb, capb, rfl, by omega, by have := HU2.out; omega, rfl, rfl, by go_num, HS⟩
              | true =>
                rw [hso, Bool.true_and] at hcnd
                go_wp2_with (at_builtin; refine wpList_append_run (by rfl) (.tmp 92) (.tmp 100) 27 27 (by rfl) _ _ (by rfl) (by rfl) _ _ (hap _) ?_)
                go_roundg (q - (i + 1))
                case measure => omega
                case rel => exact ⟨i + 1, u2 + 1, f2, pb, capb, rfl, by omega, by have := HU2.out; omega, rfl, rfl, by go_num, HS⟩
        · obtain rfl : i = q := by omega
          have hQ := HQ.out
          rw [List.take_of_length_le (by rw [HY.out.2.1]; exact Nat.le_refl _)] at hQ
          obtain ⟨e1, f1, e2, f2', gM⟩ := HM.out.set2 hQ.1 hQ.2.1 hQ.2.2.2.1 HL.out.2.2.2 hQ.2.2.2.2
          have hcm : canM Q Ws o k = f + f2 := by
            unfold canM
            have h1 := HY.out.2.2
            have h2 := HL.out.2.1
            have h3 := HUF.out
            have h4 := hQ.2.2.1
            have h5 := HY.out.1
            have h6 := HY.out.2.1
            unfold goneN
            omega
          have HG := Lib.hid (And.intro gM hcm)
          clear hQ gM hcm
          by_cases h0 : f + f2 = 0
          · obtain rfl : f = 0 := by omega
            obtain rfl : f2 = 0 := by omega
            go_wp2
            go_ret
            exact ⟨ret_int (by unfold canR; rw [HG.out.2]; rfl), HG.out.1⟩
          · have h00 : (((f + f2 : Nat) : Int) == 0) = false := by simp; omega
            have h01 : ((f : Int) + (f2 : Int) == 0) = false := by simp; omega
            have HN0 := Lib.hid h0
            clear h0
            go_wp2
            go_ret
            exact ⟨ret_int (by unfold canR; rw [HG.out.2, if_neg HN0.out]), HG.out.1⟩
end
end Go.Proofs.Ytcnellkoejhofaa
