/-
  An entry goes up or down till it stands where it may. Conditions: the timers are some that calls can make; all others stand as they may.
-/
import Derived.Test.YtcbphfpfdfgehaaTSwap
import Derived.WalkMore
namespace Go.Proofs.Ytcbphfpfdfgehaa
open Go.ChangeShapes Go.WideShapes Go.ChangeAt Go.RowKit

theorem belE_cases (H : List En) (i : Nat) : (belE H i = i ∧ H.length ≤ 2 * i + 1) ∨ (belE H i < H.length ∧ 0 < belE H i ∧ (belE H i - 1) / 2 = i ∧ ∀ c, 0 < c → c < H.length → (c - 1) / 2 = i → fH H (belE H i) ≤ fH H c) := by
  unfold belE
  by_cases h1 : H.length ≤ 2 * i + 1
  · rw [if_pos h1]
    exact .inl ⟨rfl, h1⟩
  · rw [if_neg h1]
    right
    by_cases h2 : 2 * i + 2 < H.length ∧ fH H (2 * i + 2) < fH H (2 * i + 1)
    · rw [if_pos h2]
      refine ⟨h2.1, by omega, by omega, fun c h3 h4 h5 => ?_⟩
      rcases (by omega : c = 2 * i + 1 ∨ c = 2 * i + 2) with rfl | rfl
      · omega
      · exact Nat.le_refl _
    · rw [if_neg h2]
      refine ⟨by omega, by omega, by omega, fun c h3 h4 h5 => ?_⟩
      rcases (by omega : c = 2 * i + 1 ∨ c = 2 * i + 2) with rfl | rfl
      · exact Nat.le_refl _
      · have := fun e => h2 ⟨h4, e⟩
        omega
/-- What is kept on the way. -/
def SInv (f : Nat → Nat) (n i z : Nat) : Prop := (UpInv f n i ∧ i < z) ∨ (DownInv f n i ∧ n - i < z)
theorem sw_comm (f : Nat → Nat) {i j : Nat} (h : i ≠ j) : sw f i j = sw f j i := by
  funext k
  unfold sw
  by_cases h1 : k = j
  · subst h1; rw [if_pos rfl, if_neg (fun e => h e.symm), if_pos rfl]
  · rw [if_neg h1]
    by_cases h2 : k = i
    · subst h2; rw [if_pos rfl, if_pos rfl]
    · rw [if_neg h2, if_neg h2, if_neg h1]
theorem settle_step (H : List En) (i z : Nat) (hi : i < H.length) (h : SInv (fH H) H.length i z) :
    (fH H i < fH H ((i - 1) / 2) ∧ ∃ y, y < z ∧ SInv (fH (swE H i ((i - 1) / 2))) H.length ((i - 1) / 2) y) ∨
    (¬ fH H i < fH H ((i - 1) / 2) ∧ fH H (belE H i) < fH H i ∧ belE H i < H.length ∧ ∃ y, y < z ∧ SInv (fH (swE H i (belE H i))) H.length (belE H i) y) ∨
    (¬ fH H i < fH H ((i - 1) / 2) ∧ ¬ fH H (belE H i) < fH H i ∧ belE H i < H.length ∧ HeapN (fH H) H.length) := by
  rcases h with ⟨h, hz⟩ | ⟨h, hz⟩
  · by_cases h1 : fH H i < fH H ((i - 1) / 2)
    · have h0 : 0 < i := by
        rcases Nat.eq_zero_or_pos i with e | e
        · subst e; exact absurd h1 (Nat.lt_irrefl _)
        · exact e
      refine .inl ⟨h1, z - 1, by omega, .inl ⟨?_, by omega⟩⟩
      rw [swE_f H hi (by omega), sw_comm _ (by omega)]
      exact up_step h h0 hi rfl h1
    · have hh := up_end h (by omega)
      refine .inr (.inr ⟨h1, ?_, ?_, hh⟩)
      · rcases belE_cases H i with ⟨e, _⟩ | ⟨a1, a2, a3, _⟩
        · rw [e]; exact Nat.lt_irrefl _
        · have := hh _ a2 a1
          rw [a3] at this
          omega
      · rcases belE_cases H i with ⟨e, _⟩ | ⟨a1, _⟩
        · rw [e]; exact hi
        · exact a1
  · have h1 : ¬ fH H i < fH H ((i - 1) / 2) := by
      rcases Nat.eq_zero_or_pos i with e | e
      · subst e; exact Nat.lt_irrefl _
      · have := h.rest i e hi (by omega)
        omega
    rcases belE_cases H i with ⟨e, hl⟩ | ⟨a1, a2, a3, a4⟩
    · refine .inr (.inr ⟨h1, by rw [e]; exact Nat.lt_irrefl _, by rw [e]; exact hi, down_end h hl⟩)
    · by_cases h2 : fH H (belE H i) < fH H i
      · refine .inr (.inl ⟨h1, h2, a1, z - 1, by omega, .inr ⟨?_, by omega⟩⟩)
        rw [swE_f H hi a1]
        exact down_step h a1 a3 a2 a4 h2
      · exact .inr (.inr ⟨h1, h2, a1, down_stop h a4 (by omega)⟩)
/-- The cells that a test reads. -/
def SC (W : World) (c g o n cap i j : Nat) (ei ej : En) : Prop := W.cell? ⟨c, 2, none⟩ = some (.slice (some ⟨g, o, none⟩) n cap) ∧ W.cell? ⟨g, o + i * 2, none⟩ = some (.int .i64 ei.k) ∧ W.cell? ⟨g, o + i * 2 + 1, none⟩ = some (.int .i64 ei.d) ∧ W.cell? ⟨g, o + j * 2, none⟩ = some (.int .i64 ej.k) ∧ W.cell? ⟨g, o + j * 2 + 1, none⟩ = some (.int .i64 ej.d)
theorem sc_of {w W : World} {c b g o n cap i j : Nat} {most now : Int} {H : List En} {P : Int → Option Int} (h : TM w c most now (.slice (some ⟨g, o, none⟩) n cap) b H P) (t : Turn NoBlock w W) (hi : i < H.length) (hj : j < H.length) : SC W c g o n cap i j (eAt H i) (eAt H j) :=
  have q1 := h.row.two hi
  have q2 := h.row.two hj
  ⟨t.cell h.c2 (fun h => h), t.cell q1.1 (fun h => h), t.cell q1.2 (fun h => h), t.cell q2.1 (fun h => h), t.cell q2.2 (fun h => h)⟩

set_option maxRecDepth 100000 in
set_option maxHeartbeats 4000000 in
theorem settle_any {w : World} {c b : Nat} {most now : Int} {v : Value} {H : List En} {P : Int → Option Int} (h : TM w c most now v b H P) (i : Nat) (hi : i < H.length) (ha : AnyInv (fH H) H.length i) :
    Calls Try.prog 58 #[.pointer (some ⟨c, 0, none⟩), .int .i64 (i : Int)] w fun x w' => x = .returned (.tuple #[]) ∧ (∃ H' P', H'.Perm H ∧ TM w' c most now v b H' P' ∧ HeapN (fH H') H'.length) ∧ Turn (TFoot c v b) w w' := by
  obtain ⟨g, o, cap, hv, -⟩ := WRow.shape h.row (by omega)
  obtain ⟨n, hn⟩ : ∃ n, H.length = n := ⟨_, rfl⟩
  rw [hn] at hv
  subst hv
  have hln := h.len
  rw [hn] at hln
  have HA := Lib.hid (show SInv (fH H) n i (n + 1) from by rw [← hn]; exact (ha.split hi).elim (fun h1 => .inl ⟨h1, by omega⟩) (fun h1 => .inr ⟨h1, by omega⟩))
  have HT := Lib.hid h
  have HN := Lib.hid hn
  rw [hn] at hi
  clear h ha hn
  go_enter Try.func58, Try.ntmps58
  go_wp2; go_step3; go_wp2; go_step3; go_wp2
  go_loopg [1] (n + 1) (fun z s1 wr => ∃ (zz i : Nat) (H' : List En) (P' : Int → Option Int), z = zz ∧ s1 = .int .i64 (i : Int) ∧ i < n ∧ Hid (H'.Perm H ∧ H'.length = n ∧ SInv (fH H') n i zz ∧ TM wr c most now (.slice (some ⟨g, o, none⟩) n cap) b H' P' ∧ Turn (TFoot c (.slice (some ⟨g, o, none⟩) n cap) b) w wr))
  case atStart => exact ⟨n + 1, i, H, P, rfl, rfl, hi, Lib.hid ⟨List.Perm.refl _, HN.out, HA.out, HT.out, Turn.refl _ _⟩⟩
  case round =>
    obtain ⟨z, i, H', P', hz, rfl, hi, HR⟩ := hrel
    obtain ⟨WR, hWR⟩ : ∃ WR, WR = wr := ⟨_, rfl⟩
    have hl' := HR.out.2.1
    have hfit := HR.out.2.2.2.1.fits
    obtain ⟨u, hu⟩ : ∃ u, (i - 1) / 2 = u := ⟨_, rfl⟩
    obtain ⟨d, hd⟩ : ∃ d, belE H' i = d := ⟨_, rfl⟩
    have hun : u < n := by omega
    have hst := settle_step H' i z (by omega) (by rw [hl']; exact HR.out.2.2.1)
    rw [hu, hd, hl'] at hst
    have CA := Lib.hid (fun W => above_any i (by omega) W)
    have CB := Lib.hid (below_any HR.out.2.2.2.1 i (by omega))
    rw [hu] at CA
    rw [hd] at CB
    have n1 := ordI_neg (hfit _ (eAt_mem (i := i) (by omega))) (hfit _ (eAt_mem (i := u) (by omega)))
    have hin : (i : Int) < (n : Int) := by omega
    have huni : (u : Int) < (n : Int) := by omega
    have KU := Lib.hid (fun (W : World) (t : Turn NoBlock wr W) => sc_of HR.out.2.2.2.1 t (show i < H'.length by omega) (show u < H'.length by omega))
    have CU := Lib.hid (fun W => order_turn (eAt H' i) (eAt H' u) W)
    have HD := Lib.hid (show d < n from by rcases belE_cases H' i with ⟨e, _⟩ | ⟨e, _⟩ <;> omega)
    obtain ⟨y1, hy1⟩ : ∃ y, ordI (eAt H' i) (eAt H' u) = y := ⟨_, rfl⟩
    rw [hy1] at n1 CU
    obtain ⟨ei, hei⟩ : ∃ e, eAt H' i = e := ⟨_, rfl⟩
    obtain ⟨eu, heu⟩ : ∃ e, eAt H' u = e := ⟨_, rfl⟩
    obtain ⟨ed, hed⟩ : ∃ e, eAt H' d = e := ⟨_, rfl⟩
    rw [hei, heu] at CU KU
    have CU' := Lib.hid (show ∀ (W : World), Calls Try.prog 62 #[.agg #[.int .i64 ei.k, .int .i64 ei.d], .agg #[.int .i64 eu.k, .int .i64 eu.d]] W fun e w' => e = .returned (.int .i64 y1) ∧ Turn NoBlock W w' from CU.out)
    rcases hst with ⟨s1, y, hyz, s2⟩ | ⟨s1, s2, s3, y, hyz, s4⟩ | ⟨s1, s2, s3, s4⟩
    · have hA : decide (y1 < 0) = true := n1.trans (decide_eq_true s1)
      have HS := Lib.hid (fun (W : World) (t : Turn NoBlock wr W) => swap_any (HR.out.2.2.2.1.past t) i u (by omega) (by omega))
      have HZ := Lib.hid s2
      clear hl' hfit hu hd n1 hy1 hei heu hed CU s1 s2
      go_wp2_with (first
        | (go_at_call 75; (with_reducible refine (CA.out _).mono ?_); rintro e w2 ⟨rfl, rfl⟩)
        | (go_at_call 76; (with_reducible refine CB.out.mono ?_); rintro e w3 ⟨rfl, t3⟩; have K3 := KU.out _ t3.drew; have T3 := Lib.hid t3; clear t3))
      go_region_held3 (fun W : World => W.cell? ⟨c, 2, none⟩ = some (.slice (some ⟨g, o, none⟩) n cap) ∧ W.cell? ⟨g, o + i * 2, none⟩ = some (.int .i64 ei.k) ∧ W.cell? ⟨g, o + i * 2 + 1, none⟩ = some (.int .i64 ei.d) ∧ W.cell? ⟨g, o + u * 2, none⟩ = some (.int .i64 eu.k) ∧ W.cell? ⟨g, o + u * 2 + 1, none⟩ = some (.int .i64 eu.d)) (first | exact K3 | exact S4.out) (first
        | (go_at_call 62; (with_reducible refine (CU'.out _).mono ?_); rintro e w4 ⟨rfl, t4⟩; have T4 := Lib.hid (TT T3.out.drew t4); have S4 := Lib.hid (KU.out _ T4.out)))
      go_wp2_with (first
        | (go_at_call 74; (with_reducible refine (HS.out _ T4.out).mono ?_); rintro e w5 ⟨rfl, m5, t5⟩))
      obtain ⟨P5, m5⟩ := m5
      go_roundg y
      case measure => omega
      case rel =>
        have hp := HR.out
        exact ⟨y, u, swE H' i u, P5, rfl, rfl, hun, Lib.hid ⟨(swE_perm H' (by omega) (by omega)).trans hp.1, by rw [swE_len]; exact hp.2.1, HZ.out, m5, (hp.2.2.2.2.trans T4.out (fun _ h => h.elim)).trans t5 (fun _ h => .inl h)⟩⟩
    · have hA : decide (y1 < 0) = false := n1.trans (decide_eq_false s1)
      have n2 := ordI_neg (hfit _ (eAt_mem (i := d) (by omega))) (hfit _ (eAt_mem (i := i) (by omega)))
      have KD := Lib.hid (fun (W : World) (t : Turn NoBlock wr W) => sc_of HR.out.2.2.2.1 t (show d < H'.length by omega) (show i < H'.length by omega))
      have CD := Lib.hid (fun W => order_turn (eAt H' d) (eAt H' i) W)
      obtain ⟨y2, hy2⟩ : ∃ y, ordI (eAt H' d) (eAt H' i) = y := ⟨_, rfl⟩
      rw [hy2] at n2 CD
      rw [hed, hei] at CD KD
      have CD' := Lib.hid (show ∀ (W : World), Calls Try.prog 62 #[.agg #[.int .i64 ed.k, .int .i64 ed.d], .agg #[.int .i64 ei.k, .int .i64 ei.d]] W fun e w' => e = .returned (.int .i64 y2) ∧ Turn NoBlock W w' from CD.out)
      have hB : decide (y2 < 0) = true := n2.trans (decide_eq_true s2)
      have HS := Lib.hid (fun (W : World) (t : Turn NoBlock wr W) => swap_any (HR.out.2.2.2.1.past t) i d (by omega) (by omega))
      have HZ := Lib.hid s4
      have hdn : (d : Int) < (n : Int) := by omega
      clear hl' hfit hu hd n1 n2 hy1 hy2 hei heu hed CU CD s1 s2 s3 s4
      go_wp2_with (first
        | (go_at_call 75; (with_reducible refine (CA.out _).mono ?_); rintro e w2 ⟨rfl, rfl⟩)
        | (go_at_call 76; (with_reducible refine CB.out.mono ?_); rintro e w3 ⟨rfl, t3⟩; have K3 := KU.out _ t3.drew; have T3 := Lib.hid t3; clear t3))
      go_region_held3 (fun W : World => W.cell? ⟨c, 2, none⟩ = some (.slice (some ⟨g, o, none⟩) n cap) ∧ W.cell? ⟨g, o + i * 2, none⟩ = some (.int .i64 ei.k) ∧ W.cell? ⟨g, o + i * 2 + 1, none⟩ = some (.int .i64 ei.d) ∧ W.cell? ⟨g, o + u * 2, none⟩ = some (.int .i64 eu.k) ∧ W.cell? ⟨g, o + u * 2 + 1, none⟩ = some (.int .i64 eu.d)) (first | exact K3 | exact S4.out) (first
        | (go_at_call 62; (with_reducible refine (CU'.out _).mono ?_); rintro e w4 ⟨rfl, t4⟩; have T4 := Lib.hid (TT T3.out.drew t4); have S4 := Lib.hid (KU.out _ T4.out)))
      have K5 := KD.out _ T4.out.drew
      go_wp2
      go_region_held3 (fun W : World => W.cell? ⟨c, 2, none⟩ = some (.slice (some ⟨g, o, none⟩) n cap) ∧ W.cell? ⟨g, o + d * 2, none⟩ = some (.int .i64 ed.k) ∧ W.cell? ⟨g, o + d * 2 + 1, none⟩ = some (.int .i64 ed.d) ∧ W.cell? ⟨g, o + i * 2, none⟩ = some (.int .i64 ei.k) ∧ W.cell? ⟨g, o + i * 2 + 1, none⟩ = some (.int .i64 ei.d)) (first | exact K5 | exact S6.out) (first
        | (go_at_call 62; (with_reducible refine (CD'.out _).mono ?_); rintro e w6 ⟨rfl, t6⟩; have T6 := Lib.hid (TT T4.out.drew t6); have S6 := Lib.hid (KD.out _ T6.out)))
      go_wp2_with (first
        | (go_at_call 74; (with_reducible refine (HS.out _ T6.out).mono ?_); rintro e w7 ⟨rfl, m7, t7⟩))
      obtain ⟨P7, m7⟩ := m7
      go_roundg y
      case measure => omega
      case rel =>
        have hp := HR.out
        exact ⟨y, d, swE H' i d, P7, rfl, rfl, HD.out, Lib.hid ⟨(swE_perm H' (by omega) (by have := HD.out; omega)).trans hp.1, by rw [swE_len]; exact hp.2.1, HZ.out, m7, (hp.2.2.2.2.trans T6.out (fun _ h => h.elim)).trans t7 (fun _ h => .inl h)⟩⟩
    · have hA : decide (y1 < 0) = false := n1.trans (decide_eq_false s1)
      have n2 := ordI_neg (hfit _ (eAt_mem (i := d) (by omega))) (hfit _ (eAt_mem (i := i) (by omega)))
      have KD := Lib.hid (fun (W : World) (t : Turn NoBlock wr W) => sc_of HR.out.2.2.2.1 t (show d < H'.length by omega) (show i < H'.length by omega))
      have CD := Lib.hid (fun W => order_turn (eAt H' d) (eAt H' i) W)
      obtain ⟨y2, hy2⟩ : ∃ y, ordI (eAt H' d) (eAt H' i) = y := ⟨_, rfl⟩
      rw [hy2] at n2 CD
      rw [hed, hei] at CD KD
      have CD' := Lib.hid (show ∀ (W : World), Calls Try.prog 62 #[.agg #[.int .i64 ed.k, .int .i64 ed.d], .agg #[.int .i64 ei.k, .int .i64 ei.d]] W fun e w' => e = .returned (.int .i64 y2) ∧ Turn NoBlock W w' from CD.out)
      have hB : decide (y2 < 0) = false := n2.trans (decide_eq_false s2)
      have HZ := Lib.hid s4
      have hdn : (d : Int) < (n : Int) := by omega
      clear hl' hfit hu hd n1 n2 hy1 hy2 hei heu hed CU CD s1 s2 s3 s4
      go_wp2_with (first
        | (go_at_call 75; (with_reducible refine (CA.out _).mono ?_); rintro e w2 ⟨rfl, rfl⟩)
        | (go_at_call 76; (with_reducible refine CB.out.mono ?_); rintro e w3 ⟨rfl, t3⟩; have K3 := KU.out _ t3.drew; have T3 := Lib.hid t3; clear t3))
      go_region_held3 (fun W : World => W.cell? ⟨c, 2, none⟩ = some (.slice (some ⟨g, o, none⟩) n cap) ∧ W.cell? ⟨g, o + i * 2, none⟩ = some (.int .i64 ei.k) ∧ W.cell? ⟨g, o + i * 2 + 1, none⟩ = some (.int .i64 ei.d) ∧ W.cell? ⟨g, o + u * 2, none⟩ = some (.int .i64 eu.k) ∧ W.cell? ⟨g, o + u * 2 + 1, none⟩ = some (.int .i64 eu.d)) (first | exact K3 | exact S4.out) (first
        | (go_at_call 62; (with_reducible refine (CU'.out _).mono ?_); rintro e w4 ⟨rfl, t4⟩; have T4 := Lib.hid (TT T3.out.drew t4); have S4 := Lib.hid (KU.out _ T4.out)))
      have K5 := KD.out _ T4.out.drew
      go_wp2
      go_region_held3 (fun W : World => W.cell? ⟨c, 2, none⟩ = some (.slice (some ⟨g, o, none⟩) n cap) ∧ W.cell? ⟨g, o + d * 2, none⟩ = some (.int .i64 ed.k) ∧ W.cell? ⟨g, o + d * 2 + 1, none⟩ = some (.int .i64 ed.d) ∧ W.cell? ⟨g, o + i * 2, none⟩ = some (.int .i64 ei.k) ∧ W.cell? ⟨g, o + i * 2 + 1, none⟩ = some (.int .i64 ei.d)) (first | exact K5 | exact S6.out) (first
        | (go_at_call 62; (with_reducible refine (CD'.out _).mono ?_); rintro e w6 ⟨rfl, t6⟩; have T6 := Lib.hid (TT T4.out.drew t6); have S6 := Lib.hid (KD.out _ T6.out)))
      go_wp2
      rw [Exit.noGoto_normal]
      go_end0
      have hp := HR.out
      exact ⟨rfl, ⟨H', P', hp.1, hp.2.2.2.1.past T6.out, by rw [hp.2.1]; exact HZ.out⟩, hp.2.2.2.2.trans T6.out (fun _ h => h.elim)⟩
end Go.Proofs.Ytcbphfpfdfgehaa
