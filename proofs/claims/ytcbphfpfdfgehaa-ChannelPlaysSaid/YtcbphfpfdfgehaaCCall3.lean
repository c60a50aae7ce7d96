/-
  What Call answers where nobody bars it, and what it makes of the channel. No conditions but that the channel is one that calls can make.
-/
import Derived.Test.YtcbphfpfdfgehaaCCall2
namespace Go.Proofs.Ytcbphfpfdfgehaa
open Go.ChangeShapes Go.WideShapes Go.ChangeAt Go.RowKit Go.Shelf

attribute [local go_sem] Oper.semAt_some

section
variable {w : World} {c depth N : Nat} {S : Nat → Sd} {V : Nat → SV}
theorem plane_ws {S' : Nat → Sd} {K' : Nat → MS} {e : Nat} {t : Wt} (h : planeOf S' = K') : planeOf (updN S' e { S' e with ws := (S' e).ws ++ [t] }) = updN K' e ⟨(K' e).op, (K' e).q, (K' e).ws ++ [t]⟩ := by
  subst h
  rw [plane_upd]
  rfl
/-- Blocks of the call's own turn beside. -/
theorem Made.beside {X Z Z' : World} {M : Nat} {G : Nat → Prop} {K' : Nat → MS} (h : Made X Z c depth M S V K') (t0 : Turn NoBlock w X) (hC : CMem w c depth N S V) (t : Turn G Z Z') (hG : ∀ i, G i → w.heap.size ≤ i ∧ i < X.heap.size) : Made w Z' c depth M S V K' := by
  obtain ⟨S', V', h1, h2, h3, h4⟩ := h
  refine ⟨S', V', h1.kept t (fun k hk hg => ?_), h2, ((TU t0).trans h3 (fun _ h => .inl h)).trans t (fun i hi => .inr (hG i hi).1), fun k hk => ?_⟩
  · have := hG k hg
    rcases h4 k hk with h5 | h5
    · have := hC.lt h5; omega
    · omega
  · rcases h4 k hk with h5 | h5
    · exact .inl h5
    · right; have := t0.size; omega
set_option maxRecDepth 100000 in
set_option maxHeartbeats 4000000 in
theorem call_ok0 (hC : CMem w c depth N S V) (hN : N ≤ 1000000) (ho : (S 0).op = true) (k : Int) (tx : Int) (htx : tx ≠ 0) (hk : ¬ k < 0) (hno : NoBar 0 k tx (waitL S 0)) (vd vh : Value) (hd : ∃ p n c, vd = .slice p n c) (hh : ∃ p n c, vh = .slice p n c) (n : Int) (K' : Nat → MS) (hop : (K' 0).op = true)
    (cW : ∀ W, Turn NoBlock w W → Calls Try.prog 36 #[.pointer (some ⟨c, 0, none⟩), .int .i64 0, .agg #[.int .i64 tx, vd, vh]] W fun x w' => x = .returned (.tuple #[.int .i64 n, .int .i64 0]) ∧ Made W w' c depth (N + 1) S V K') :
    Calls Try.prog 42 #[.pointer (some ⟨c, 0, none⟩), .int .i64 0, .int .i64 k, .agg #[.int .i64 tx, vd, vh]] w fun x w' => x = .returned (.int .i64 0) ∧ Made w w' c depth (N + 2) S V (updN K' 0 ⟨(K' 0).op, (K' 0).q, (K' 0).ws ++ [⟨k, tx⟩]⟩) := by
  have HC := Lib.hid (fun W (t : Turn NoBlock w W) => show Calls Try.prog 48 #[.pointer (some ⟨c, 0, none⟩), .int .i64 0] W _ from right_yes (hC.past t) (e := 0) (by omega) ho)
  obtain ⟨p1, n1, c1, rfl⟩ := hd
  obtain ⟨p2, n2, c2, rfl⟩ := hh
  have HX := Lib.hid hno
  have CW := Lib.hid cW
  have HOP := Lib.hid hop
  have HM := Lib.hid (fun W (t : Turn NoBlock w W) => hC.past t)
  have HN := Lib.hid hN
  have h0 : (tx == 0) = false := beq_eq_false_iff_ne.2 htx
  clear hC ho hno htx hN cW hop
  refine (callsIn_wide (n := 6)).1 ?_
  refine callsIn_of_wp_marks (F := Fence.wide) Try.func42 rfl trivial ?_ rfl
  simp only [Try.ntmps42, List.size_toArray, List.length_cons, List.length_nil, Nat.reduceAdd, Nat.reduceSub, Array.replicate_succ, Array.replicate_zero, List.push_toArray, List.append_toArray, List.nil_append, List.cons_append]
  gi_wp2_with (first
    | (refine ⟨trivial, ?_⟩; gi_at_call 48; refine (callsIn_wide.2 (HC.out _ (((((Turn.refl NoBlock w).alloc _).alloc _).alloc _).alloc _))).mono ?_; rintro e w' ⟨rfl, rfl⟩)
    | (refine ⟨trivial, ?_⟩; gi_at_call 70; refine (callsIn_wide.2 (waiting_any _ c 0)).mono ?_; rintro e w' ⟨rfl, rfl⟩))
  obtain ⟨E, hE⟩ : ∃ E, w.heap.size = E := ⟨_, rfl⟩
  obtain ⟨W0, hW0, hcb, hb4, hb5, hsz, hT⟩ := cb_new w 0 k tx (.slice p1 n1 c1) (.slice p2 n2 c2) c
  simp only [hE, Nat.add_assoc, Nat.reduceAdd]
  rw [hW0]
  rw [hE] at hcb hb4 hb5 hsz
  have hQ0 : WSees (E + 5) (E + 4) 0 c depth N S V W0 := ⟨hb5, hb4, HM.out W0 hT⟩
  clear hW0
  refine range2 (gf := 82) (lb := #[.pointer (some ⟨E + 5, 0, none⟩), .pointer (some ⟨E + 4, 0, none⟩)]) rfl (enters_of Try.func82 (by kernel_rfl) rfl)
    (wait_gives0 (E + 5) (E + 4) c depth N S V (by have := HN.out; omega)) (fun _ => rfl)
    (fun pre X => NoBar 0 k tx pre ∧ WSees (E + 5) (E + 4) 0 c depth N S V X ∧ Turn NoBlock w X ∧ CB X E 0 k tx (.slice p1 n1 c1) (.slice p2 n2 c2))
    (fun _ _ _ => False) ?hI ?hIx (fun _ _ h => h.2.1) ⟨fun x hx => by simp at hx, hQ0, hT, hcb⟩
    (fun x a' X => ∃ Bx, E + 6 ≤ Bx ∧ X.heap[Bx]? = some (.cells #[.int .i64 x.2.who, .int .i64 x.2.tx] 126 (0, 0)) ∧ a' = { tmps := (.pointer (some ⟨c, 0, none⟩) :: .int .i64 0 :: .int .i64 k :: .agg #[.int .i64 tx, .slice p1 n1 c1, .slice p2 n2 c2] :: undef :: .pointer (some ⟨E, 0, none⟩) :: .pointer (some ⟨E + 1, 0, none⟩) :: .pointer (some ⟨E + 2, 0, none⟩) :: .pointer (some ⟨E + 3, 0, none⟩) :: .int .i64 0 :: .int .i64 (x.1 : Int) :: .pointer (some ⟨Bx, 0, none⟩) :: undef :: undef :: .pointer (some ⟨c, 0, none⟩) :: .int .i64 0 :: .int .i64 0 :: .int .i64 0 :: .bool false :: undef :: .pointer (some ⟨E + 2, 0, none⟩) :: .int .i64 tx :: .bool false :: .bool false :: .int .i64 k :: .bool (decide (k < 0)) :: .bool (decide (k < 0)) :: .pointer (some ⟨c, 0, none⟩) :: .int .i64 0 :: .func (.func 82) #[] #[.pointer (some ⟨E + 5, 0, none⟩), .pointer (some ⟨E + 4, 0, none⟩)] :: .int .i64 (x.1 : Int) :: x.2.agg :: undef :: undef :: undef :: undef :: undef :: undef :: undef :: undef :: undef :: undef :: undef :: undef :: undef :: undef :: undef :: undef :: undef :: undef :: undef :: undef :: undef :: undef :: undef :: undef :: undef :: undef :: undef :: undef :: undef :: undef :: undef :: undef :: undef :: undef :: undef :: undef :: undef :: undef :: undef :: undef :: undef :: undef :: undef :: undef :: undef :: [] : List Value).toArray, defers := [] }) ?hAx ?assign ?body ?done ?stop
  case hI =>
    rintro pre X Y row ⟨hn, hq, ht, hr0⟩ hg hr
    exact ⟨hn, hq.grown hQ0 hg (fun r e => (hr r e).1), ht.grown hg (fun r e => .inr (by have := (hr r e).1; omega)), hr0.kept (turn_of_grown hg) (fun i h1 h2 e => by have := (hr i e).1; omega)⟩
  case hIx => exact fun _ _ _ _ _ hs _ _ => hs
  case hAx =>
    rintro x a' - X Y row ⟨Bx, hlt, hb, rfl⟩ hg hr
    exact ⟨Bx, hlt, heap_nocell hb hg (fun r e => (hr r e).2), rfl⟩
  case assign =>
    rintro l pre ⟨a, t⟩ X K ⟨hn, hq, ht, hr0⟩ - hX hK
    have HK := Lib.hid hK
    have HI := Lib.hid (And.intro hn (And.intro hq (And.intro ht (And.intro hr0 (And.intro hX hsz)))))
    unfold wEnc Wt.agg
    clear hn hq ht hr0 hX hK hE hQ0 hT hcb hb4 hb5 hsz
    gi_wp2
    have ta : Turn NoBlock X (X.alloc (.cells #[.int .i64 t.who, .int .i64 t.tx] 126)) := (Turn.refl _ X).alloc _
    refine HK.out _ _ (KeepsAll.of_turn ta (fun _ h => h.elim)) ⟨HI.out.1, HI.out.2.1.kept ta (fun _ _ h => h), TT HI.out.2.2.1 ta, HI.out.2.2.2.1.kept ta (fun _ _ _ h => h)⟩ ⟨X.heap.size, ?_, ?_, ?_⟩
    · have := HI.out.2.2.2.2; omega
    · rw [heap_alloc_new]
    · rfl
  case body =>
    rintro l pre ⟨a, t⟩ a' X hX ⟨hn, hq, ht, hr0⟩ ⟨Bx, hBx, hbx2, rfl⟩ ⟨⟨ha, hmem⟩, -⟩
    have e0 : X.cell? ⟨E, 0, none⟩ = some (.int .i64 0) := by rw [cell_at hr0.b0]; rfl
    have e1 : X.cell? ⟨E + 1, 0, none⟩ = some (.int .i64 k) := by rw [cell_at hr0.b1]; rfl
    have e2 : X.cell? ⟨E + 2, 0, none⟩ = some (.int .i64 tx) := by rw [cell_at hr0.b2]; rfl
    have x0 : X.cell? ⟨Bx, 0, none⟩ = some (.int .i64 t.who) := by rw [cell_at hbx2]; rfl
    have x1 : X.cell? ⟨Bx, 1, none⟩ = some (.int .i64 t.tx) := by rw [cell_at hbx2]; rfl
    have ha2 : a = 0 ∨ a = 1 := by omega
    have hnb : ¬ Bars 0 k tx (a, t) := HX.out (a, t) (by
      unfold waitL oth
      rcases ha2 with rfl | rfl
      · exact List.mem_append_left _ (List.mem_map.2 ⟨t, hmem, rfl⟩)
      · exact List.mem_append_right _ (List.mem_map.2 ⟨t, hmem, rfl⟩))
    have HI := Lib.hid (And.intro hn (And.intro hq (And.intro ht hr0)))
    have HNB := Lib.hid hnb
    have hwb : (t.who == k) = false := beq_eq_false_iff_ne.2 (fun h => hnb (.inl h))
    unfold Wt.agg
    rcases ha2 with rfl | rfl
    · have hxb : (t.tx == tx) = false := beq_eq_false_iff_ne.2 (fun h => hnb (.inr ⟨rfl, h⟩))
      simp only [z0]
      clear hn hq ht hr0 hX hbx2 hE hQ0 hT hcb hb4 hb5 hsz hnb hmem ha
      gi_wp2
      exact ⟨KeepsAll.refl _ _, HI.out.1.snoc HNB.out, HI.out.2⟩
    · simp only [z1]
      clear hn hq ht hr0 hX hbx2 hE hQ0 hT hcb hb4 hb5 hsz hnb hmem ha
      gi_wp2
      exact ⟨KeepsAll.refl _ _, HI.out.1.snoc HNB.out, HI.out.2⟩
  case done =>
    rintro D xs X hD - ⟨-, -, ht, hr0⟩ hK
    have e0 : X.cell? ⟨E, 0, none⟩ = some (.int .i64 0) := by rw [cell_at hr0.b0]; rfl
    obtain ⟨m0, m1, m2⟩ := box3 hr0.b2
    have hltE : ∀ i, CFoot c S V i → i < E := fun i hi => by rw [← hE]; exact (HM.out w (Turn.refl _ _)).lt hi
    have HI := Lib.hid (And.intro ht (And.intro hr0 (And.intro hD (And.intro hE (And.intro hsz hltE)))))
    have HK := Lib.hid hK
    clear ht hr0 hD hE hsz hK hQ0 hT hcb hb4 hb5 hltE
    gi_wp2_with (refine ⟨trivial, ?_⟩; gi_at_call 36; refine (callsIn_wide.2 (CW.out X HI.out.1)).mono ?_; rintro x Y ⟨rfl, hmd⟩; have MD := Lib.hid hmd; clear hmd)
    rename_i K0 aK0
    have Hst := Lib.hid (And.intro HM.out (And.intro HN.out HI.out))
    obtain ⟨S', V', hC', hP', ht', hf'⟩ := MD.out
    have hcb' := HI.out.2.1.kept ht' (fun i h1 h2 e => by have := HI.out.2.2.2.2.2 i e; have := HI.out.2.2.2.1; omega)
    have hXs : E + 3 < X.heap.size := lt_of_block HI.out.2.1.b3
    have hYs := ht'.size
    have hlt' : ∀ i, CFoot c S' V' i → i < E ∨ E + 3 < i := fun i hi => by rcases hf' i hi with h | h; exact .inl (HI.out.2.2.2.2.2 i h); right; omega
    have hop' : (S' 0).op = true := by have := HOP.out; rw [← hP'] at this; exact this
    obtain ⟨pw, cw, hvw⟩ := (hC'.s 0 (by omega)).rowW.sl
    have o3 : Y.cell? ⟨c, 4, none⟩ = some (V' 0).w := (hC'.s 0 (by omega)).c3
    have z3 := (hC'.s 0 (by omega)).f (1 + 3)
    simp only [Nat.reduceAdd] at o3 z3
    rw [hvw] at o3
    obtain ⟨iW, hiW, hzW, hsW, hbW⟩ := info_parts infoW
    have hrow := (hC'.s 0 (by omega)).rowW
    rw [hvw] at hrow
    have hcc := blk_typed hrow (hC'.s 0 (by omega)).typ (by decide)
    have hlw := (hC'.len 0 (by omega)).2.2
    have hcl := (hC'.s 0 (by omega)).typ.lt
    have hbl : ∀ i, Blk (.slice pw (S' 0).ws.length cw) i → i < E ∨ E + 3 < i := fun i hi => hlt' i (.inr ⟨0, by omega, .inl (.inr (.inr (by rw [hvw]; exact hi)))⟩)
    have hce : c < E := by rcases hlt' c (.inl rfl) with h | h; exact h; exact HI.out.2.2.2.2.2 c (.inl rfl)
    have hn : ∀ j, E ≤ j → j ≤ E + 3 → ¬ (j = c ∨ Blk (.slice pw (S' 0).ws.length cw) j) := fun j h1 h2 h => by
      rcases h with rfl | h
      · omega
      · have := hbl j h; omega
    have HNN := Lib.hid hn
    have HFAR := Lib.hid (show ∀ i, CFoot c S' V' i → i < E ∨ X.heap.size ≤ i from fun i hi => (hf' i hi).imp (fun h => HI.out.2.2.2.2.2 i h) (fun h => h))
    have hS : ∀ W, Turn (fun i => i = c ∨ Blk (.slice pw (S' 0).ws.length cw) i) Y W → W.cell? ⟨E, 0, none⟩ = some (.int .i64 0) ∧ W.cell? ⟨E + 1, 0, none⟩ = some (.int .i64 k) ∧ W.cell? ⟨E + 2, 0, none⟩ = some (.int .i64 tx) := fun W t => by
      exact ⟨by rw [cell_at (t.heap hcb'.b0 (hn _ (by omega) (by omega)))]; rfl, by rw [cell_at (t.heap hcb'.b1 (hn _ (by omega) (by omega)))]; rfl, by rw [cell_at (t.heap hcb'.b2 (hn _ (by omega) (by omega)))]; rfl⟩
    have HS := Lib.hid hS
    have T0 : Turn (fun i => i = c ∨ Blk (.slice pw (S' 0).ws.length cw) i) Y Y.drew := (Turn.refl _ Y).drew
    have T1 := T0.alloc (.cells #[.int .i64 k, .int .i64 tx] 126)
    have TN : Turn NoBlock Y (Y.drew.alloc (.cells #[.int .i64 k, .int .i64 tx] 126)) := ((Turn.refl _ Y).drew).alloc _
    obtain ⟨v7, W7, hap, r7, t7, k7⟩ := (hrow.past TN).append 83 83 iW _ 16 waitsT hiW hzW hsW hbW (by rfl) (Rd.src (rd_new Y.drew 126 2 #[.int .i64 k, .int .i64 tx] rfl) 83 126 waitsT (fun u hu => by simp at hu; rcases hu with rfl | rfl <;> rfl)) (by unfold maxLen; have := HN.out; omega) (by have := HN.out; omega)
    obtain ⟨p7, c7, rfl⟩ := r7.sl
    have T2 : Turn (fun i => i = c ∨ Blk (.slice pw (S' 0).ws.length cw) i) Y W7 := T1.trans t7 (fun _ h => .inl (.inr h))
    have T3 := T2.setCell (p := ⟨c, 4, none⟩) (.inl (.inl rfl)) (.slice p7 ((S' 0).ws.length + 1) c7)
    have o7 := t7.cell (TN.cell o3 (fun h => h)) hcc
    have z7 := (((hC'.s 0 (by omega)).typ.kept TN (fun h => h)).kept t7 hcc).free (1 + 3)
    simp only [Nat.reduceAdd] at T3 z7
    have HAP := Lib.hid hap
    have HREST := Lib.hid (And.intro hC' (And.intro hP' (And.intro ht' (And.intro hf' (And.intro hcb' (And.intro r7 (And.intro t7 (And.intro k7 (And.intro hop' (And.intro hvw (And.intro hlt' (And.intro hbl (And.intro hce (And.intro hcc TN))))))))))))))
    clear hn hC' hP' ht' hf' hcb' r7 t7 k7 hop' hvw hlt' hbl hce hcc hrow hS hap hXs hYs hlw HOP
    refine wpIn_wide.2 (wp_region_noPanic ?_)
    refine wp_region_held_drew (S := fun W => W.cell? ⟨E, 0, none⟩ = some (.int .i64 0) ∧ W.cell? ⟨E + 1, 0, none⟩ = some (.int .i64 k) ∧ W.cell? ⟨E + 2, 0, none⟩ = some (.int .i64 tx)) (by kernel_rfl) (HS.out _ T0) (fun hHeld => ?_)
    refine wpAnyH_take (i := 0) (oi := ?oi0) (v := ?v0) ?hi0 (by kernel_rfl) (by kernel_rfl) (by kernel_rfl) ?hq0 (Or.inl ⟨?hw0, ?hy0⟩) (by assumption) ?rest0
    case hi0 => simp only [List.getElem?_toArray, List.getElem?_cons_zero]; rfl
    case hq0 => exact fun _ _ _ h => h
    case hw0 => rfl
    case hy0 => (intro w hSw; (try dsimp only at hSw); obtain ⟨hs0, hs1, hs2⟩ := hSw; go_simp; (try (with_reducible rfl)))
    (try simp only [Act.put, List.setIfInBounds_toArray, List.set_cons_zero, List.set_cons_succ])
    refine wpAnyH_take (i := 1) (oi := ?oi1) (v := ?v1) ?hi1 (by kernel_rfl) (by kernel_rfl) (by kernel_rfl) ?hq1 (Or.inl ⟨?hw1, ?hy1⟩) (by assumption) ?rest1
    case hi1 => simp only [List.getElem?_toArray, List.getElem?_cons_succ, List.getElem?_cons_zero]; rfl
    case hq1 => exact fun _ _ _ h => h
    case hw1 => rfl
    case hy1 => (intro w hSw; (try dsimp only at hSw); obtain ⟨hs0, hs1, hs2⟩ := hSw; go_simp; (try (with_reducible rfl)))
    (try simp only [Act.put, List.setIfInBounds_toArray, List.set_cons_zero, List.set_cons_succ])
    refine wpAnyH_take (i := 2) (oi := ?oi2) (v := ?v2) ?hi2 (by kernel_rfl) (by kernel_rfl) (by kernel_rfl) ?hq2 (Or.inl ⟨?hw2, ?hy2⟩) (by assumption) ?rest2
    case hi2 => simp only [List.getElem?_toArray, List.getElem?_cons_succ, List.getElem?_cons_zero]; rfl
    case hq2 => exact fun _ _ _ h => h
    case hw2 => rfl
    case hy2 => (intro w hSw; (try dsimp only at hSw); obtain ⟨hs0, hs1, hs2⟩ := hSw; go_simp; (try (with_reducible rfl)))
    (try simp only [Act.put, List.setIfInBounds_toArray, List.set_cons_zero, List.set_cons_succ])
    refine wpAnyH_take (i := 3) (oi := ?oi3) (v := ?v3) ?hi3 (by kernel_rfl) (by kernel_rfl) (by kernel_rfl) ?hq3 (Or.inl ⟨?hw3, ?hy3⟩) (by assumption) ?rest3
    case hi3 => simp only [List.getElem?_toArray, List.getElem?_cons_succ, List.getElem?_cons_zero]; rfl
    case hq3 => exact fun _ _ _ h => h
    case hw3 => rfl
    case hy3 => (intro w hSw; (try dsimp only at hSw); obtain ⟨hs0, hs1, hs2⟩ := hSw; go_simp; (try (with_reducible rfl)))
    (try simp only [Act.put, List.setIfInBounds_toArray, List.set_cons_zero, List.set_cons_succ])
    refine wpAnyH_take (i := 4) (oi := ?oi4) (v := ?v4) ?hi4 (by kernel_rfl) (by kernel_rfl) (by kernel_rfl) ?hq4 (Or.inl ⟨?hw4, ?hy4⟩) (by assumption) ?rest4
    case hi4 => simp only [List.getElem?_toArray, List.getElem?_cons_succ, List.getElem?_cons_zero]; rfl
    case hq4 => exact fun _ _ _ h => h
    case hw4 => rfl
    case hy4 => (intro w hSw; (try dsimp only at hSw); obtain ⟨hs0, hs1, hs2⟩ := hSw; go_simp; (try (with_reducible rfl)))
    (try simp only [Act.put, List.setIfInBounds_toArray, List.set_cons_zero, List.set_cons_succ])
    refine wpAnyH_take (i := 5) (oi := ?oi5) (v := ?v5) ?hi5 (by kernel_rfl) (by kernel_rfl) (by kernel_rfl) ?hq5 (Or.inl ⟨?hw5, ?hy5⟩) (by assumption) ?rest5
    case hi5 => simp only [List.getElem?_toArray, List.getElem?_cons_succ, List.getElem?_cons_zero]; rfl
    case hq5 => exact fun _ _ _ h => h
    case hw5 => rfl
    case hy5 => (intro w hSw; (try dsimp only at hSw); obtain ⟨hs0, hs1, hs2⟩ := hSw; go_simp; (try (with_reducible rfl)))
    (try simp only [Act.put, List.setIfInBounds_toArray, List.set_cons_zero, List.set_cons_succ])
    refine wpAnyH_take (i := 6) (oi := ?oi6) (v := ?v6) ?hi6 (by kernel_rfl) (by kernel_rfl) (by kernel_rfl) ?hq6 (Or.inl ⟨?hw6, ?hy6⟩) (by assumption) ?rest6
    case hi6 => simp only [List.getElem?_toArray, List.getElem?_cons_succ, List.getElem?_cons_zero]; rfl
    case hq6 => exact fun _ _ _ h => h
    case hw6 => rfl
    case hy6 => (intro w hSw; (try dsimp only at hSw); obtain ⟨hs0, hs1, hs2⟩ := hSw; go_simp; (try (with_reducible rfl)))
    (try simp only [Act.put, List.setIfInBounds_toArray, List.set_cons_zero, List.set_cons_succ])
    refine wpAnyH_take (i := 7) (oi := ?oi7) (v := ?v7) ?hi7 (by kernel_rfl) (by kernel_rfl) (by kernel_rfl) ?hq7 (Or.inl ⟨?hw7, ?hy7⟩) (by assumption) ?rest7
    case hi7 => simp only [List.getElem?_toArray, List.getElem?_cons_succ, List.getElem?_cons_zero]; rfl
    case hq7 => exact fun _ _ _ h => h
    case hw7 => rfl
    case hy7 => (intro w hSw; (try dsimp only at hSw); obtain ⟨hs0, hs1, hs2⟩ := hSw; go_simp; (try (with_reducible rfl)))
    (try simp only [Act.put, List.setIfInBounds_toArray, List.set_cons_zero, List.set_cons_succ])
    refine wpAnyH_take (i := 9) (oi := ?oi9) (v := ?v9) ?hi9 (by kernel_rfl) (by kernel_rfl) (by kernel_rfl) ?hq9 (Or.inl ⟨?hw9, ?hy9⟩) (by assumption) ?rest9
    case hi9 => simp only [List.getElem?_toArray, List.getElem?_cons_succ, List.getElem?_cons_zero]; rfl
    case hq9 => exact fun _ _ _ h => h
    case hw9 => rfl
    case hy9 => (intro w hSw; (try dsimp only at hSw); obtain ⟨hs0, hs1, hs2⟩ := hSw; go_simp; (try (with_reducible rfl)))
    (try simp only [Act.put, List.setIfInBounds_toArray, List.set_cons_zero, List.set_cons_succ])
    refine wpAnyH_take (i := 10) (oi := ?oi10) (v := ?v10) ?hi10 (by kernel_rfl) (by kernel_rfl) (by kernel_rfl) ?hq10 (Or.inl ⟨?hw10, ?hy10⟩) (by assumption) ?rest10
    case hi10 => simp only [List.getElem?_toArray, List.getElem?_cons_succ, List.getElem?_cons_zero]; rfl
    case hq10 => exact fun _ _ _ h => h
    case hw10 => rfl
    case hy10 => (intro w hSw; (try dsimp only at hSw); obtain ⟨hs0, hs1, hs2⟩ := hSw; go_simp; (try (with_reducible rfl)))
    (try simp only [Act.put, List.setIfInBounds_toArray, List.set_cons_zero, List.set_cons_succ])
    refine wpAnyH_take (i := 11) (oi := ?oi11) (v := ?v11) ?hi11 (by kernel_rfl) (by kernel_rfl) (by kernel_rfl) ?hq11 (Or.inl ⟨?hw11, ?hy11⟩) (by assumption) ?rest11
    case hi11 => simp only [List.getElem?_toArray, List.getElem?_cons_succ, List.getElem?_cons_zero]; rfl
    case hq11 => exact fun _ _ _ h => h
    case hw11 => rfl
    case hy11 => (intro w hSw; (try dsimp only at hSw); obtain ⟨hs0, hs1, hs2⟩ := hSw; go_simp; (try (with_reducible rfl)))
    (try simp only [Act.put, List.setIfInBounds_toArray, List.set_cons_zero, List.set_cons_succ])
    refine wpAnyH_take (i := 12) (oi := ?oi12) (v := ?v12) ?hi12 (by kernel_rfl) (by kernel_rfl) (by kernel_rfl) ?hq12 (Or.inl ⟨?hw12, ?hy12⟩) (by assumption) ?rest12
    case hi12 => simp only [List.getElem?_toArray, List.getElem?_cons_succ, List.getElem?_cons_zero]; rfl
    case hq12 => exact fun _ _ _ h => h
    case hw12 => rfl
    case hy12 => (intro w hSw; (try dsimp only at hSw); obtain ⟨hs0, hs1, hs2⟩ := hSw; go_simp; (try (with_reducible rfl)))
    (try simp only [Act.put, List.setIfInBounds_toArray, List.set_cons_zero, List.set_cons_succ])
    refine wpAnyH_take (i := 15) (oi := ?oi15) (v := ?v15) ?hi15 (by kernel_rfl) (by kernel_rfl) (by kernel_rfl) ?hq15 (Or.inl ⟨?hw15, ?hy15⟩) (by assumption) ?rest15
    case hi15 => simp only [List.getElem?_toArray, List.getElem?_cons_succ, List.getElem?_cons_zero]; rfl
    case hq15 => exact fun _ _ _ h => h
    case hw15 => rfl
    case hy15 => (intro w hSw; (try dsimp only at hSw); obtain ⟨hs0, hs1, hs2⟩ := hSw; go_simp; (try (with_reducible rfl)))
    (try simp only [Act.put, List.setIfInBounds_toArray, List.set_cons_zero, List.set_cons_succ])
    refine wpAnyH_take (i := 16) (oi := ?oi16) (v := ?v16) ?hi16 (by kernel_rfl) (by kernel_rfl) (by kernel_rfl) ?hq16 (Or.inl ⟨?hw16, ?hy16⟩) (by assumption) ?rest16
    case hi16 => simp only [List.getElem?_toArray, List.getElem?_cons_succ, List.getElem?_cons_zero]; rfl
    case hq16 => exact fun _ _ _ h => h
    case hw16 => rfl
    case hy16 => (intro w hSw; (try dsimp only at hSw); obtain ⟨hs0, hs1, hs2⟩ := hSw; go_simp; (try (with_reducible rfl)))
    (try simp only [Act.put, List.setIfInBounds_toArray, List.set_cons_zero, List.set_cons_succ])
    refine wpAnyH_ready (rs := [8, 13]) (by kernel_rfl) (by simp) ?_
    refine AllReadyH.cons rfl (fun K' hK' => ?_) ?_
    · go_simp
      refine hK'.out _ _ (HS.out _ (by assumption)) (fun hHeld => ?_)
      clear hK' K'
      (try simp only [Act.put, List.setIfInBounds_toArray, List.set_cons_zero, List.set_cons_succ])
      refine wpAnyH_ready (rs := [13]) (by kernel_rfl) (by simp) ?_
      refine AllReadyH.cons rfl (fun K' hK' => ?_) AllReadyH.nil
      go_simp
      refine hK'.out _ _ (HS.out _ (by assumption)) (fun hHeld => ?_)
      clear hK' K'
      (try simp only [Act.put, List.setIfInBounds_toArray, List.set_cons_zero, List.set_cons_succ])
      refine wpAnyH_ready (rs := [14]) (by kernel_rfl) (by simp) ?_
      refine AllReadyH.cons rfl (fun K' hK' => ?_) AllReadyH.nil
      refine Eq.mpr (if_pos (show Region.wanted _ _ = true from rfl)) ?_
      refine Lib.wp_append_run _ (.tmp 66) (.tmp 71) 83 83 rfl _ _ rfl rfl _ _ (HAP.out _) ?_
      refine hK'.out _ _ (HS.out _ (by assumption)) (fun hHeld => ?_)
      clear hK' K'
      (try simp only [Act.put, List.setIfInBounds_toArray])
      refine wpAnyH_take (i := 17) (oi := ?oi17a) (v := ?v17a) ?hi17a (by kernel_rfl) (by kernel_rfl) (by kernel_rfl) ?hq17a (Or.inl ⟨?hw17a, ?hy17a⟩) (by assumption) ?rest17a
      case hi17a => simp only [List.getElem?_toArray, List.getElem?_cons_succ, List.getElem?_cons_zero]; rfl
      case hq17a => exact fun _ _ _ h => h
      case hw17a => rfl
      case hy17a => (intro w hSw; (try dsimp only at hSw); obtain ⟨hs0, hs1, hs2⟩ := hSw; go_simp; (try (with_reducible rfl)))
      (try simp only [Act.put])
      refine wpAnyH_take (i := 18) (oi := ?oi18a) (v := ?v18a) ?hi18a (by kernel_rfl) (by kernel_rfl) (by kernel_rfl) ?hq18a (Or.inl ⟨?hw18a, ?hy18a⟩) (by assumption) ?rest18a
      case hi18a => simp only [List.getElem?_toArray, List.getElem?_cons_succ, List.getElem?_cons_zero]; rfl
      case hq18a => exact fun _ _ _ h => h
      case hw18a => rfl
      case hy18a => (intro w hSw; (try dsimp only at hSw); obtain ⟨hs0, hs1, hs2⟩ := hSw; go_simp; (try (with_reducible rfl)))
      (try simp only [Act.put])
      refine wpAnyH_ready (rs := [19]) (by kernel_rfl) (by simp) ?_
      refine AllReadyH.cons rfl (fun K' hK' => ?_) AllReadyH.nil
      go_simp
      refine hK'.out _ _ (HS.out _ (by assumption)) (fun hHeld => ?_)
      clear hK' K'
      (try simp only [Act.put])
      refine wpAnyH_done (by kernel_rfl) (NoPanic.normal ?_) _
      refine aK0 _ _ ?_
      have g3 := T3.heap HREST.out.2.2.2.2.1.b3 (HNN.out (E + 3) (by omega) (by omega))
      have hD1 : ¬ CFoot c S V D := fun h => by have := HI.out.2.2.2.2.2 D h; have := HI.out.2.2.1; have := HI.out.2.2.2.2.1; omega
      have hDX : D < X.heap.size := lt_of_block HK.out
      have hD2 : ¬ CFoot c S' V' D := fun h => by rcases HFAR.out D h with h | h; (have := HI.out.2.2.1; have := HI.out.2.2.2.2.1; omega); omega
      have hD3 : ¬ (D = c ∨ Blk (.slice pw (S' 0).ws.length cw) D) := fun h => hD2 (h.elim (fun e => .inl e) (fun h => .inr ⟨0, by omega, .inl (.inr (.inr (by rw [HREST.out.2.2.2.2.2.2.2.2.2.1]; exact h)))⟩))
      have kD := T3.heap (HREST.out.2.2.1.heap HK.out hD1) hD3
      obtain ⟨mC, mT, mF⟩ := made_ws HREST.out.1 HREST.out.2.2.2.2.2.2.2.2.2.2.2.2.2.2 (e := 0) (by omega) HREST.out.2.2.2.2.2.2.2.2.1 (ws := (S' 0).ws ++ [⟨k, tx⟩]) (vw := .slice p7 ((S' 0).ws.length + 1) c7) (by rw [List.length_append, wcells_app]; exact HREST.out.2.2.2.2.2.1) (by rw [HREST.out.2.2.2.2.2.2.2.2.2.1]; exact HREST.out.2.2.2.2.2.2.1) (fun j hj => by
        rw [HREST.out.2.2.2.2.2.2.2.2.2.1]
        rcases HREST.out.2.2.2.2.2.2.2.1 j hj with h | h
        · exact .inl h
        · right; have := HREST.out.2.2.2.2.2.2.2.2.2.2.2.2.2.2.size; omega) (M := N + 2) (by omega) (by have := (HREST.out.1.len 0 (by omega)).2.2; rw [List.length_append]; simp; omega)
      simp only [plc, Nat.reduceMul, Nat.reduceAdd] at mC mT mF
      have y3 : (W7.setCell ⟨c, 4, none⟩ (.slice p7 ((S' 0).ws.length + 1) c7)).cell? ⟨E + 3, 0, none⟩ = some (.int .i64 0) := by rw [cell_at g3]; rfl
      have w3 := free_at g3 0
      have HEND := Lib.hid (And.intro g3 (And.intro kD (And.intro mC (And.intro mT mF))))
      clear g3 kD mC mT mF hD1 hD2 hD3 T0 T1 T2 T3 TN hHeld o7 z7 o3 z3
      gi_wp2
      have hEE := HI.out.2.2
      have q1 := set_at HEND.out.1 0 (.int .i64 0)
      have tt := (Turn.refl (fun i => i = E + 3) (W7.setCell ⟨c, 4, none⟩ (.slice p7 ((S' 0).ws.length + 1) c7))).setCell (p := ⟨E + 3, 0, none⟩) (.inl rfl) (.int .i64 0)
      have hKD := tt.heap HEND.out.2.1 (by omega)
      have tp := turn_putObj ((W7.setCell ⟨c, 4, none⟩ (.slice p7 ((S' 0).ws.length + 1) c7)).setCell ⟨E + 3, 0, none⟩ (.int .i64 0)) D (.deferred none)
      refine ⟨by simp, .inl ⟨_, _, rfl, run_takeDeferred hKD, ?_⟩⟩
      have w0 : (((W7.setCell ⟨c, 4, none⟩ (.slice p7 ((S' 0).ws.length + 1) c7)).setCell ⟨E + 3, 0, none⟩ (.int .i64 0)).putObj D (.deferred none)).cell? ⟨E + 3, 0, none⟩ = some (.int .i64 0) := by rw [cell_at (tp.heap q1 (by omega))]; rfl
      have hm := Made.after HREST.out.2.2.1 HREST.out.2.2.2.1 ⟨_, _, HEND.out.2.2.1, plane_ws HREST.out.2.1, HEND.out.2.2.2.1, HEND.out.2.2.2.2⟩
      have hx := lt_of_block HI.out.2.1.b3
      have hd := lt_of_block HK.out
      exact ⟨.int .i64 0, by rw [results_c1 rfl]; go_simp, rfl, hm.beside HI.out.1 (HM.out w (Turn.refl _ _)) ((tt.mono (G := fun i => i = E + 3 ∨ i = D) (fun _ h => .inl (.inl h))).trans tp (fun _ h => .inl (.inr h))) (fun i hi => by omega)⟩
    refine AllReadyH.cons rfl (fun K' hK' => ?_) AllReadyH.nil
    go_simp
    refine hK'.out _ _ (HS.out _ (by assumption)) (fun hHeld => ?_)
    clear hK' K'
    (try simp only [Act.put, List.setIfInBounds_toArray, List.set_cons_zero, List.set_cons_succ])
    refine wpAnyH_ready (rs := [8]) (by kernel_rfl) (by simp) ?_
    refine AllReadyH.cons rfl (fun K' hK' => ?_) AllReadyH.nil
    go_simp
    refine hK'.out _ _ (HS.out _ (by assumption)) (fun hHeld => ?_)
    clear hK' K'
    (try simp only [Act.put, List.setIfInBounds_toArray, List.set_cons_zero, List.set_cons_succ])
    refine wpAnyH_ready (rs := [14]) (by kernel_rfl) (by simp) ?_
    refine AllReadyH.cons rfl (fun K' hK' => ?_) AllReadyH.nil
    refine Eq.mpr (if_pos (show Region.wanted _ _ = true from rfl)) ?_
    refine Lib.wp_append_run _ (.tmp 66) (.tmp 71) 83 83 rfl _ _ rfl rfl _ _ (HAP.out _) ?_
    refine hK'.out _ _ (HS.out _ (by assumption)) (fun hHeld => ?_)
    clear hK' K'
    (try simp only [Act.put, List.setIfInBounds_toArray])
    refine wpAnyH_take (i := 17) (oi := ?oi17b) (v := ?v17b) ?hi17b (by kernel_rfl) (by kernel_rfl) (by kernel_rfl) ?hq17b (Or.inl ⟨?hw17b, ?hy17b⟩) (by assumption) ?rest17b
    case hi17b => simp only [List.getElem?_toArray, List.getElem?_cons_succ, List.getElem?_cons_zero]; rfl
    case hq17b => exact fun _ _ _ h => h
    case hw17b => rfl
    case hy17b => (intro w hSw; (try dsimp only at hSw); obtain ⟨hs0, hs1, hs2⟩ := hSw; go_simp; (try (with_reducible rfl)))
    (try simp only [Act.put])
    refine wpAnyH_take (i := 18) (oi := ?oi18b) (v := ?v18b) ?hi18b (by kernel_rfl) (by kernel_rfl) (by kernel_rfl) ?hq18b (Or.inl ⟨?hw18b, ?hy18b⟩) (by assumption) ?rest18b
    case hi18b => simp only [List.getElem?_toArray, List.getElem?_cons_succ, List.getElem?_cons_zero]; rfl
    case hq18b => exact fun _ _ _ h => h
    case hw18b => rfl
    case hy18b => (intro w hSw; (try dsimp only at hSw); obtain ⟨hs0, hs1, hs2⟩ := hSw; go_simp; (try (with_reducible rfl)))
    (try simp only [Act.put])
    refine wpAnyH_ready (rs := [19]) (by kernel_rfl) (by simp) ?_
    refine AllReadyH.cons rfl (fun K' hK' => ?_) AllReadyH.nil
    go_simp
    refine hK'.out _ _ (HS.out _ (by assumption)) (fun hHeld => ?_)
    clear hK' K'
    (try simp only [Act.put])
    refine wpAnyH_done (by kernel_rfl) (NoPanic.normal ?_) _
    refine aK0 _ _ ?_
    have g3 := T3.heap HREST.out.2.2.2.2.1.b3 (HNN.out (E + 3) (by omega) (by omega))
    have hD1 : ¬ CFoot c S V D := fun h => by have := HI.out.2.2.2.2.2 D h; have := HI.out.2.2.1; have := HI.out.2.2.2.2.1; omega
    have hDX : D < X.heap.size := lt_of_block HK.out
    have hD2 : ¬ CFoot c S' V' D := fun h => by rcases HFAR.out D h with h | h; (have := HI.out.2.2.1; have := HI.out.2.2.2.2.1; omega); omega
    have hD3 : ¬ (D = c ∨ Blk (.slice pw (S' 0).ws.length cw) D) := fun h => hD2 (h.elim (fun e => .inl e) (fun h => .inr ⟨0, by omega, .inl (.inr (.inr (by rw [HREST.out.2.2.2.2.2.2.2.2.2.1]; exact h)))⟩))
    have kD := T3.heap (HREST.out.2.2.1.heap HK.out hD1) hD3
    obtain ⟨mC, mT, mF⟩ := made_ws HREST.out.1 HREST.out.2.2.2.2.2.2.2.2.2.2.2.2.2.2 (e := 0) (by omega) HREST.out.2.2.2.2.2.2.2.2.1 (ws := (S' 0).ws ++ [⟨k, tx⟩]) (vw := .slice p7 ((S' 0).ws.length + 1) c7) (by rw [List.length_append, wcells_app]; exact HREST.out.2.2.2.2.2.1) (by rw [HREST.out.2.2.2.2.2.2.2.2.2.1]; exact HREST.out.2.2.2.2.2.2.1) (fun j hj => by
      rw [HREST.out.2.2.2.2.2.2.2.2.2.1]
      rcases HREST.out.2.2.2.2.2.2.2.1 j hj with h | h
      · exact .inl h
      · right; have := HREST.out.2.2.2.2.2.2.2.2.2.2.2.2.2.2.size; omega) (M := N + 2) (by omega) (by have := (HREST.out.1.len 0 (by omega)).2.2; rw [List.length_append]; simp; omega)
    simp only [plc, Nat.reduceMul, Nat.reduceAdd] at mC mT mF
    have y3 : (W7.setCell ⟨c, 4, none⟩ (.slice p7 ((S' 0).ws.length + 1) c7)).cell? ⟨E + 3, 0, none⟩ = some (.int .i64 0) := by rw [cell_at g3]; rfl
    have w3 := free_at g3 0
    have HEND := Lib.hid (And.intro g3 (And.intro kD (And.intro mC (And.intro mT mF))))
    clear g3 kD mC mT mF hD1 hD2 hD3 T0 T1 T2 T3 TN hHeld o7 z7 o3 z3
    gi_wp2
    have hEE := HI.out.2.2
    have q1 := set_at HEND.out.1 0 (.int .i64 0)
    have tt := (Turn.refl (fun i => i = E + 3) (W7.setCell ⟨c, 4, none⟩ (.slice p7 ((S' 0).ws.length + 1) c7))).setCell (p := ⟨E + 3, 0, none⟩) (.inl rfl) (.int .i64 0)
    have hKD := tt.heap HEND.out.2.1 (by omega)
    have tp := turn_putObj ((W7.setCell ⟨c, 4, none⟩ (.slice p7 ((S' 0).ws.length + 1) c7)).setCell ⟨E + 3, 0, none⟩ (.int .i64 0)) D (.deferred none)
    refine ⟨by simp, .inl ⟨_, _, rfl, run_takeDeferred hKD, ?_⟩⟩
    have w0 : (((W7.setCell ⟨c, 4, none⟩ (.slice p7 ((S' 0).ws.length + 1) c7)).setCell ⟨E + 3, 0, none⟩ (.int .i64 0)).putObj D (.deferred none)).cell? ⟨E + 3, 0, none⟩ = some (.int .i64 0) := by rw [cell_at (tp.heap q1 (by omega))]; rfl
    have hm := Made.after HREST.out.2.2.1 HREST.out.2.2.2.1 ⟨_, _, HEND.out.2.2.1, plane_ws HREST.out.2.1, HEND.out.2.2.2.1, HEND.out.2.2.2.2⟩
    have hx := lt_of_block HI.out.2.1.b3
    have hd := lt_of_block HK.out
    exact ⟨.int .i64 0, by rw [results_c1 rfl]; go_simp, rfl, hm.beside HI.out.1 (HM.out w (Turn.refl _ _)) ((tt.mono (G := fun i => i = E + 3 ∨ i = D) (fun _ h => .inl (.inl h))).trans tp (fun _ h => .inl (.inr h))) (fun i hi => by omega)⟩
  case stop =>
    rintro D cc pre X hD - h hK
    exact h.elim
set_option maxRecDepth 100000 in
set_option maxHeartbeats 4000000 in
theorem call_ok1 (hC : CMem w c depth N S V) (hN : N ≤ 1000000) (ho : (S 1).op = true) (k : Int) (tx : Int) (htx : tx ≠ 0) (hk : ¬ k < 0) (hno : NoBar 1 k tx (waitL S 1)) (vd vh : Value) (hd : ∃ p n c, vd = .slice p n c) (hh : ∃ p n c, vh = .slice p n c) (n : Int) (K' : Nat → MS) (hop : (K' 1).op = true)
    (cW : ∀ W, Turn NoBlock w W → Calls Try.prog 36 #[.pointer (some ⟨c, 0, none⟩), .int .i64 1, .agg #[.int .i64 tx, vd, vh]] W fun x w' => x = .returned (.tuple #[.int .i64 n, .int .i64 0]) ∧ Made W w' c depth (N + 1) S V K') :
    Calls Try.prog 42 #[.pointer (some ⟨c, 0, none⟩), .int .i64 1, .int .i64 k, .agg #[.int .i64 tx, vd, vh]] w fun x w' => x = .returned (.int .i64 0) ∧ Made w w' c depth (N + 2) S V (updN K' 1 ⟨(K' 1).op, (K' 1).q, (K' 1).ws ++ [⟨k, tx⟩]⟩) := by
  have HC := Lib.hid (fun W (t : Turn NoBlock w W) => show Calls Try.prog 48 #[.pointer (some ⟨c, 0, none⟩), .int .i64 1] W _ from right_yes (hC.past t) (e := 1) (by omega) ho)
  obtain ⟨p1, n1, c1, rfl⟩ := hd
  obtain ⟨p2, n2, c2, rfl⟩ := hh
  have HX := Lib.hid hno
  have CW := Lib.hid cW
  have HOP := Lib.hid hop
  have HM := Lib.hid (fun W (t : Turn NoBlock w W) => hC.past t)
  have HN := Lib.hid hN
  have h0 : (tx == 0) = false := beq_eq_false_iff_ne.2 htx
  clear hC ho hno htx hN cW hop
  refine (callsIn_wide (n := 6)).1 ?_
  refine callsIn_of_wp_marks (F := Fence.wide) Try.func42 rfl trivial ?_ rfl
  simp only [Try.ntmps42, List.size_toArray, List.length_cons, List.length_nil, Nat.reduceAdd, Nat.reduceSub, Array.replicate_succ, Array.replicate_zero, List.push_toArray, List.append_toArray, List.nil_append, List.cons_append]
  gi_wp2_with (first
    | (refine ⟨trivial, ?_⟩; gi_at_call 48; refine (callsIn_wide.2 (HC.out _ (((((Turn.refl NoBlock w).alloc _).alloc _).alloc _).alloc _))).mono ?_; rintro e w' ⟨rfl, rfl⟩)
    | (refine ⟨trivial, ?_⟩; gi_at_call 70; refine (callsIn_wide.2 (waiting_any _ c 1)).mono ?_; rintro e w' ⟨rfl, rfl⟩))
  obtain ⟨E, hE⟩ : ∃ E, w.heap.size = E := ⟨_, rfl⟩
  obtain ⟨W0, hW0, hcb, hb4, hb5, hsz, hT⟩ := cb_new w 1 k tx (.slice p1 n1 c1) (.slice p2 n2 c2) c
  simp only [hE, Nat.add_assoc, Nat.reduceAdd]
  rw [hW0]
  rw [hE] at hcb hb4 hb5 hsz
  have hQ0 : WSees (E + 5) (E + 4) 1 c depth N S V W0 := ⟨hb5, hb4, HM.out W0 hT⟩
  clear hW0
  refine range2 (gf := 82) (lb := #[.pointer (some ⟨E + 5, 0, none⟩), .pointer (some ⟨E + 4, 0, none⟩)]) rfl (enters_of Try.func82 (by kernel_rfl) rfl)
    (wait_gives1 (E + 5) (E + 4) c depth N S V (by have := HN.out; omega)) (fun _ => rfl)
    (fun pre X => NoBar 1 k tx pre ∧ WSees (E + 5) (E + 4) 1 c depth N S V X ∧ Turn NoBlock w X ∧ CB X E 1 k tx (.slice p1 n1 c1) (.slice p2 n2 c2))
    (fun _ _ _ => False) ?hI ?hIx (fun _ _ h => h.2.1) ⟨fun x hx => by simp at hx, hQ0, hT, hcb⟩
    (fun x a' X => ∃ Bx, E + 6 ≤ Bx ∧ X.heap[Bx]? = some (.cells #[.int .i64 x.2.who, .int .i64 x.2.tx] 126 (0, 0)) ∧ a' = { tmps := (.pointer (some ⟨c, 0, none⟩) :: .int .i64 1 :: .int .i64 k :: .agg #[.int .i64 tx, .slice p1 n1 c1, .slice p2 n2 c2] :: undef :: .pointer (some ⟨E, 0, none⟩) :: .pointer (some ⟨E + 1, 0, none⟩) :: .pointer (some ⟨E + 2, 0, none⟩) :: .pointer (some ⟨E + 3, 0, none⟩) :: .int .i64 0 :: .int .i64 (x.1 : Int) :: .pointer (some ⟨Bx, 0, none⟩) :: undef :: undef :: .pointer (some ⟨c, 0, none⟩) :: .int .i64 1 :: .int .i64 0 :: .int .i64 0 :: .bool false :: undef :: .pointer (some ⟨E + 2, 0, none⟩) :: .int .i64 tx :: .bool false :: .bool false :: .int .i64 k :: .bool (decide (k < 0)) :: .bool (decide (k < 0)) :: .pointer (some ⟨c, 0, none⟩) :: .int .i64 1 :: .func (.func 82) #[] #[.pointer (some ⟨E + 5, 0, none⟩), .pointer (some ⟨E + 4, 0, none⟩)] :: .int .i64 (x.1 : Int) :: x.2.agg :: undef :: undef :: undef :: undef :: undef :: undef :: undef :: undef :: undef :: undef :: undef :: undef :: undef :: undef :: undef :: undef :: undef :: undef :: undef :: undef :: undef :: undef :: undef :: undef :: undef :: undef :: undef :: undef :: undef :: undef :: undef :: undef :: undef :: undef :: undef :: undef :: undef :: undef :: undef :: undef :: undef :: undef :: undef :: undef :: undef :: [] : List Value).toArray, defers := [] }) ?hAx ?assign ?body ?done ?stop
  case hI =>
    rintro pre X Y row ⟨hn, hq, ht, hr0⟩ hg hr
    exact ⟨hn, hq.grown hQ0 hg (fun r e => (hr r e).1), ht.grown hg (fun r e => .inr (by have := (hr r e).1; omega)), hr0.kept (turn_of_grown hg) (fun i h1 h2 e => by have := (hr i e).1; omega)⟩
  case hIx => exact fun _ _ _ _ _ hs _ _ => hs
  case hAx =>
    rintro x a' - X Y row ⟨Bx, hlt, hb, rfl⟩ hg hr
    exact ⟨Bx, hlt, heap_nocell hb hg (fun r e => (hr r e).2), rfl⟩
  case assign =>
    rintro l pre ⟨a, t⟩ X K ⟨hn, hq, ht, hr0⟩ - hX hK
    have HK := Lib.hid hK
    have HI := Lib.hid (And.intro hn (And.intro hq (And.intro ht (And.intro hr0 (And.intro hX hsz)))))
    unfold wEnc Wt.agg
    clear hn hq ht hr0 hX hK hE hQ0 hT hcb hb4 hb5 hsz
    gi_wp2
    have ta : Turn NoBlock X (X.alloc (.cells #[.int .i64 t.who, .int .i64 t.tx] 126)) := (Turn.refl _ X).alloc _
    refine HK.out _ _ (KeepsAll.of_turn ta (fun _ h => h.elim)) ⟨HI.out.1, HI.out.2.1.kept ta (fun _ _ h => h), TT HI.out.2.2.1 ta, HI.out.2.2.2.1.kept ta (fun _ _ _ h => h)⟩ ⟨X.heap.size, ?_, ?_, ?_⟩
    · have := HI.out.2.2.2.2; omega
    · rw [heap_alloc_new]
    · rfl
  case body =>
    rintro l pre ⟨a, t⟩ a' X hX ⟨hn, hq, ht, hr0⟩ ⟨Bx, hBx, hbx2, rfl⟩ ⟨⟨ha, hmem⟩, -⟩
    have e0 : X.cell? ⟨E, 0, none⟩ = some (.int .i64 1) := by rw [cell_at hr0.b0]; rfl
    have e1 : X.cell? ⟨E + 1, 0, none⟩ = some (.int .i64 k) := by rw [cell_at hr0.b1]; rfl
    have e2 : X.cell? ⟨E + 2, 0, none⟩ = some (.int .i64 tx) := by rw [cell_at hr0.b2]; rfl
    have x0 : X.cell? ⟨Bx, 0, none⟩ = some (.int .i64 t.who) := by rw [cell_at hbx2]; rfl
    have x1 : X.cell? ⟨Bx, 1, none⟩ = some (.int .i64 t.tx) := by rw [cell_at hbx2]; rfl
    have ha2 : a = 1 ∨ a = 0 := by omega
    have hnb : ¬ Bars 1 k tx (a, t) := HX.out (a, t) (by
      unfold waitL oth
      rcases ha2 with rfl | rfl
      · exact List.mem_append_left _ (List.mem_map.2 ⟨t, hmem, rfl⟩)
      · exact List.mem_append_right _ (List.mem_map.2 ⟨t, hmem, rfl⟩))
    have HI := Lib.hid (And.intro hn (And.intro hq (And.intro ht hr0)))
    have HNB := Lib.hid hnb
    have hwb : (t.who == k) = false := beq_eq_false_iff_ne.2 (fun h => hnb (.inl h))
    unfold Wt.agg
    rcases ha2 with rfl | rfl
    · have hxb : (t.tx == tx) = false := beq_eq_false_iff_ne.2 (fun h => hnb (.inr ⟨rfl, h⟩))
      simp only [z1]
      clear hn hq ht hr0 hX hbx2 hE hQ0 hT hcb hb4 hb5 hsz hnb hmem ha
      gi_wp2
      exact ⟨KeepsAll.refl _ _, HI.out.1.snoc HNB.out, HI.out.2⟩
    · simp only [z0]
      clear hn hq ht hr0 hX hbx2 hE hQ0 hT hcb hb4 hb5 hsz hnb hmem ha
      gi_wp2
      exact ⟨KeepsAll.refl _ _, HI.out.1.snoc HNB.out, HI.out.2⟩
  case done =>
    rintro D xs X hD - ⟨-, -, ht, hr0⟩ hK
    have e0 : X.cell? ⟨E, 0, none⟩ = some (.int .i64 1) := by rw [cell_at hr0.b0]; rfl
    obtain ⟨m0, m1, m2⟩ := box3 hr0.b2
    have hltE : ∀ i, CFoot c S V i → i < E := fun i hi => by rw [← hE]; exact (HM.out w (Turn.refl _ _)).lt hi
    have HI := Lib.hid (And.intro ht (And.intro hr0 (And.intro hD (And.intro hE (And.intro hsz hltE)))))
    have HK := Lib.hid hK
    clear ht hr0 hD hE hsz hK hQ0 hT hcb hb4 hb5 hltE
    gi_wp2_with (refine ⟨trivial, ?_⟩; gi_at_call 36; refine (callsIn_wide.2 (CW.out X HI.out.1)).mono ?_; rintro x Y ⟨rfl, hmd⟩; have MD := Lib.hid hmd; clear hmd)
    rename_i K0 aK0
    have Hst := Lib.hid (And.intro HM.out (And.intro HN.out HI.out))
    obtain ⟨S', V', hC', hP', ht', hf'⟩ := MD.out
    have hcb' := HI.out.2.1.kept ht' (fun i h1 h2 e => by have := HI.out.2.2.2.2.2 i e; have := HI.out.2.2.2.1; omega)
    have hXs : E + 3 < X.heap.size := lt_of_block HI.out.2.1.b3
    have hYs := ht'.size
    have hlt' : ∀ i, CFoot c S' V' i → i < E ∨ E + 3 < i := fun i hi => by rcases hf' i hi with h | h; exact .inl (HI.out.2.2.2.2.2 i h); right; omega
    have hop' : (S' 1).op = true := by have := HOP.out; rw [← hP'] at this; exact this
    obtain ⟨pw, cw, hvw⟩ := (hC'.s 1 (by omega)).rowW.sl
    have o3 : Y.cell? ⟨c, 8, none⟩ = some (V' 1).w := (hC'.s 1 (by omega)).c3
    have z3 := (hC'.s 1 (by omega)).f (5 + 3)
    simp only [Nat.reduceAdd] at o3 z3
    rw [hvw] at o3
    obtain ⟨iW, hiW, hzW, hsW, hbW⟩ := info_parts infoW
    have hrow := (hC'.s 1 (by omega)).rowW
    rw [hvw] at hrow
    have hcc := blk_typed hrow (hC'.s 1 (by omega)).typ (by decide)
    have hlw := (hC'.len 1 (by omega)).2.2
    have hcl := (hC'.s 1 (by omega)).typ.lt
    have hbl : ∀ i, Blk (.slice pw (S' 1).ws.length cw) i → i < E ∨ E + 3 < i := fun i hi => hlt' i (.inr ⟨1, by omega, .inl (.inr (.inr (by rw [hvw]; exact hi)))⟩)
    have hce : c < E := by rcases hlt' c (.inl rfl) with h | h; exact h; exact HI.out.2.2.2.2.2 c (.inl rfl)
    have hn : ∀ j, E ≤ j → j ≤ E + 3 → ¬ (j = c ∨ Blk (.slice pw (S' 1).ws.length cw) j) := fun j h1 h2 h => by
      rcases h with rfl | h
      · omega
      · have := hbl j h; omega
    have HNN := Lib.hid hn
    have HFAR := Lib.hid (show ∀ i, CFoot c S' V' i → i < E ∨ X.heap.size ≤ i from fun i hi => (hf' i hi).imp (fun h => HI.out.2.2.2.2.2 i h) (fun h => h))
    have hS : ∀ W, Turn (fun i => i = c ∨ Blk (.slice pw (S' 1).ws.length cw) i) Y W → W.cell? ⟨E, 0, none⟩ = some (.int .i64 1) ∧ W.cell? ⟨E + 1, 0, none⟩ = some (.int .i64 k) ∧ W.cell? ⟨E + 2, 0, none⟩ = some (.int .i64 tx) := fun W t => by
      exact ⟨by rw [cell_at (t.heap hcb'.b0 (hn _ (by omega) (by omega)))]; rfl, by rw [cell_at (t.heap hcb'.b1 (hn _ (by omega) (by omega)))]; rfl, by rw [cell_at (t.heap hcb'.b2 (hn _ (by omega) (by omega)))]; rfl⟩
    have HS := Lib.hid hS
    have T0 : Turn (fun i => i = c ∨ Blk (.slice pw (S' 1).ws.length cw) i) Y Y.drew := (Turn.refl _ Y).drew
    have T1 := T0.alloc (.cells #[.int .i64 k, .int .i64 tx] 126)
    have TN : Turn NoBlock Y (Y.drew.alloc (.cells #[.int .i64 k, .int .i64 tx] 126)) := ((Turn.refl _ Y).drew).alloc _
    obtain ⟨v7, W7, hap, r7, t7, k7⟩ := (hrow.past TN).append 83 83 iW _ 16 waitsT hiW hzW hsW hbW (by rfl) (Rd.src (rd_new Y.drew 126 2 #[.int .i64 k, .int .i64 tx] rfl) 83 126 waitsT (fun u hu => by simp at hu; rcases hu with rfl | rfl <;> rfl)) (by unfold maxLen; have := HN.out; omega) (by have := HN.out; omega)
    obtain ⟨p7, c7, rfl⟩ := r7.sl
    have T2 : Turn (fun i => i = c ∨ Blk (.slice pw (S' 1).ws.length cw) i) Y W7 := T1.trans t7 (fun _ h => .inl (.inr h))
    have T3 := T2.setCell (p := ⟨c, 8, none⟩) (.inl (.inl rfl)) (.slice p7 ((S' 1).ws.length + 1) c7)
    have o7 := t7.cell (TN.cell o3 (fun h => h)) hcc
    have z7 := (((hC'.s 1 (by omega)).typ.kept TN (fun h => h)).kept t7 hcc).free (5 + 3)
    simp only [Nat.reduceAdd] at T3 z7
    have HAP := Lib.hid hap
    have HREST := Lib.hid (And.intro hC' (And.intro hP' (And.intro ht' (And.intro hf' (And.intro hcb' (And.intro r7 (And.intro t7 (And.intro k7 (And.intro hop' (And.intro hvw (And.intro hlt' (And.intro hbl (And.intro hce (And.intro hcc TN))))))))))))))
    clear hn hC' hP' ht' hf' hcb' r7 t7 k7 hop' hvw hlt' hbl hce hcc hrow hS hap hXs hYs hlw HOP
    refine wpIn_wide.2 (wp_region_noPanic ?_)
    refine wp_region_held_drew (S := fun W => W.cell? ⟨E, 0, none⟩ = some (.int .i64 1) ∧ W.cell? ⟨E + 1, 0, none⟩ = some (.int .i64 k) ∧ W.cell? ⟨E + 2, 0, none⟩ = some (.int .i64 tx)) (by kernel_rfl) (HS.out _ T0) (fun hHeld => ?_)
    refine wpAnyH_take (i := 0) (oi := ?oi0) (v := ?v0) ?hi0 (by kernel_rfl) (by kernel_rfl) (by kernel_rfl) ?hq0 (Or.inl ⟨?hw0, ?hy0⟩) (by assumption) ?rest0
    case hi0 => simp only [List.getElem?_toArray, List.getElem?_cons_zero]; rfl
    case hq0 => exact fun _ _ _ h => h
    case hw0 => rfl
    case hy0 => (intro w hSw; (try dsimp only at hSw); obtain ⟨hs0, hs1, hs2⟩ := hSw; go_simp; (try (with_reducible rfl)))
    (try simp only [Act.put, List.setIfInBounds_toArray, List.set_cons_zero, List.set_cons_succ])
    refine wpAnyH_take (i := 1) (oi := ?oi1) (v := ?v1) ?hi1 (by kernel_rfl) (by kernel_rfl) (by kernel_rfl) ?hq1 (Or.inl ⟨?hw1, ?hy1⟩) (by assumption) ?rest1
    case hi1 => simp only [List.getElem?_toArray, List.getElem?_cons_succ, List.getElem?_cons_zero]; rfl
    case hq1 => exact fun _ _ _ h => h
    case hw1 => rfl
    case hy1 => (intro w hSw; (try dsimp only at hSw); obtain ⟨hs0, hs1, hs2⟩ := hSw; go_simp; (try (with_reducible rfl)))
    (try simp only [Act.put, List.setIfInBounds_toArray, List.set_cons_zero, List.set_cons_succ])
    refine wpAnyH_take (i := 2) (oi := ?oi2) (v := ?v2) ?hi2 (by kernel_rfl) (by kernel_rfl) (by kernel_rfl) ?hq2 (Or.inl ⟨?hw2, ?hy2⟩) (by assumption) ?rest2
    case hi2 => simp only [List.getElem?_toArray, List.getElem?_cons_succ, List.getElem?_cons_zero]; rfl
    case hq2 => exact fun _ _ _ h => h
    case hw2 => rfl
    case hy2 => (intro w hSw; (try dsimp only at hSw); obtain ⟨hs0, hs1, hs2⟩ := hSw; go_simp; (try (with_reducible rfl)))
    (try simp only [Act.put, List.setIfInBounds_toArray, List.set_cons_zero, List.set_cons_succ])
    refine wpAnyH_take (i := 3) (oi := ?oi3) (v := ?v3) ?hi3 (by kernel_rfl) (by kernel_rfl) (by kernel_rfl) ?hq3 (Or.inl ⟨?hw3, ?hy3⟩) (by assumption) ?rest3
    case hi3 => simp only [List.getElem?_toArray, List.getElem?_cons_succ, List.getElem?_cons_zero]; rfl
    case hq3 => exact fun _ _ _ h => h
    case hw3 => rfl
    case hy3 => (intro w hSw; (try dsimp only at hSw); obtain ⟨hs0, hs1, hs2⟩ := hSw; go_simp; (try (with_reducible rfl)))
    (try simp only [Act.put, List.setIfInBounds_toArray, List.set_cons_zero, List.set_cons_succ])
    refine wpAnyH_take (i := 4) (oi := ?oi4) (v := ?v4) ?hi4 (by kernel_rfl) (by kernel_rfl) (by kernel_rfl) ?hq4 (Or.inl ⟨?hw4, ?hy4⟩) (by assumption) ?rest4
    case hi4 => simp only [List.getElem?_toArray, List.getElem?_cons_succ, List.getElem?_cons_zero]; rfl
    case hq4 => exact fun _ _ _ h => h
    case hw4 => rfl
    case hy4 => (intro w hSw; (try dsimp only at hSw); obtain ⟨hs0, hs1, hs2⟩ := hSw; go_simp; (try (with_reducible rfl)))
    (try simp only [Act.put, List.setIfInBounds_toArray, List.set_cons_zero, List.set_cons_succ])
    refine wpAnyH_take (i := 5) (oi := ?oi5) (v := ?v5) ?hi5 (by kernel_rfl) (by kernel_rfl) (by kernel_rfl) ?hq5 (Or.inl ⟨?hw5, ?hy5⟩) (by assumption) ?rest5
    case hi5 => simp only [List.getElem?_toArray, List.getElem?_cons_succ, List.getElem?_cons_zero]; rfl
    case hq5 => exact fun _ _ _ h => h
    case hw5 => rfl
    case hy5 => (intro w hSw; (try dsimp only at hSw); obtain ⟨hs0, hs1, hs2⟩ := hSw; go_simp; (try (with_reducible rfl)))
    (try simp only [Act.put, List.setIfInBounds_toArray, List.set_cons_zero, List.set_cons_succ])
    refine wpAnyH_take (i := 6) (oi := ?oi6) (v := ?v6) ?hi6 (by kernel_rfl) (by kernel_rfl) (by kernel_rfl) ?hq6 (Or.inl ⟨?hw6, ?hy6⟩) (by assumption) ?rest6
    case hi6 => simp only [List.getElem?_toArray, List.getElem?_cons_succ, List.getElem?_cons_zero]; rfl
    case hq6 => exact fun _ _ _ h => h
    case hw6 => rfl
    case hy6 => (intro w hSw; (try dsimp only at hSw); obtain ⟨hs0, hs1, hs2⟩ := hSw; go_simp; (try (with_reducible rfl)))
    (try simp only [Act.put, List.setIfInBounds_toArray, List.set_cons_zero, List.set_cons_succ])
    refine wpAnyH_take (i := 7) (oi := ?oi7) (v := ?v7) ?hi7 (by kernel_rfl) (by kernel_rfl) (by kernel_rfl) ?hq7 (Or.inl ⟨?hw7, ?hy7⟩) (by assumption) ?rest7
    case hi7 => simp only [List.getElem?_toArray, List.getElem?_cons_succ, List.getElem?_cons_zero]; rfl
    case hq7 => exact fun _ _ _ h => h
    case hw7 => rfl
    case hy7 => (intro w hSw; (try dsimp only at hSw); obtain ⟨hs0, hs1, hs2⟩ := hSw; go_simp; (try (with_reducible rfl)))
    (try simp only [Act.put, List.setIfInBounds_toArray, List.set_cons_zero, List.set_cons_succ])
    refine wpAnyH_take (i := 9) (oi := ?oi9) (v := ?v9) ?hi9 (by kernel_rfl) (by kernel_rfl) (by kernel_rfl) ?hq9 (Or.inl ⟨?hw9, ?hy9⟩) (by assumption) ?rest9
    case hi9 => simp only [List.getElem?_toArray, List.getElem?_cons_succ, List.getElem?_cons_zero]; rfl
    case hq9 => exact fun _ _ _ h => h
    case hw9 => rfl
    case hy9 => (intro w hSw; (try dsimp only at hSw); obtain ⟨hs0, hs1, hs2⟩ := hSw; go_simp; (try (with_reducible rfl)))
    (try simp only [Act.put, List.setIfInBounds_toArray, List.set_cons_zero, List.set_cons_succ])
    refine wpAnyH_take (i := 10) (oi := ?oi10) (v := ?v10) ?hi10 (by kernel_rfl) (by kernel_rfl) (by kernel_rfl) ?hq10 (Or.inl ⟨?hw10, ?hy10⟩) (by assumption) ?rest10
    case hi10 => simp only [List.getElem?_toArray, List.getElem?_cons_succ, List.getElem?_cons_zero]; rfl
    case hq10 => exact fun _ _ _ h => h
    case hw10 => rfl
    case hy10 => (intro w hSw; (try dsimp only at hSw); obtain ⟨hs0, hs1, hs2⟩ := hSw; go_simp; (try (with_reducible rfl)))
    (try simp only [Act.put, List.setIfInBounds_toArray, List.set_cons_zero, List.set_cons_succ])
    refine wpAnyH_take (i := 11) (oi := ?oi11) (v := ?v11) ?hi11 (by kernel_rfl) (by kernel_rfl) (by kernel_rfl) ?hq11 (Or.inl ⟨?hw11, ?hy11⟩) (by assumption) ?rest11
    case hi11 => simp only [List.getElem?_toArray, List.getElem?_cons_succ, List.getElem?_cons_zero]; rfl
    case hq11 => exact fun _ _ _ h => h
    case hw11 => rfl
    case hy11 => (intro w hSw; (try dsimp only at hSw); obtain ⟨hs0, hs1, hs2⟩ := hSw; go_simp; (try (with_reducible rfl)))
    (try simp only [Act.put, List.setIfInBounds_toArray, List.set_cons_zero, List.set_cons_succ])
    refine wpAnyH_take (i := 12) (oi := ?oi12) (v := ?v12) ?hi12 (by kernel_rfl) (by kernel_rfl) (by kernel_rfl) ?hq12 (Or.inl ⟨?hw12, ?hy12⟩) (by assumption) ?rest12
    case hi12 => simp only [List.getElem?_toArray, List.getElem?_cons_succ, List.getElem?_cons_zero]; rfl
    case hq12 => exact fun _ _ _ h => h
    case hw12 => rfl
    case hy12 => (intro w hSw; (try dsimp only at hSw); obtain ⟨hs0, hs1, hs2⟩ := hSw; go_simp; (try (with_reducible rfl)))
    (try simp only [Act.put, List.setIfInBounds_toArray, List.set_cons_zero, List.set_cons_succ])
    refine wpAnyH_take (i := 15) (oi := ?oi15) (v := ?v15) ?hi15 (by kernel_rfl) (by kernel_rfl) (by kernel_rfl) ?hq15 (Or.inl ⟨?hw15, ?hy15⟩) (by assumption) ?rest15
    case hi15 => simp only [List.getElem?_toArray, List.getElem?_cons_succ, List.getElem?_cons_zero]; rfl
    case hq15 => exact fun _ _ _ h => h
    case hw15 => rfl
    case hy15 => (intro w hSw; (try dsimp only at hSw); obtain ⟨hs0, hs1, hs2⟩ := hSw; go_simp; (try (with_reducible rfl)))
    (try simp only [Act.put, List.setIfInBounds_toArray, List.set_cons_zero, List.set_cons_succ])
    refine wpAnyH_take (i := 16) (oi := ?oi16) (v := ?v16) ?hi16 (by kernel_rfl) (by kernel_rfl) (by kernel_rfl) ?hq16 (Or.inl ⟨?hw16, ?hy16⟩) (by assumption) ?rest16
    case hi16 => simp only [List.getElem?_toArray, List.getElem?_cons_succ, List.getElem?_cons_zero]; rfl
    case hq16 => exact fun _ _ _ h => h
    case hw16 => rfl
    case hy16 => (intro w hSw; (try dsimp only at hSw); obtain ⟨hs0, hs1, hs2⟩ := hSw; go_simp; (try (with_reducible rfl)))
    (try simp only [Act.put, List.setIfInBounds_toArray, List.set_cons_zero, List.set_cons_succ])
    refine wpAnyH_ready (rs := [8, 13]) (by kernel_rfl) (by simp) ?_
    refine AllReadyH.cons rfl (fun K' hK' => ?_) ?_
    · go_simp
      refine hK'.out _ _ (HS.out _ (by assumption)) (fun hHeld => ?_)
      clear hK' K'
      (try simp only [Act.put, List.setIfInBounds_toArray, List.set_cons_zero, List.set_cons_succ])
      refine wpAnyH_ready (rs := [13]) (by kernel_rfl) (by simp) ?_
      refine AllReadyH.cons rfl (fun K' hK' => ?_) AllReadyH.nil
      go_simp
      refine hK'.out _ _ (HS.out _ (by assumption)) (fun hHeld => ?_)
      clear hK' K'
      (try simp only [Act.put, List.setIfInBounds_toArray, List.set_cons_zero, List.set_cons_succ])
      refine wpAnyH_ready (rs := [14]) (by kernel_rfl) (by simp) ?_
      refine AllReadyH.cons rfl (fun K' hK' => ?_) AllReadyH.nil
      refine Eq.mpr (if_pos (show Region.wanted _ _ = true from rfl)) ?_
      refine Lib.wp_append_run _ (.tmp 66) (.tmp 71) 83 83 rfl _ _ rfl rfl _ _ (HAP.out _) ?_
      refine hK'.out _ _ (HS.out _ (by assumption)) (fun hHeld => ?_)
      clear hK' K'
      (try simp only [Act.put, List.setIfInBounds_toArray])
      refine wpAnyH_take (i := 17) (oi := ?oi17a) (v := ?v17a) ?hi17a (by kernel_rfl) (by kernel_rfl) (by kernel_rfl) ?hq17a (Or.inl ⟨?hw17a, ?hy17a⟩) (by assumption) ?rest17a
      case hi17a => simp only [List.getElem?_toArray, List.getElem?_cons_succ, List.getElem?_cons_zero]; rfl
      case hq17a => exact fun _ _ _ h => h
      case hw17a => rfl
      case hy17a => (intro w hSw; (try dsimp only at hSw); obtain ⟨hs0, hs1, hs2⟩ := hSw; go_simp; (try (with_reducible rfl)))
      (try simp only [Act.put])
      refine wpAnyH_take (i := 18) (oi := ?oi18a) (v := ?v18a) ?hi18a (by kernel_rfl) (by kernel_rfl) (by kernel_rfl) ?hq18a (Or.inl ⟨?hw18a, ?hy18a⟩) (by assumption) ?rest18a
      case hi18a => simp only [List.getElem?_toArray, List.getElem?_cons_succ, List.getElem?_cons_zero]; rfl
      case hq18a => exact fun _ _ _ h => h
      case hw18a => rfl
      case hy18a => (intro w hSw; (try dsimp only at hSw); obtain ⟨hs0, hs1, hs2⟩ := hSw; go_simp; (try (with_reducible rfl)))
      (try simp only [Act.put])
      refine wpAnyH_ready (rs := [19]) (by kernel_rfl) (by simp) ?_
      refine AllReadyH.cons rfl (fun K' hK' => ?_) AllReadyH.nil
      go_simp
      refine hK'.out _ _ (HS.out _ (by assumption)) (fun hHeld => ?_)
      clear hK' K'
      (try simp only [Act.put])
      refine wpAnyH_done (by kernel_rfl) (NoPanic.normal ?_) _
      refine aK0 _ _ ?_
      have g3 := T3.heap HREST.out.2.2.2.2.1.b3 (HNN.out (E + 3) (by omega) (by omega))
      have hD1 : ¬ CFoot c S V D := fun h => by have := HI.out.2.2.2.2.2 D h; have := HI.out.2.2.1; have := HI.out.2.2.2.2.1; omega
      have hDX : D < X.heap.size := lt_of_block HK.out
      have hD2 : ¬ CFoot c S' V' D := fun h => by rcases HFAR.out D h with h | h; (have := HI.out.2.2.1; have := HI.out.2.2.2.2.1; omega); omega
      have hD3 : ¬ (D = c ∨ Blk (.slice pw (S' 1).ws.length cw) D) := fun h => hD2 (h.elim (fun e => .inl e) (fun h => .inr ⟨1, by omega, .inl (.inr (.inr (by rw [HREST.out.2.2.2.2.2.2.2.2.2.1]; exact h)))⟩))
      have kD := T3.heap (HREST.out.2.2.1.heap HK.out hD1) hD3
      obtain ⟨mC, mT, mF⟩ := made_ws HREST.out.1 HREST.out.2.2.2.2.2.2.2.2.2.2.2.2.2.2 (e := 1) (by omega) HREST.out.2.2.2.2.2.2.2.2.1 (ws := (S' 1).ws ++ [⟨k, tx⟩]) (vw := .slice p7 ((S' 1).ws.length + 1) c7) (by rw [List.length_append, wcells_app]; exact HREST.out.2.2.2.2.2.1) (by rw [HREST.out.2.2.2.2.2.2.2.2.2.1]; exact HREST.out.2.2.2.2.2.2.1) (fun j hj => by
        rw [HREST.out.2.2.2.2.2.2.2.2.2.1]
        rcases HREST.out.2.2.2.2.2.2.2.1 j hj with h | h
        · exact .inl h
        · right; have := HREST.out.2.2.2.2.2.2.2.2.2.2.2.2.2.2.size; omega) (M := N + 2) (by omega) (by have := (HREST.out.1.len 1 (by omega)).2.2; rw [List.length_append]; simp; omega)
      simp only [plc, Nat.reduceMul, Nat.reduceAdd] at mC mT mF
      have y3 : (W7.setCell ⟨c, 8, none⟩ (.slice p7 ((S' 1).ws.length + 1) c7)).cell? ⟨E + 3, 0, none⟩ = some (.int .i64 0) := by rw [cell_at g3]; rfl
      have w3 := free_at g3 0
      have HEND := Lib.hid (And.intro g3 (And.intro kD (And.intro mC (And.intro mT mF))))
      clear g3 kD mC mT mF hD1 hD2 hD3 T0 T1 T2 T3 TN hHeld o7 z7 o3 z3
      gi_wp2
      have hEE := HI.out.2.2
      have q1 := set_at HEND.out.1 0 (.int .i64 0)
      have tt := (Turn.refl (fun i => i = E + 3) (W7.setCell ⟨c, 8, none⟩ (.slice p7 ((S' 1).ws.length + 1) c7))).setCell (p := ⟨E + 3, 0, none⟩) (.inl rfl) (.int .i64 0)
      have hKD := tt.heap HEND.out.2.1 (by omega)
      have tp := turn_putObj ((W7.setCell ⟨c, 8, none⟩ (.slice p7 ((S' 1).ws.length + 1) c7)).setCell ⟨E + 3, 0, none⟩ (.int .i64 0)) D (.deferred none)
      refine ⟨by simp, .inl ⟨_, _, rfl, run_takeDeferred hKD, ?_⟩⟩
      have w0 : (((W7.setCell ⟨c, 8, none⟩ (.slice p7 ((S' 1).ws.length + 1) c7)).setCell ⟨E + 3, 0, none⟩ (.int .i64 0)).putObj D (.deferred none)).cell? ⟨E + 3, 0, none⟩ = some (.int .i64 0) := by rw [cell_at (tp.heap q1 (by omega))]; rfl
      have hm := Made.after HREST.out.2.2.1 HREST.out.2.2.2.1 ⟨_, _, HEND.out.2.2.1, plane_ws HREST.out.2.1, HEND.out.2.2.2.1, HEND.out.2.2.2.2⟩
      have hx := lt_of_block HI.out.2.1.b3
      have hd := lt_of_block HK.out
      exact ⟨.int .i64 0, by rw [results_c1 rfl]; go_simp, rfl, hm.beside HI.out.1 (HM.out w (Turn.refl _ _)) ((tt.mono (G := fun i => i = E + 3 ∨ i = D) (fun _ h => .inl (.inl h))).trans tp (fun _ h => .inl (.inr h))) (fun i hi => by omega)⟩
    refine AllReadyH.cons rfl (fun K' hK' => ?_) AllReadyH.nil
    go_simp
    refine hK'.out _ _ (HS.out _ (by assumption)) (fun hHeld => ?_)
    clear hK' K'
    (try simp only [Act.put, List.setIfInBounds_toArray, List.set_cons_zero, List.set_cons_succ])
    refine wpAnyH_ready (rs := [8]) (by kernel_rfl) (by simp) ?_
    refine AllReadyH.cons rfl (fun K' hK' => ?_) AllReadyH.nil
    go_simp
    refine hK'.out _ _ (HS.out _ (by assumption)) (fun hHeld => ?_)
    clear hK' K'
    (try simp only [Act.put, List.setIfInBounds_toArray, List.set_cons_zero, List.set_cons_succ])
    refine wpAnyH_ready (rs := [14]) (by kernel_rfl) (by simp) ?_
    refine AllReadyH.cons rfl (fun K' hK' => ?_) AllReadyH.nil
    refine Eq.mpr (if_pos (show Region.wanted _ _ = true from rfl)) ?_
    refine Lib.wp_append_run _ (.tmp 66) (.tmp 71) 83 83 rfl _ _ rfl rfl _ _ (HAP.out _) ?_
    refine hK'.out _ _ (HS.out _ (by assumption)) (fun hHeld => ?_)
    clear hK' K'
    (try simp only [Act.put, List.setIfInBounds_toArray])
    refine wpAnyH_take (i := 17) (oi := ?oi17b) (v := ?v17b) ?hi17b (by kernel_rfl) (by kernel_rfl) (by kernel_rfl) ?hq17b (Or.inl ⟨?hw17b, ?hy17b⟩) (by assumption) ?rest17b
    case hi17b => simp only [List.getElem?_toArray, List.getElem?_cons_succ, List.getElem?_cons_zero]; rfl
    case hq17b => exact fun _ _ _ h => h
    case hw17b => rfl
    case hy17b => (intro w hSw; (try dsimp only at hSw); obtain ⟨hs0, hs1, hs2⟩ := hSw; go_simp; (try (with_reducible rfl)))
    (try simp only [Act.put])
    refine wpAnyH_take (i := 18) (oi := ?oi18b) (v := ?v18b) ?hi18b (by kernel_rfl) (by kernel_rfl) (by kernel_rfl) ?hq18b (Or.inl ⟨?hw18b, ?hy18b⟩) (by assumption) ?rest18b
    case hi18b => simp only [List.getElem?_toArray, List.getElem?_cons_succ, List.getElem?_cons_zero]; rfl
    case hq18b => exact fun _ _ _ h => h
    case hw18b => rfl
    case hy18b => (intro w hSw; (try dsimp only at hSw); obtain ⟨hs0, hs1, hs2⟩ := hSw; go_simp; (try (with_reducible rfl)))
    (try simp only [Act.put])
    refine wpAnyH_ready (rs := [19]) (by kernel_rfl) (by simp) ?_
    refine AllReadyH.cons rfl (fun K' hK' => ?_) AllReadyH.nil
    go_simp
    refine hK'.out _ _ (HS.out _ (by assumption)) (fun hHeld => ?_)
    clear hK' K'
    (try simp only [Act.put])
    refine wpAnyH_done (by kernel_rfl) (NoPanic.normal ?_) _
    refine aK0 _ _ ?_
    have g3 := T3.heap HREST.out.2.2.2.2.1.b3 (HNN.out (E + 3) (by omega) (by omega))
    have hD1 : ¬ CFoot c S V D := fun h => by have := HI.out.2.2.2.2.2 D h; have := HI.out.2.2.1; have := HI.out.2.2.2.2.1; omega
    have hDX : D < X.heap.size := lt_of_block HK.out
    have hD2 : ¬ CFoot c S' V' D := fun h => by rcases HFAR.out D h with h | h; (have := HI.out.2.2.1; have := HI.out.2.2.2.2.1; omega); omega
    have hD3 : ¬ (D = c ∨ Blk (.slice pw (S' 1).ws.length cw) D) := fun h => hD2 (h.elim (fun e => .inl e) (fun h => .inr ⟨1, by omega, .inl (.inr (.inr (by rw [HREST.out.2.2.2.2.2.2.2.2.2.1]; exact h)))⟩))
    have kD := T3.heap (HREST.out.2.2.1.heap HK.out hD1) hD3
    obtain ⟨mC, mT, mF⟩ := made_ws HREST.out.1 HREST.out.2.2.2.2.2.2.2.2.2.2.2.2.2.2 (e := 1) (by omega) HREST.out.2.2.2.2.2.2.2.2.1 (ws := (S' 1).ws ++ [⟨k, tx⟩]) (vw := .slice p7 ((S' 1).ws.length + 1) c7) (by rw [List.length_append, wcells_app]; exact HREST.out.2.2.2.2.2.1) (by rw [HREST.out.2.2.2.2.2.2.2.2.2.1]; exact HREST.out.2.2.2.2.2.2.1) (fun j hj => by
      rw [HREST.out.2.2.2.2.2.2.2.2.2.1]
      rcases HREST.out.2.2.2.2.2.2.2.1 j hj with h | h
      · exact .inl h
      · right; have := HREST.out.2.2.2.2.2.2.2.2.2.2.2.2.2.2.size; omega) (M := N + 2) (by omega) (by have := (HREST.out.1.len 1 (by omega)).2.2; rw [List.length_append]; simp; omega)
    simp only [plc, Nat.reduceMul, Nat.reduceAdd] at mC mT mF
    have y3 : (W7.setCell ⟨c, 8, none⟩ (.slice p7 ((S' 1).ws.length + 1) c7)).cell? ⟨E + 3, 0, none⟩ = some (.int .i64 0) := by rw [cell_at g3]; rfl
    have w3 := free_at g3 0
    have HEND := Lib.hid (And.intro g3 (And.intro kD (And.intro mC (And.intro mT mF))))
    clear g3 kD mC mT mF hD1 hD2 hD3 T0 T1 T2 T3 TN hHeld o7 z7 o3 z3
    gi_wp2
    have hEE := HI.out.2.2
    have q1 := set_at HEND.out.1 0 (.int .i64 0)
    have tt := (Turn.refl (fun i => i = E + 3) (W7.setCell ⟨c, 8, none⟩ (.slice p7 ((S' 1).ws.length + 1) c7))).setCell (p := ⟨E + 3, 0, none⟩) (.inl rfl) (.int .i64 0)
    have hKD := tt.heap HEND.out.2.1 (by omega)
    have tp := turn_putObj ((W7.setCell ⟨c, 8, none⟩ (.slice p7 ((S' 1).ws.length + 1) c7)).setCell ⟨E + 3, 0, none⟩ (.int .i64 0)) D (.deferred none)
    refine ⟨by simp, .inl ⟨_, _, rfl, run_takeDeferred hKD, ?_⟩⟩
    have w0 : (((W7.setCell ⟨c, 8, none⟩ (.slice p7 ((S' 1).ws.length + 1) c7)).setCell ⟨E + 3, 0, none⟩ (.int .i64 0)).putObj D (.deferred none)).cell? ⟨E + 3, 0, none⟩ = some (.int .i64 0) := by rw [cell_at (tp.heap q1 (by omega))]; rfl
    have hm := Made.after HREST.out.2.2.1 HREST.out.2.2.2.1 ⟨_, _, HEND.out.2.2.1, plane_ws HREST.out.2.1, HEND.out.2.2.2.1, HEND.out.2.2.2.2⟩
    have hx := lt_of_block HI.out.2.1.b3
    have hd := lt_of_block HK.out
    exact ⟨.int .i64 0, by rw [results_c1 rfl]; go_simp, rfl, hm.beside HI.out.1 (HM.out w (Turn.refl _ _)) ((tt.mono (G := fun i => i = E + 3 ∨ i = D) (fun _ h => .inl (.inl h))).trans tp (fun _ h => .inl (.inr h))) (fun i hi => by omega)⟩
  case stop =>
    rintro D cc pre X hD - h hK
    exact h.elim
end
end Go.Proofs.Ytcbphfpfdfgehaa
