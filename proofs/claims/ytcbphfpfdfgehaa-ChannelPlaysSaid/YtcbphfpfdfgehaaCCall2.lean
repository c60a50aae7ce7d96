/-
  What Call answers where nobody bars it, and what it makes of the channel. No conditions but that the channel is one that calls can make.
-/
import Derived.Test.YtcbphfpfdfgehaaCCall
namespace Go.Proofs.Ytcbphfpfdfgehaa
open Go.ChangeShapes Go.WideShapes Go.ChangeAt Go.RowKit Go.Shelf

attribute [local go_sem] Oper.semAt_some

section
variable {w : World} {c depth N : Nat} {S : Nat → Sd} {V : Nat → SV}
set_option maxRecDepth 100000 in
set_option maxHeartbeats 4000000 in
theorem call_fail0 (hC : CMem w c depth N S V) (hN : N ≤ 1000000) (ho : (S 0).op = true) (k : Int) (tx : Int) (htx : tx ≠ 0) (hk : ¬ k < 0) (hno : NoBar 0 k tx (waitL S 0)) (vd vh : Value) (hd : ∃ p n c, vd = .slice p n c) (hh : ∃ p n c, vh = .slice p n c) (n st : Int) (hst : st ≠ 0)
    (cW : ∀ W, Turn NoBlock w W → Calls Try.prog 36 #[.pointer (some ⟨c, 0, none⟩), .int .i64 0, .agg #[.int .i64 tx, vd, vh]] W fun x w' => x = .returned (.tuple #[.int .i64 n, .int .i64 st]) ∧ Turn NoBlock W w') :
    Calls Try.prog 42 #[.pointer (some ⟨c, 0, none⟩), .int .i64 0, .int .i64 k, .agg #[.int .i64 tx, vd, vh]] w fun x w' => x = .returned (.int .i64 st) ∧ Turn NoBlock w w' := by
  have HC := Lib.hid (fun W (t : Turn NoBlock w W) => show Calls Try.prog 48 #[.pointer (some ⟨c, 0, none⟩), .int .i64 0] W _ from right_yes (hC.past t) (e := 0) (by omega) ho)
  obtain ⟨p1, n1, c1, rfl⟩ := hd
  obtain ⟨p2, n2, c2, rfl⟩ := hh
  have HX := Lib.hid hno
  have CW := Lib.hid cW
  have hsb : (st != 0) = true := bne_iff_ne.2 hst
  have HM := Lib.hid (fun W (t : Turn NoBlock w W) => hC.past t)
  have HN := Lib.hid hN
  have h0 : (tx == 0) = false := beq_eq_false_iff_ne.2 htx
  clear hC ho hno htx hN cW hst
  refine (callsIn_wide (n := 6)).1 ?_
  refine callsIn_of_wp_marks (F := Fence.wide) Try.func42 rfl trivial ?_ rfl
  simp only [Try.ntmps42, List.size_toArray, List.length_cons, List.length_nil, Nat.reduceAdd, Nat.reduceSub, Array.replicate_succ, Array.replicate_zero, List.push_toArray, List.append_toArray, List.nil_append, List.cons_append]
  gi_wp2_with (first
    | (refine ⟨trivial, ?_⟩; gi_at_call 48; refine (callsIn_wide.2 (HC.out _ (((((Turn.refl NoBlock w).alloc _).alloc _).alloc _).alloc _))).mono ?_; rintro e w' ⟨rfl, rfl⟩)
    | (refine ⟨trivial, ?_⟩; gi_at_call 70; refine (callsIn_wide.2 (waiting_any _ c 0)).mono ?_; rintro e w' ⟨rfl, rfl⟩))
  obtain ⟨E, hE⟩ : ∃ E, w.heap.size = E := ⟨_, rfl⟩
  obtain ⟨W0, hW0, hcb, hb4, hb5, hsz, hT⟩ := cb_new w 0 k tx (.slice p1 n1 c1) (.slice p2 n2 c2) c
  simp only [hE, Nat.add_assoc, Nat.reduceAdd]
  rw [hW0]
  rw [hE] at hcb hb4 hb5 hsz
  have hQ0 : WSees (E + 5) (E + 4) 0 c depth N S V W0 := ⟨hb5, hb4, HM.out W0 hT⟩
  clear hW0
  refine range2 (gf := 82) (lb := #[.pointer (some ⟨E + 5, 0, none⟩), .pointer (some ⟨E + 4, 0, none⟩)]) rfl (enters_of Try.func82 (by kernel_rfl) rfl)
    (wait_gives0 (E + 5) (E + 4) c depth N S V (by have := HN.out; omega)) (fun _ => rfl)
    (fun pre X => NoBar 0 k tx pre ∧ WSees (E + 5) (E + 4) 0 c depth N S V X ∧ Turn NoBlock w X ∧ CB X E 0 k tx (.slice p1 n1 c1) (.slice p2 n2 c2))
    (fun _ _ _ => False) ?hI ?hIx (fun _ _ h => h.2.1) ⟨fun x hx => by simp at hx, hQ0, hT, hcb⟩
    (fun x a' X => ∃ Bx, E + 6 ≤ Bx ∧ X.heap[Bx]? = some (.cells #[.int .i64 x.2.who, .int .i64 x.2.tx] 126 (0, 0)) ∧ a' = { tmps := (.pointer (some ⟨c, 0, none⟩) :: .int .i64 0 :: .int .i64 k :: .agg #[.int .i64 tx, .slice p1 n1 c1, .slice p2 n2 c2] :: undef :: .pointer (some ⟨E, 0, none⟩) :: .pointer (some ⟨E + 1, 0, none⟩) :: .pointer (some ⟨E + 2, 0, none⟩) :: .pointer (some ⟨E + 3, 0, none⟩) :: .int .i64 0 :: .int .i64 (x.1 : Int) :: .pointer (some ⟨Bx, 0, none⟩) :: undef :: undef :: .pointer (some ⟨c, 0, none⟩) :: .int .i64 0 :: .int .i64 0 :: .int .i64 0 :: .bool false :: undef :: .pointer (some ⟨E + 2, 0, none⟩) :: .int .i64 tx :: .bool false :: .bool false :: .int .i64 k :: .bool (decide (k < 0)) :: .bool (decide (k < 0)) :: .pointer (some ⟨c, 0, none⟩) :: .int .i64 0 :: .func (.func 82) #[] #[.pointer (some ⟨E + 5, 0, none⟩), .pointer (some ⟨E + 4, 0, none⟩)] :: .int .i64 (x.1 : Int) :: x.2.agg :: undef :: undef :: undef :: undef :: undef :: undef :: undef :: undef :: undef :: undef :: undef :: undef :: undef :: undef :: undef :: undef :: undef :: undef :: undef :: undef :: undef :: undef :: undef :: undef :: undef :: undef :: undef :: undef :: undef :: undef :: undef :: undef :: undef :: undef :: undef :: undef :: undef :: undef :: undef :: undef :: undef :: undef :: undef :: undef :: undef :: [] : List Value).toArray, defers := [] }) ?hAx ?assign ?body ?done ?stop
  case hI =>
    rintro pre X Y row ⟨hn, hq, ht, hr0⟩ hg hr
    exact ⟨hn, hq.grown hQ0 hg (fun r e => (hr r e).1), ht.grown hg (fun r e => .inr (by have := (hr r e).1; omega)), hr0.kept (turn_of_grown hg) (fun i h1 h2 e => by have := (hr i e).1; omega)⟩
  case hIx => exact fun _ _ _ _ _ hs _ _ => hs
  case hAx =>
    rintro x a' - X Y row ⟨Bx, hlt, hb, rfl⟩ hg hr
    exact ⟨Bx, hlt, heap_nocell hb hg (fun r e => (hr r e).2), rfl⟩
  case assign =>
    rintro l pre ⟨a, t⟩ X K ⟨hn, hq, ht, hr0⟩ - hX hK
    have HK := Lib.hid hK
    have HI := Lib.hid (And.intro hn (And.intro hq (And.intro ht (And.intro hr0 (And.intro hX hsz)))))
    unfold wEnc Wt.agg
    clear hn hq ht hr0 hX hK hE hQ0 hT hcb hb4 hb5 hsz
    gi_wp2
    have ta : Turn NoBlock X (X.alloc (.cells #[.int .i64 t.who, .int .i64 t.tx] 126)) := (Turn.refl _ X).alloc _
    refine HK.out _ _ (KeepsAll.of_turn ta (fun _ h => h.elim)) ⟨HI.out.1, HI.out.2.1.kept ta (fun _ _ h => h), TT HI.out.2.2.1 ta, HI.out.2.2.2.1.kept ta (fun _ _ _ h => h)⟩ ⟨X.heap.size, ?_, ?_, ?_⟩
    · have := HI.out.2.2.2.2; omega
    · rw [heap_alloc_new]
    · rfl
  case body =>
    rintro l pre ⟨a, t⟩ a' X hX ⟨hn, hq, ht, hr0⟩ ⟨Bx, hBx, hbx2, rfl⟩ ⟨⟨ha, hmem⟩, -⟩
    have e0 : X.cell? ⟨E, 0, none⟩ = some (.int .i64 0) := by rw [cell_at hr0.b0]; rfl
    have e1 : X.cell? ⟨E + 1, 0, none⟩ = some (.int .i64 k) := by rw [cell_at hr0.b1]; rfl
    have e2 : X.cell? ⟨E + 2, 0, none⟩ = some (.int .i64 tx) := by rw [cell_at hr0.b2]; rfl
    have x0 : X.cell? ⟨Bx, 0, none⟩ = some (.int .i64 t.who) := by rw [cell_at hbx2]; rfl
    have x1 : X.cell? ⟨Bx, 1, none⟩ = some (.int .i64 t.tx) := by rw [cell_at hbx2]; rfl
    have ha2 : a = 0 ∨ a = 1 := by omega
    have hnb : ¬ Bars 0 k tx (a, t) := HX.out (a, t) (by
      unfold waitL oth
      rcases ha2 with rfl | rfl
      · exact List.mem_append_left _ (List.mem_map.2 ⟨t, hmem, rfl⟩)
      · exact List.mem_append_right _ (List.mem_map.2 ⟨t, hmem, rfl⟩))
    have HI := Lib.hid (And.intro hn (And.intro hq (And.intro ht hr0)))
    have HNB := Lib.hid hnb
    have hwb : (t.who == k) = false := beq_eq_false_iff_ne.2 (fun h => hnb (.inl h))
    unfold Wt.agg
    rcases ha2 with rfl | rfl
    · have hxb : (t.tx == tx) = false := beq_eq_false_iff_ne.2 (fun h => hnb (.inr ⟨rfl, h⟩))
      simp only [z0]
      clear hn hq ht hr0 hX hbx2 hE hQ0 hT hcb hb4 hb5 hsz hnb hmem ha
      gi_wp2
      exact ⟨KeepsAll.refl _ _, HI.out.1.snoc HNB.out, HI.out.2⟩
    · simp only [z1]
      clear hn hq ht hr0 hX hbx2 hE hQ0 hT hcb hb4 hb5 hsz hnb hmem ha
      gi_wp2
      exact ⟨KeepsAll.refl _ _, HI.out.1.snoc HNB.out, HI.out.2⟩
  case done =>
    rintro D xs X hD - ⟨-, -, ht, hr0⟩ hK
    have e0 : X.cell? ⟨E, 0, none⟩ = some (.int .i64 0) := by rw [cell_at hr0.b0]; rfl
    obtain ⟨m0, m1, m2⟩ := box3 hr0.b2
    have HI := Lib.hid (And.intro ht (And.intro hr0 (And.intro hD (And.intro hE hsz))))
    have HK := Lib.hid hK
    clear ht hr0 hD hE hsz hK hQ0 hT hcb hb4 hb5
    gi_wp2_with (refine ⟨trivial, ?_⟩; gi_at_call 36; refine (callsIn_wide.2 (CW.out X HI.out.1)).mono ?_; rintro x Y ⟨rfl, tY⟩; have g3 := tY.heap HI.out.2.1.b3 (fun h => h); have y3 : Y.cell? ⟨E + 3, 0, none⟩ = some (.int .i64 0) := (by rw [cell_at g3]; rfl); have z3 := free_at g3 0; have TY := Lib.hid (And.intro tY g3); clear tY g3)
    have hEE := HI.out.2.2
    have q1 := set_at TY.out.2 0 (.int .i64 st)
    have tt := (Turn.refl (fun i => i = E + 3) Y).setCell (p := ⟨E + 3, 0, none⟩) (.inl rfl) (.int .i64 st)
    have hKD := tt.heap (TY.out.1.heap HK.out (fun h => h)) (by omega)
    have tp := turn_putObj (Y.setCell ⟨E + 3, 0, none⟩ (.int .i64 st)) D (.deferred none)
    refine ⟨by simp, .inl ⟨_, _, rfl, run_takeDeferred hKD, ?_⟩⟩
    have w0 : ((Y.setCell ⟨E + 3, 0, none⟩ (.int .i64 st)).putObj D (.deferred none)).cell? ⟨E + 3, 0, none⟩ = some (.int .i64 st) := by rw [cell_at (tp.heap q1 (by omega))]; rfl
    exact ⟨.int .i64 st, by rw [results_c1 rfl]; go_simp, rfl, ((TT HI.out.1 TY.out.1).trans tt (fun i hi => .inr (by omega))).trans tp (fun i hi => .inr (by omega))⟩
  case stop =>
    rintro D cc pre X hD - h hK
    exact h.elim
set_option maxRecDepth 100000 in
set_option maxHeartbeats 4000000 in
theorem call_fail1 (hC : CMem w c depth N S V) (hN : N ≤ 1000000) (ho : (S 1).op = true) (k : Int) (tx : Int) (htx : tx ≠ 0) (hk : ¬ k < 0) (hno : NoBar 1 k tx (waitL S 1)) (vd vh : Value) (hd : ∃ p n c, vd = .slice p n c) (hh : ∃ p n c, vh = .slice p n c) (n st : Int) (hst : st ≠ 0)
    (cW : ∀ W, Turn NoBlock w W → Calls Try.prog 36 #[.pointer (some ⟨c, 0, none⟩), .int .i64 1, .agg #[.int .i64 tx, vd, vh]] W fun x w' => x = .returned (.tuple #[.int .i64 n, .int .i64 st]) ∧ Turn NoBlock W w') :
    Calls Try.prog 42 #[.pointer (some ⟨c, 0, none⟩), .int .i64 1, .int .i64 k, .agg #[.int .i64 tx, vd, vh]] w fun x w' => x = .returned (.int .i64 st) ∧ Turn NoBlock w w' := by
  have HC := Lib.hid (fun W (t : Turn NoBlock w W) => show Calls Try.prog 48 #[.pointer (some ⟨c, 0, none⟩), .int .i64 1] W _ from right_yes (hC.past t) (e := 1) (by omega) ho)
  obtain ⟨p1, n1, c1, rfl⟩ := hd
  obtain ⟨p2, n2, c2, rfl⟩ := hh
  have HX := Lib.hid hno
  have CW := Lib.hid cW
  have hsb : (st != 0) = true := bne_iff_ne.2 hst
  have HM := Lib.hid (fun W (t : Turn NoBlock w W) => hC.past t)
  have HN := Lib.hid hN
  have h0 : (tx == 0) = false := beq_eq_false_iff_ne.2 htx
  clear hC ho hno htx hN cW hst
  refine (callsIn_wide (n := 6)).1 ?_
  refine callsIn_of_wp_marks (F := Fence.wide) Try.func42 rfl trivial ?_ rfl
  simp only [Try.ntmps42, List.size_toArray, List.length_cons, List.length_nil, Nat.reduceAdd, Nat.reduceSub, Array.replicate_succ, Array.replicate_zero, List.push_toArray, List.append_toArray, List.nil_append, List.cons_append]
  gi_wp2_with (first
    | (refine ⟨trivial, ?_⟩; gi_at_call 48; refine (callsIn_wide.2 (HC.out _ (((((Turn.refl NoBlock w).alloc _).alloc _).alloc _).alloc _))).mono ?_; rintro e w' ⟨rfl, rfl⟩)
    | (refine ⟨trivial, ?_⟩; gi_at_call 70; refine (callsIn_wide.2 (waiting_any _ c 1)).mono ?_; rintro e w' ⟨rfl, rfl⟩))
  obtain ⟨E, hE⟩ : ∃ E, w.heap.size = E := ⟨_, rfl⟩
  obtain ⟨W0, hW0, hcb, hb4, hb5, hsz, hT⟩ := cb_new w 1 k tx (.slice p1 n1 c1) (.slice p2 n2 c2) c
  simp only [hE, Nat.add_assoc, Nat.reduceAdd]
  rw [hW0]
  rw [hE] at hcb hb4 hb5 hsz
  have hQ0 : WSees (E + 5) (E + 4) 1 c depth N S V W0 := ⟨hb5, hb4, HM.out W0 hT⟩
  clear hW0
  refine range2 (gf := 82) (lb := #[.pointer (some ⟨E + 5, 0, none⟩), .pointer (some ⟨E + 4, 0, none⟩)]) rfl (enters_of Try.func82 (by kernel_rfl) rfl)
    (wait_gives1 (E + 5) (E + 4) c depth N S V (by have := HN.out; omega)) (fun _ => rfl)
    (fun pre X => NoBar 1 k tx pre ∧ WSees (E + 5) (E + 4) 1 c depth N S V X ∧ Turn NoBlock w X ∧ CB X E 1 k tx (.slice p1 n1 c1) (.slice p2 n2 c2))
    (fun _ _ _ => False) ?hI ?hIx (fun _ _ h => h.2.1) ⟨fun x hx => by simp at hx, hQ0, hT, hcb⟩
    (fun x a' X => ∃ Bx, E + 6 ≤ Bx ∧ X.heap[Bx]? = some (.cells #[.int .i64 x.2.who, .int .i64 x.2.tx] 126 (0, 0)) ∧ a' = { tmps := (.pointer (some ⟨c, 0, none⟩) :: .int .i64 1 :: .int .i64 k :: .agg #[.int .i64 tx, .slice p1 n1 c1, .slice p2 n2 c2] :: undef :: .pointer (some ⟨E, 0, none⟩) :: .pointer (some ⟨E + 1, 0, none⟩) :: .pointer (some ⟨E + 2, 0, none⟩) :: .pointer (some ⟨E + 3, 0, none⟩) :: .int .i64 0 :: .int .i64 (x.1 : Int) :: .pointer (some ⟨Bx, 0, none⟩) :: undef :: undef :: .pointer (some ⟨c, 0, none⟩) :: .int .i64 1 :: .int .i64 0 :: .int .i64 0 :: .bool false :: undef :: .pointer (some ⟨E + 2, 0, none⟩) :: .int .i64 tx :: .bool false :: .bool false :: .int .i64 k :: .bool (decide (k < 0)) :: .bool (decide (k < 0)) :: .pointer (some ⟨c, 0, none⟩) :: .int .i64 1 :: .func (.func 82) #[] #[.pointer (some ⟨E + 5, 0, none⟩), .pointer (some ⟨E + 4, 0, none⟩)] :: .int .i64 (x.1 : Int) :: x.2.agg :: undef :: undef :: undef :: undef :: undef :: undef :: undef :: undef :: undef :: undef :: undef :: undef :: undef :: undef :: undef :: undef :: undef :: undef :: undef :: undef :: undef :: undef :: undef :: undef :: undef :: undef :: undef :: undef :: undef :: undef :: undef :: undef :: undef :: undef :: undef :: undef :: undef :: undef :: undef :: undef :: undef :: undef :: undef :: undef :: undef :: [] : List Value).toArray, defers := [] }) ?hAx ?assign ?body ?done ?stop
  case hI =>
    rintro pre X Y row ⟨hn, hq, ht, hr0⟩ hg hr
    exact ⟨hn, hq.grown hQ0 hg (fun r e => (hr r e).1), ht.grown hg (fun r e => .inr (by have := (hr r e).1; omega)), hr0.kept (turn_of_grown hg) (fun i h1 h2 e => by have := (hr i e).1; omega)⟩
  case hIx => exact fun _ _ _ _ _ hs _ _ => hs
  case hAx =>
    rintro x a' - X Y row ⟨Bx, hlt, hb, rfl⟩ hg hr
    exact ⟨Bx, hlt, heap_nocell hb hg (fun r e => (hr r e).2), rfl⟩
  case assign =>
    rintro l pre ⟨a, t⟩ X K ⟨hn, hq, ht, hr0⟩ - hX hK
    have HK := Lib.hid hK
    have HI := Lib.hid (And.intro hn (And.intro hq (And.intro ht (And.intro hr0 (And.intro hX hsz)))))
    unfold wEnc Wt.agg
    clear hn hq ht hr0 hX hK hE hQ0 hT hcb hb4 hb5 hsz
    gi_wp2
    have ta : Turn NoBlock X (X.alloc (.cells #[.int .i64 t.who, .int .i64 t.tx] 126)) := (Turn.refl _ X).alloc _
    refine HK.out _ _ (KeepsAll.of_turn ta (fun _ h => h.elim)) ⟨HI.out.1, HI.out.2.1.kept ta (fun _ _ h => h), TT HI.out.2.2.1 ta, HI.out.2.2.2.1.kept ta (fun _ _ _ h => h)⟩ ⟨X.heap.size, ?_, ?_, ?_⟩
    · have := HI.out.2.2.2.2; omega
    · rw [heap_alloc_new]
    · rfl
  case body =>
    rintro l pre ⟨a, t⟩ a' X hX ⟨hn, hq, ht, hr0⟩ ⟨Bx, hBx, hbx2, rfl⟩ ⟨⟨ha, hmem⟩, -⟩
    have e0 : X.cell? ⟨E, 0, none⟩ = some (.int .i64 1) := by rw [cell_at hr0.b0]; rfl
    have e1 : X.cell? ⟨E + 1, 0, none⟩ = some (.int .i64 k) := by rw [cell_at hr0.b1]; rfl
    have e2 : X.cell? ⟨E + 2, 0, none⟩ = some (.int .i64 tx) := by rw [cell_at hr0.b2]; rfl
    have x0 : X.cell? ⟨Bx, 0, none⟩ = some (.int .i64 t.who) := by rw [cell_at hbx2]; rfl
    have x1 : X.cell? ⟨Bx, 1, none⟩ = some (.int .i64 t.tx) := by rw [cell_at hbx2]; rfl
    have ha2 : a = 1 ∨ a = 0 := by omega
    have hnb : ¬ Bars 1 k tx (a, t) := HX.out (a, t) (by
      unfold waitL oth
      rcases ha2 with rfl | rfl
      · exact List.mem_append_left _ (List.mem_map.2 ⟨t, hmem, rfl⟩)
      · exact List.mem_append_right _ (List.mem_map.2 ⟨t, hmem, rfl⟩))
    have HI := Lib.hid (And.intro hn (And.intro hq (And.intro ht hr0)))
    have HNB := Lib.hid hnb
    have hwb : (t.who == k) = false := beq_eq_false_iff_ne.2 (fun h => hnb (.inl h))
    unfold Wt.agg
    rcases ha2 with rfl | rfl
    · have hxb : (t.tx == tx) = false := beq_eq_false_iff_ne.2 (fun h => hnb (.inr ⟨rfl, h⟩))
      simp only [z1]
      clear hn hq ht hr0 hX hbx2 hE hQ0 hT hcb hb4 hb5 hsz hnb hmem ha
      gi_wp2
      exact ⟨KeepsAll.refl _ _, HI.out.1.snoc HNB.out, HI.out.2⟩
    · simp only [z0]
      clear hn hq ht hr0 hX hbx2 hE hQ0 hT hcb hb4 hb5 hsz hnb hmem ha
      gi_wp2
      exact ⟨KeepsAll.refl _ _, HI.out.1.snoc HNB.out, HI.out.2⟩
  case done =>
    rintro D xs X hD - ⟨-, -, ht, hr0⟩ hK
    have e0 : X.cell? ⟨E, 0, none⟩ = some (.int .i64 1) := by rw [cell_at hr0.b0]; rfl
    obtain ⟨m0, m1, m2⟩ := box3 hr0.b2
    have HI := Lib.hid (And.intro ht (And.intro hr0 (And.intro hD (And.intro hE hsz))))
    have HK := Lib.hid hK
    clear ht hr0 hD hE hsz hK hQ0 hT hcb hb4 hb5
    gi_wp2_with (refine ⟨trivial, ?_⟩; gi_at_call 36; refine (callsIn_wide.2 (CW.out X HI.out.1)).mono ?_; rintro x Y ⟨rfl, tY⟩; have g3 := tY.heap HI.out.2.1.b3 (fun h => h); have y3 : Y.cell? ⟨E + 3, 0, none⟩ = some (.int .i64 0) := (by rw [cell_at g3]; rfl); have z3 := free_at g3 0; have TY := Lib.hid (And.intro tY g3); clear tY g3)
    have hEE := HI.out.2.2
    have q1 := set_at TY.out.2 0 (.int .i64 st)
    have tt := (Turn.refl (fun i => i = E + 3) Y).setCell (p := ⟨E + 3, 0, none⟩) (.inl rfl) (.int .i64 st)
    have hKD := tt.heap (TY.out.1.heap HK.out (fun h => h)) (by omega)
    have tp := turn_putObj (Y.setCell ⟨E + 3, 0, none⟩ (.int .i64 st)) D (.deferred none)
    refine ⟨by simp, .inl ⟨_, _, rfl, run_takeDeferred hKD, ?_⟩⟩
    have w0 : ((Y.setCell ⟨E + 3, 0, none⟩ (.int .i64 st)).putObj D (.deferred none)).cell? ⟨E + 3, 0, none⟩ = some (.int .i64 st) := by rw [cell_at (tp.heap q1 (by omega))]; rfl
    exact ⟨.int .i64 st, by rw [results_c1 rfl]; go_simp, rfl, ((TT HI.out.1 TY.out.1).trans tt (fun i hi => .inr (by omega))).trans tp (fun i hi => .inr (by omega))⟩
  case stop =>
    rintro D cc pre X hD - h hK
    exact h.elim
end
end Go.Proofs.Ytcbphfpfdfgehaa
