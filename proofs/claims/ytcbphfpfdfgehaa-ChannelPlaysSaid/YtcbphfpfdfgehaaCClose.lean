/-
  What Close answers, and what it makes of the channel. No conditions but that the channel is one that calls can make.
-/
import Derived.Test.YtcbphfpfdfgehaaCForget
namespace Go.Proofs.Ytcbphfpfdfgehaa
open Go.ChangeShapes Go.WideShapes Go.ChangeAt Go.RowKit Go.Shelf

attribute [local go_sem] Oper.semAt_some

theorem shut_step {w : World} {c o : Nat} {s : Sd} {v : SV} (h : SAt w c o s v) : SStep w ((((w.setCell ⟨c, o, none⟩ (.bool false)).setCell ⟨c, o + 1, none⟩ (.slice none 0 0)).setCell ⟨c, o + 2, none⟩ (.slice none 0 0)).setCell ⟨c, o + 3, none⟩ (.slice none 0 0)) c o s v Sd.cl SV.cl := by
  have t0 := Turn.refl (fun k => k = c ∨ v.F k) w
  refine ⟨(((t0.setCell (p := ⟨c, o, none⟩) (.inl (.inl rfl)) _).setCell (p := ⟨c, o + 1, none⟩) (.inl (.inl rfl)) _).setCell (p := ⟨c, o + 2, none⟩) (.inl (.inl rfl)) _).setCell (p := ⟨c, o + 3, none⟩) (.inl (.inl rfl)) _, fun j hj => ?_,
    ⟨(((h.typ.set _ _ _).set _ _ _).set _ _ _).set _ _ _, ?_, ?_, ?_, ?_, wrow_nil _ _ _, wrow_nil _ _ _, wrow_nil _ _ _, fun k hk => (blk_nil k hk).elim, fun q hq => by simp [Sd.cl] at hq⟩, fun k hk => (blk_nil k hk).elim, fun k hk => (blk_nil k hk).elim, fun k hk => (blk_nil k hk).elim, fun q hq => by simp [Sd.cl] at hq⟩
  · rw [cell_set_other (by omega), cell_set_other (by omega), cell_set_other (by omega), cell_set_other (by omega)]
  · rw [cell_set_other (by omega), cell_set_other (by omega), cell_set_other (by omega)]
    exact World.cell?_setCell_same' _ _ _ (by rw [h.c0]; rfl)
  · rw [cell_set_other (by omega), cell_set_other (by omega)]
    exact World.cell?_setCell_same' _ _ _ (by rw [cell_set_other (by omega), h.c1]; rfl)
  · rw [cell_set_other (by omega)]
    exact World.cell?_setCell_same' _ _ _ (by rw [cell_set_other (by omega), cell_set_other (by omega), h.c2]; rfl)
  · exact World.cell?_setCell_same' _ _ _ (by rw [cell_set_other (by omega), cell_set_other (by omega), cell_set_other (by omega), h.c3]; rfl)
theorem made_shut {w : World} {c depth N : Nat} {S : Nat → Sd} {V : Nat → SV} (hC : CMem w c depth N S V) {e ot : Nat} (he : e < 2) (ho : ot < 2) (hne : ot ≠ e) :
    Made w (((((w.setCell ⟨c, plc e, none⟩ (.bool false)).setCell ⟨c, plc e + 1, none⟩ (.slice none 0 0)).setCell ⟨c, plc e + 2, none⟩ (.slice none 0 0)).setCell ⟨c, plc e + 3, none⟩ (.slice none 0 0)).setCell ⟨c, plc ot + 3, none⟩ (.slice none 0 0)) c depth N S V (updN (updN (planeOf S) e ⟨false, [], []⟩) ot ⟨(planeOf S ot).op, (planeOf S ot).q, []⟩) := by
  obtain ⟨C1, F1, G1⟩ := hC.step he (shut_step (hC.s e he)) (Nat.le_refl N) ⟨Nat.zero_le _, Nat.zero_le _, Nat.zero_le _⟩ (fun _ => rfl) (allq_less he hC.apart (List.nil_sublist _) (List.nil_sublist _))
  have e1 : updN S e Sd.cl ot = S ot := updN_other _ _ hne
  have hln := C1.len ot ho
  have st2 := (C1.s ot ho).putW (ws := []) (vw := .slice none 0 0) (Turn.refl _ _) (wrow_nil _ _ _) (fun k hk => (blk_nil k hk).elim)
  obtain ⟨C2, F2, G2⟩ := C1.step ho st2 (Nat.le_refl N) ⟨hln.1, hln.2.1, Nat.zero_le _⟩ (fun h => by have := C1.cl ot ho h; rw [this]; rfl) (allq_less ho C1.apart (List.Sublist.refl _) (List.Sublist.refl _))
  refine ⟨_, _, C2, ?_, F1.trans F2 G1, fun k hk => ?_⟩
  · rw [plane_upd, plane_upd, e1]
    rfl
  · rcases G2 k hk with h | h
    · exact G1 k h
    · right; have := F1.size; omega
section
variable {w : World} {c depth N : Nat} {S : Nat → Sd} {V : Nat → SV}
set_option maxRecDepth 100000 in
set_option maxHeartbeats 4000000 in
theorem close_open0 (hC : CMem w c depth N S V) (hN : N ≤ 1000000) (ho : (S 0).op = true) :
    Calls Try.prog 46 #[.pointer (some ⟨c, 0, none⟩), .int .i64 0] w fun x w' => ∃ vh vc, x = .returned (.tuple #[vh, vc, .int .i64 0]) ∧ Nums vh (hsOf (S 0).q) w' ∧ Nums vc ((waitL S 0).map (·.2.who)) w' ∧ Made w w' c depth N S V (updN (updN (planeOf S) 0 ⟨false, [], []⟩) 1 ⟨(planeOf S 1).op, (planeOf S 1).q, []⟩) := by
  have HC := Lib.hid (fun W (t : Turn NoBlock w W) => show Calls Try.prog 48 #[.pointer (some ⟨c, 0, none⟩), .int .i64 0] W _ from right_yes (hC.past t) (e := 0) (by omega) ho)
  obtain ⟨i3, hi3, hz3, hs3, hb3⟩ := info_parts infoI
  have HM := Lib.hid (fun W (t : Turn NoBlock w W) => hC.past t)
  have HN := Lib.hid hN
  have HO := Lib.hid ho
  clear hC hN ho
  refine (callsIn_wide (n := 6)).1 ?_
  refine callsIn_of_wp_marks (F := Fence.wide) Try.func46 rfl trivial ?_ rfl
  simp only [Try.ntmps46, List.size_toArray, List.length_cons, List.length_nil, Nat.reduceAdd, Nat.reduceSub, Array.replicate_succ, Array.replicate_zero, List.push_toArray, List.append_toArray, List.nil_append, List.cons_append]
  gi_wp2_with (first
    | (refine ⟨trivial, ?_⟩; gi_at_call 48; refine (callsIn_wide.2 (HC.out _ ((Turn.refl NoBlock w).alloc _))).mono ?_; rintro e w' ⟨rfl, rfl⟩)
    | (refine ⟨trivial, ?_⟩; gi_at_call 70; refine (callsIn_wide.2 (waiting_any _ c 0)).mono ?_; rintro e w' ⟨rfl, rfl⟩))
  obtain ⟨E, hE⟩ : ∃ E, w.heap.size = E := ⟨_, rfl⟩
  have bx0 : Boxed (((w.alloc (.cells #[.slice none 0 0] 36)).alloc (.cells #[.pointer (some ⟨c, 0, none⟩)] 23)).alloc (.cells #[.int .i64 0] 3)) w.heap.size 36 (.slice none 0 0) := Boxed.alloc (Boxed.alloc (Boxed.new _ _ _) _) _
  have bx1 : Boxed (((w.alloc (.cells #[.slice none 0 0] 36)).alloc (.cells #[.pointer (some ⟨c, 0, none⟩)] 23)).alloc (.cells #[.int .i64 0] 3)) (w.heap.size + 1) 23 (.pointer (some ⟨c, 0, none⟩)) := by
    have := Boxed.alloc (Boxed.new (w.alloc (.cells #[.slice none 0 0] 36)) 23 (.pointer (some ⟨c, 0, none⟩))) (.cells #[.int .i64 0] 3)
    rwa [World.size_alloc] at this
  have bx2 : Boxed (((w.alloc (.cells #[.slice none 0 0] 36)).alloc (.cells #[.pointer (some ⟨c, 0, none⟩)] 23)).alloc (.cells #[.int .i64 0] 3)) (w.heap.size + 2) 3 (.int .i64 0) := by
    have := Boxed.new ((w.alloc (.cells #[.slice none 0 0] 36)).alloc (.cells #[.pointer (some ⟨c, 0, none⟩)] 23)) 3 (.int .i64 0)
    rwa [World.size_alloc, World.size_alloc] at this
  have hT : Turn NoBlock w (((w.alloc (.cells #[.slice none 0 0] 36)).alloc (.cells #[.pointer (some ⟨c, 0, none⟩)] 23)).alloc (.cells #[.int .i64 0] 3)) := (((Turn.refl _ w).alloc _).alloc _).alloc _
  have hst : (((w.alloc (.cells #[.slice none 0 0] 36)).alloc (.cells #[.pointer (some ⟨c, 0, none⟩)] 23)).alloc (.cells #[.int .i64 0] 3)).heap.size = E + 3 := by simp [hE]
  simp only [hE, Nat.add_assoc, Nat.reduceAdd] at bx0 bx1 bx2 ⊢
  generalize hW0 : World.alloc (World.alloc (World.alloc w (Obj.cells #[.slice none 0 0] 36)) (Obj.cells #[.pointer (some ⟨c, 0, none⟩)] 23)) (Obj.cells #[.int .i64 0] 3) = W0 at *
  clear hW0
  have hQ0 : WSees (E + 2) (E + 1) 0 c depth N S V W0 := ⟨bx2, bx1, HM.out W0 hT⟩
  refine range2 (gf := 82) (lb := #[.pointer (some ⟨E + 2, 0, none⟩), .pointer (some ⟨E + 1, 0, none⟩)]) rfl (enters_of Try.func82 (by kernel_rfl) rfl)
    (wait_gives0 (E + 2) (E + 1) c depth N S V (by have := HN.out; omega)) (fun _ => rfl)
    (fun pre X => (∃ u, Boxed X E 36 u ∧ Nums u (pre.map (·.2.who)) X ∧ ∀ k, Blk u k → E + 3 ≤ k) ∧ WSees (E + 2) (E + 1) 0 c depth N S V X ∧ Turn NoBlock w X)
    (fun _ _ _ => False) ?hI (fun _ _ _ _ _ hs _ _ => hs) (fun _ _ h => h.2.1) ⟨⟨_, bx0, wrow_nil _ _ _, fun k hk => (blk_nil k hk).elim⟩, hQ0, hT⟩
    (fun x a' X => ∃ Bx : Nat, X.heap[Bx]? = some (.cells #[.int .i64 x.2.who, .int .i64 x.2.tx] 126 (0, 0)) ∧ a' = { tmps := (.pointer (some ⟨c, 0, none⟩) :: .int .i64 0 :: undef :: undef :: .slice none 0 0 :: .pointer (some ⟨E, 0, none⟩) :: .int .i64 0 :: .int .i64 0 :: undef :: .pointer (some ⟨Bx, 0, none⟩) :: .pointer (some ⟨c, 0, none⟩) :: .int .i64 0 :: .int .i64 0 :: .int .i64 0 :: .bool false :: undef :: .pointer (some ⟨c, 0, none⟩) :: .int .i64 0 :: .func (.func 82) #[] #[.pointer (some ⟨E + 2, 0, none⟩), .pointer (some ⟨E + 1, 0, none⟩)] :: .int .i64 (x.1 : Int) :: x.2.agg :: undef :: undef :: undef :: undef :: undef :: undef :: undef :: undef :: undef :: undef :: undef :: undef :: undef :: undef :: undef :: undef :: undef :: undef :: undef :: undef :: undef :: undef :: undef :: undef :: undef :: undef :: [] : List Value).toArray, defers := [] }) ?hAx ?assign ?body ?done ?stop
  case hI =>
    rintro pre X Y row ⟨⟨u, hb, hu, hk⟩, hq, ht⟩ hg hr
    exact ⟨⟨u, boxed_nocell hb hg (fun r e => (hr r e).2), WRow.nocell hu hg (fun r e => (hr r e).2), hk⟩, hq.grown hQ0 hg (fun r e => (hr r e).1), ht.grown hg (fun r e => .inr (by have := (hr r e).1; omega))⟩
  case hAx =>
    rintro x a' - X Y row ⟨Bx, hb, rfl⟩ hg hr
    exact ⟨Bx, heap_nocell hb hg (fun r e => (hr r e).2), rfl⟩
  case assign =>
    rintro l pre ⟨a, t⟩ X K ⟨⟨u, hb, hu, hk⟩, hq, ht⟩ - hX hK
    have HK := Lib.hid hK
    have HI := Lib.hid (And.intro hb (And.intro hu (And.intro hk (And.intro hq (And.intro ht (And.intro hX hst))))))
    unfold wEnc Wt.agg
    clear hb hu hk hq ht hX hK hE hQ0 hT bx0 bx1 bx2 hst
    gi_wp2
    have ta : Turn NoBlock X (X.alloc (.cells #[.int .i64 t.who, .int .i64 t.tx] 126)) := (Turn.refl _ X).alloc _
    refine HK.out _ _ (KeepsAll.of_turn ta (fun _ h => h.elim)) ⟨⟨u, HI.out.1.alloc _, HI.out.2.1.past ta, HI.out.2.2.1⟩, HI.out.2.2.2.1.kept ta (fun _ _ h => h), TT HI.out.2.2.2.2.1 ta⟩ ⟨X.heap.size, ?_, ?_⟩
    · rw [heap_alloc_new]
    · rfl
  case body =>
    rintro l pre ⟨a, t⟩ a' X hX ⟨⟨u, hb, hu, hk⟩, hq, ht⟩ ⟨Bx, hbx, rfl⟩ ⟨⟨ha, hmem⟩, hlen⟩
    obtain ⟨pu, cu, rfl⟩ := hu.sl
    have hl0 := (hq.mem.len 0 (by omega)).2.2
    have hl1 := (hq.mem.len 1 (by omega)).2.2
    have hNN := HN.out
    have hpl : (pre.map (fun x : Nat × Wt => x.2.who)).length = pre.length := List.length_map ..
    unfold Nums at hu
    rw [hpl] at hu hb hk
    have f1 : pre.length + 1 ≤ maxLen := by unfold maxLen; omega
    have f2 : (pre.length + 1) * 8 ≤ 140737488355328 := by omega
    have hty : TBlk X E 36 := ⟨_, hb⟩
    have e0 := hb.cell
    have e1 := hty.free 0
    have elt := hb.lt
    have x0 : X.cell? ⟨Bx, 0, none⟩ = some (.int .i64 t.who) := by rw [cell_at hbx]; rfl
    have F := Lib.hid (And.intro f1 f2)
    have HU := Lib.hid hu
    have HB := Lib.hid (And.intro hb hty)
    have HI := Lib.hid (And.intro hk (And.intro hq (And.intro ht (And.intro hX (And.intro hst hE)))))
    unfold Wt.agg
    clear hb hu hk hq ht hbx f1 f2 hty hE hst hQ0 hT bx0 bx1 bx2 hX hmem hlen ha hl0 hl1 hNN hpl
    gi_wp2_with (gi_at_builtin; refine wpListIn_append_w rfl (.tmp 21) (.tmp 24) 36 36 rfl (HU.out.past ((Turn.refl NoBlock X).alloc _)) i3 _ 8 intsT hi3 hz3 hs3 hb3 rfl rfl rfl (Rd.src (rd_new X 3 1 #[.int .i64 t.who] rfl) 36 3 intsT (fun u hu => by simp at hu; subst hu; rfl)) F.out.1 F.out.2 ?_; intro v' W1 r1 t1 k1; obtain ⟨p', c', rfl⟩ := r1.sl; have tA := (Turn.refl NoBlock X).alloc (.cells #[.int .i64 t.who] 3); have hEu := blk_typed HU.out HB.out.2 (by decide); have g0 := t1.cell (tA.cell e0 (fun h => h)) hEu; have g1 := ((HB.out.2.kept tA (fun h => h)).kept t1 hEu).free 0; have R1 := Lib.hid r1; have T1 := Lib.hid ((TU (F := Blk _) tA).trans t1 (fun _ h => .inl h)); have K1 := Lib.hid k1; clear r1 t1 k1 tA)
    have hEu := blk_typed HU.out HB.out.2 (by decide)
    have hEr := blk_typed R1.out (HB.out.2.kept T1.out hEu) (by decide)
    have hSS := HI.out.2.2.2.2
    have hXX := HI.out.2.2.2.1
    have tall : Turn (fun k => k = E ∨ Blk (.slice pu pre.length cu) k) X (W1.setCell ⟨E, 0, none⟩ (.slice p' (pre.length + 1) c')) :=
      (T1.out.mono (fun k hk => .inl (.inr hk))).setCell (p := ⟨E, 0, none⟩) (.inl (.inl rfl)) _
    have hCl : ∀ k, CFoot c S V k → k < E := fun k hk => by have := (HM.out w (Turn.refl _ _)).lt hk; omega
    refine ⟨KeepsAll.of_turn tall (fun k hk => ?_), ⟨.slice p' (pre.length + 1) c', ?_, ?_, fun k hk => ?_⟩, HI.out.2.1.kept tall (fun k hk hh => ?_), HI.out.2.2.1.trans tall (fun k hk => .inr ?_)⟩
    · rcases hk with rfl | hk
      · left; omega
      · exact .inr (.inr ⟨3, HU.out.typed hk, by decide, by decide⟩)
    · have h3 := T1.out.heap (show X.heap[E]? = some (.cells #[_] 36 (0, 0)) from HB.out.1) hEu
      exact set_at h3 0 (.slice p' (pre.length + 1) c')
    · have h5 := R1.out.setC (j := 0) (u := .slice p' (pre.length + 1) c') (HB.out.2.kept T1.out hEu) (by decide)
      unfold Nums
      rw [List.length_map, List.map_append, List.length_append]
      unfold icells at h5 ⊢
      rw [List.map_append]
      exact h5
    · rcases K1.out k hk with h6 | h6
      · exact HI.out.1 k h6
      · have h7 := h6.1
        simp at h7
        omega
    · rcases hh with rfl | hh
      · rcases hk with hk | hk | hk
        · omega
        · omega
        · have := hCl _ hk; omega
      · have h8 := HI.out.1 k hh
        rcases hk with hk | hk | hk
        · omega
        · omega
        · have := hCl _ hk; omega
    · rcases hk with rfl | hk
      · omega
      · have := HI.out.1 k hk; omega
  case done =>
    rintro D xs X hD rfl ⟨⟨u, hb, hu, hk⟩, hq, ht⟩ hK
    have e0 := hb.cell
    have e1 : X.frozen? ⟨E, 0, none⟩ = false := TBlk.free ⟨_, hb⟩ 0
    have elt := hb.lt
    obtain ⟨pu, cu, rfl⟩ := hu.sl
    have hMx := hq.mem
    have cH := Lib.hid (shandles_any (hMx.s 0 (by omega)) (by have := (hMx.len 0 (by omega)).1; have := HN.out; omega) (by have := (hMx.len 0 (by omega)).2.1; have := HN.out; omega))
    have HK := Lib.hid hK
    have HI := Lib.hid (And.intro hb (And.intro hu (And.intro hk (And.intro hMx (And.intro ht (And.intro hD (And.intro hst hE)))))))
    clear hb hu hk hq ht hK hD hE hst hQ0 hT bx0 bx1 bx2 hMx
    gi_wp2_with (refine ⟨trivial, ?_⟩; gi_at_call 55; refine (callsIn_wide.2 cH.out).mono ?_; rintro e Y ⟨uh, rfl, hh, kh, th⟩; obtain ⟨ph, ch, rfl⟩ := hh.sl; have sY := (HI.out.2.2.2.1.past th).s 0 (by omega); have y0 : Y.cell? ⟨c, 1, none⟩ = some (.bool (S 0).op) := sY.c0; have y1 : Y.cell? ⟨c, 2, none⟩ = some (V 0).a := sY.c1; have y2 : Y.cell? ⟨c, 3, none⟩ = some (V 0).o := sY.c2; have y3 : Y.cell? ⟨c, 4, none⟩ = some (V 0).w := sY.c3; have o3 : Y.cell? ⟨c, 8, none⟩ = some (V 1).w := ((HI.out.2.2.2.1.past th).s 1 (by omega)).c3; have zo := sY.f (5 + 3); have z0 := sY.f 1; have z1 := sY.f (1 + 1); have z2 := sY.f (1 + 2); have z3 := sY.f (1 + 3); simp only [Nat.reduceAdd] at z1 z2 z3 zo; have HH := Lib.hid (And.intro hh (And.intro kh th)); clear hh kh th sY)
    have CO := Lib.hid (fun w => show Calls Try.prog 52 #[.int .i64 0] w fun x w' => x = .returned (.int .i64 1) ∧ w = w' from other_any 0 (by omega) w)
    rename_i K0 aK0
    refine wpIn_wide.2 ?_
    go_region_held3 (fun _ => True) (trivial) (first | (go_at_call 52; (with_reducible refine (CO.out _).mono ?_); rintro x w2 ⟨rfl, rfl⟩))
    all_goals
      refine aK0 _ _ ?_
      gi_wp2
    have hmd := made_shut (HI.out.2.2.2.1.past HH.out.2.2) (e := 0) (ot := 1) (by omega) (by omega) (by omega)
    simp only [plc, Nat.reduceMul, Nat.reduceAdd] at hmd
    have hCl : ∀ k, CFoot c S V k → k < E := fun k hk => by have := (HM.out w (Turn.refl _ _)).lt hk; have := HI.out.2.2.2.2.2.2.2; omega
    have hEE := HI.out.2.2.2.2.2
    have hXs : E < X.heap.size := HI.out.1.lt
    generalize hZ : ((((Y.setCell ⟨c, 1, none⟩ (.bool false)).setCell ⟨c, 2, none⟩ (.slice none 0 0)).setCell ⟨c, 3, none⟩ (.slice none 0 0)).setCell ⟨c, 4, none⟩ (.slice none 0 0)).setCell ⟨c, 8, none⟩ (.slice none 0 0) = Z at *
    clear hZ
    obtain ⟨S', V', m1, m2, m3, m4⟩ := hmd
    have hz := m3.heap (HH.out.2.2.heap (show X.heap[E]? = some (.cells #[_] 36 (0, 0)) from HI.out.1) (fun h => h)) (fun h => by have := hCl _ h; omega)
    have hD := m3.heap (HH.out.2.2.heap HK.out (fun h => h)) (fun h => by have := hCl _ h; omega)
    have hu' := (Nums.past HI.out.2.1 HH.out.2.2).kept m3 (fun k h1 h2 => by have := HI.out.2.2.1 k h1; have := hCl _ h2; omega)
    have hh' := HH.out.1.kept m3 (fun k h1 h2 => by have := HH.out.2.1 k h1; have := hCl _ h2; omega)
    have eZ : Z.cell? ⟨E, 0, none⟩ = some (.slice pu ((waitL S 0).map (fun x : Nat × Wt => x.2.who)).length cu) := by rw [cell_at hz]; rfl
    have fZ := free_at hz 0
    have HZ := Lib.hid (And.intro hz (And.intro hD (And.intro hu' (And.intro hh' (⟨S', V', m1, m2, m3, m4⟩ : Made Y Z c depth N S V _)))))
    clear hz hD hu' hh' m1 m2 m3 m4 e0 e1 elt o3 zo y0 y1 y2 y3 z0 z1 z2 z3 aK0
    rename_i K1 aK1
    refine wpIn_wide.2 ?_
    go_region
    all_goals
      refine aK1 _ _ ?_
      gi_wp2
    have tt := (((Turn.refl (fun i => i = E) Z).setCell (p := ⟨E, 0, none⟩) (.inl rfl) (.slice pu (waitL S 0).length cu)).drew).drew
    have hKD := tt.heap HZ.out.2.1 (by omega)
    have q1 : ((Z.setCell ⟨E, 0, none⟩ (.slice pu (waitL S 0).length cu)).drew.drew).heap[E]? = _ := set_at HZ.out.1 0 (.slice pu (waitL S 0).length cu)
    have tp := turn_putObj ((Z.setCell ⟨E, 0, none⟩ (.slice pu (waitL S 0).length cu)).drew.drew) D (.deferred none)
    refine ⟨by simp, .inl ⟨_, _, rfl, run_takeDeferred hKD, ?_⟩⟩
    have w0 : (((Z.setCell ⟨E, 0, none⟩ (.slice pu (waitL S 0).length cu)).drew.drew).putObj D (.deferred none)).cell? ⟨E, 0, none⟩ = some (.slice pu (waitL S 0).length cu) := by rw [cell_at (tp.heap q1 (by omega))]; rfl
    have hDX := lt_of_block HK.out
    have hYs := HH.out.2.2.size
    have n1 := HZ.out.2.2.2.1.kept tt (fun k h1 h2 => by have := HH.out.2.1 k h1; omega)
    have n2 := HZ.out.2.2.1.kept tt (fun k h1 h2 => by have := HI.out.2.2.1 k h1; omega)
    have hlm : ((waitL S 0).map (fun x : Nat × Wt => x.2.who)).length = (waitL S 0).length := List.length_map ..
    rw [hlm] at n2
    refine ⟨.tuple #[.slice ph (hsOf (S 0).q).length ch, .slice pu (waitL S 0).length cu, .int .i64 0], by simp [results, Try.results46, go_sem, w0], _, _, rfl, WRow.nocell n1 (grownBy_putObj' _ D _) (fun r e => by cases e; exact ⟨_, hKD, rfl⟩), WRow.nocell n2 (grownBy_putObj' _ D _) (fun r e => by cases e; exact ⟨_, hKD, rfl⟩), ?_⟩
    exact Made.beside HZ.out.2.2.2.2 (TT HI.out.2.2.2.2.1 HH.out.2.2) (HM.out w (Turn.refl _ _)) ((tt.mono (G := fun i => i = E ∨ i = D) (fun _ h => .inl (.inl h))).trans tp (fun _ h => .inl (.inr h))) (fun i hi => by omega)
  case stop =>
    rintro D cc pre X hD - h hK
    exact h.elim
set_option maxRecDepth 100000 in
set_option maxHeartbeats 4000000 in
theorem close_open1 (hC : CMem w c depth N S V) (hN : N ≤ 1000000) (ho : (S 1).op = true) :
    Calls Try.prog 46 #[.pointer (some ⟨c, 0, none⟩), .int .i64 1] w fun x w' => ∃ vh vc, x = .returned (.tuple #[vh, vc, .int .i64 0]) ∧ Nums vh (hsOf (S 1).q) w' ∧ Nums vc ((waitL S 1).map (·.2.who)) w' ∧ Made w w' c depth N S V (updN (updN (planeOf S) 1 ⟨false, [], []⟩) 0 ⟨(planeOf S 0).op, (planeOf S 0).q, []⟩) := by
  have HC := Lib.hid (fun W (t : Turn NoBlock w W) => show Calls Try.prog 48 #[.pointer (some ⟨c, 0, none⟩), .int .i64 1] W _ from right_yes (hC.past t) (e := 1) (by omega) ho)
  obtain ⟨i3, hi3, hz3, hs3, hb3⟩ := info_parts infoI
  have HM := Lib.hid (fun W (t : Turn NoBlock w W) => hC.past t)
  have HN := Lib.hid hN
  have HO := Lib.hid ho
  clear hC hN ho
  refine (callsIn_wide (n := 6)).1 ?_
  refine callsIn_of_wp_marks (F := Fence.wide) Try.func46 rfl trivial ?_ rfl
  simp only [Try.ntmps46, List.size_toArray, List.length_cons, List.length_nil, Nat.reduceAdd, Nat.reduceSub, Array.replicate_succ, Array.replicate_zero, List.push_toArray, List.append_toArray, List.nil_append, List.cons_append]
  gi_wp2_with (first
    | (refine ⟨trivial, ?_⟩; gi_at_call 48; refine (callsIn_wide.2 (HC.out _ ((Turn.refl NoBlock w).alloc _))).mono ?_; rintro e w' ⟨rfl, rfl⟩)
    | (refine ⟨trivial, ?_⟩; gi_at_call 70; refine (callsIn_wide.2 (waiting_any _ c 1)).mono ?_; rintro e w' ⟨rfl, rfl⟩))
  obtain ⟨E, hE⟩ : ∃ E, w.heap.size = E := ⟨_, rfl⟩
  have bx0 : Boxed (((w.alloc (.cells #[.slice none 0 0] 36)).alloc (.cells #[.pointer (some ⟨c, 0, none⟩)] 23)).alloc (.cells #[.int .i64 1] 3)) w.heap.size 36 (.slice none 0 0) := Boxed.alloc (Boxed.alloc (Boxed.new _ _ _) _) _
  have bx1 : Boxed (((w.alloc (.cells #[.slice none 0 0] 36)).alloc (.cells #[.pointer (some ⟨c, 0, none⟩)] 23)).alloc (.cells #[.int .i64 1] 3)) (w.heap.size + 1) 23 (.pointer (some ⟨c, 0, none⟩)) := by
    have := Boxed.alloc (Boxed.new (w.alloc (.cells #[.slice none 0 0] 36)) 23 (.pointer (some ⟨c, 0, none⟩))) (.cells #[.int .i64 1] 3)
    rwa [World.size_alloc] at this
  have bx2 : Boxed (((w.alloc (.cells #[.slice none 0 0] 36)).alloc (.cells #[.pointer (some ⟨c, 0, none⟩)] 23)).alloc (.cells #[.int .i64 1] 3)) (w.heap.size + 2) 3 (.int .i64 1) := by
    have := Boxed.new ((w.alloc (.cells #[.slice none 0 0] 36)).alloc (.cells #[.pointer (some ⟨c, 0, none⟩)] 23)) 3 (.int .i64 1)
    rwa [World.size_alloc, World.size_alloc] at this
  have hT : Turn NoBlock w (((w.alloc (.cells #[.slice none 0 0] 36)).alloc (.cells #[.pointer (some ⟨c, 0, none⟩)] 23)).alloc (.cells #[.int .i64 1] 3)) := (((Turn.refl _ w).alloc _).alloc _).alloc _
  have hst : (((w.alloc (.cells #[.slice none 0 0] 36)).alloc (.cells #[.pointer (some ⟨c, 0, none⟩)] 23)).alloc (.cells #[.int .i64 1] 3)).heap.size = E + 3 := by simp [hE]
  simp only [hE, Nat.add_assoc, Nat.reduceAdd] at bx0 bx1 bx2 ⊢
  generalize hW0 : World.alloc (World.alloc (World.alloc w (Obj.cells #[.slice none 0 0] 36)) (Obj.cells #[.pointer (some ⟨c, 0, none⟩)] 23)) (Obj.cells #[.int .i64 1] 3) = W0 at *
  clear hW0
  have hQ0 : WSees (E + 2) (E + 1) 1 c depth N S V W0 := ⟨bx2, bx1, HM.out W0 hT⟩
  refine range2 (gf := 82) (lb := #[.pointer (some ⟨E + 2, 0, none⟩), .pointer (some ⟨E + 1, 0, none⟩)]) rfl (enters_of Try.func82 (by kernel_rfl) rfl)
    (wait_gives1 (E + 2) (E + 1) c depth N S V (by have := HN.out; omega)) (fun _ => rfl)
    (fun pre X => (∃ u, Boxed X E 36 u ∧ Nums u (pre.map (·.2.who)) X ∧ ∀ k, Blk u k → E + 3 ≤ k) ∧ WSees (E + 2) (E + 1) 1 c depth N S V X ∧ Turn NoBlock w X)
    (fun _ _ _ => False) ?hI (fun _ _ _ _ _ hs _ _ => hs) (fun _ _ h => h.2.1) ⟨⟨_, bx0, wrow_nil _ _ _, fun k hk => (blk_nil k hk).elim⟩, hQ0, hT⟩
    (fun x a' X => ∃ Bx : Nat, X.heap[Bx]? = some (.cells #[.int .i64 x.2.who, .int .i64 x.2.tx] 126 (0, 0)) ∧ a' = { tmps := (.pointer (some ⟨c, 0, none⟩) :: .int .i64 1 :: undef :: undef :: .slice none 0 0 :: .pointer (some ⟨E, 0, none⟩) :: .int .i64 0 :: .int .i64 0 :: undef :: .pointer (some ⟨Bx, 0, none⟩) :: .pointer (some ⟨c, 0, none⟩) :: .int .i64 1 :: .int .i64 0 :: .int .i64 0 :: .bool false :: undef :: .pointer (some ⟨c, 0, none⟩) :: .int .i64 1 :: .func (.func 82) #[] #[.pointer (some ⟨E + 2, 0, none⟩), .pointer (some ⟨E + 1, 0, none⟩)] :: .int .i64 (x.1 : Int) :: x.2.agg :: undef :: undef :: undef :: undef :: undef :: undef :: undef :: undef :: undef :: undef :: undef :: undef :: undef :: undef :: undef :: undef :: undef :: undef :: undef :: undef :: undef :: undef :: undef :: undef :: undef :: undef :: [] : List Value).toArray, defers := [] }) ?hAx ?assign ?body ?done ?stop
  case hI =>
    rintro pre X Y row ⟨⟨u, hb, hu, hk⟩, hq, ht⟩ hg hr
    exact ⟨⟨u, boxed_nocell hb hg (fun r e => (hr r e).2), WRow.nocell hu hg (fun r e => (hr r e).2), hk⟩, hq.grown hQ0 hg (fun r e => (hr r e).1), ht.grown hg (fun r e => .inr (by have := (hr r e).1; omega))⟩
  case hAx =>
    rintro x a' - X Y row ⟨Bx, hb, rfl⟩ hg hr
    exact ⟨Bx, heap_nocell hb hg (fun r e => (hr r e).2), rfl⟩
  case assign =>
    rintro l pre ⟨a, t⟩ X K ⟨⟨u, hb, hu, hk⟩, hq, ht⟩ - hX hK
    have HK := Lib.hid hK
    have HI := Lib.hid (And.intro hb (And.intro hu (And.intro hk (And.intro hq (And.intro ht (And.intro hX hst))))))
    unfold wEnc Wt.agg
    clear hb hu hk hq ht hX hK hE hQ0 hT bx0 bx1 bx2 hst
    gi_wp2
    have ta : Turn NoBlock X (X.alloc (.cells #[.int .i64 t.who, .int .i64 t.tx] 126)) := (Turn.refl _ X).alloc _
    refine HK.out _ _ (KeepsAll.of_turn ta (fun _ h => h.elim)) ⟨⟨u, HI.out.1.alloc _, HI.out.2.1.past ta, HI.out.2.2.1⟩, HI.out.2.2.2.1.kept ta (fun _ _ h => h), TT HI.out.2.2.2.2.1 ta⟩ ⟨X.heap.size, ?_, ?_⟩
    · rw [heap_alloc_new]
    · rfl
  case body =>
    rintro l pre ⟨a, t⟩ a' X hX ⟨⟨u, hb, hu, hk⟩, hq, ht⟩ ⟨Bx, hbx, rfl⟩ ⟨⟨ha, hmem⟩, hlen⟩
    obtain ⟨pu, cu, rfl⟩ := hu.sl
    have hl0 := (hq.mem.len 0 (by omega)).2.2
    have hl1 := (hq.mem.len 1 (by omega)).2.2
    have hNN := HN.out
    have hpl : (pre.map (fun x : Nat × Wt => x.2.who)).length = pre.length := List.length_map ..
    unfold Nums at hu
    rw [hpl] at hu hb hk
    have f1 : pre.length + 1 ≤ maxLen := by unfold maxLen; omega
    have f2 : (pre.length + 1) * 8 ≤ 140737488355328 := by omega
    have hty : TBlk X E 36 := ⟨_, hb⟩
    have e0 := hb.cell
    have e1 := hty.free 0
    have elt := hb.lt
    have x0 : X.cell? ⟨Bx, 0, none⟩ = some (.int .i64 t.who) := by rw [cell_at hbx]; rfl
    have F := Lib.hid (And.intro f1 f2)
    have HU := Lib.hid hu
    have HB := Lib.hid (And.intro hb hty)
    have HI := Lib.hid (And.intro hk (And.intro hq (And.intro ht (And.intro hX (And.intro hst hE)))))
    unfold Wt.agg
    clear hb hu hk hq ht hbx f1 f2 hty hE hst hQ0 hT bx0 bx1 bx2 hX hmem hlen ha hl0 hl1 hNN hpl
    gi_wp2_with (gi_at_builtin; refine wpListIn_append_w rfl (.tmp 21) (.tmp 24) 36 36 rfl (HU.out.past ((Turn.refl NoBlock X).alloc _)) i3 _ 8 intsT hi3 hz3 hs3 hb3 rfl rfl rfl (Rd.src (rd_new X 3 1 #[.int .i64 t.who] rfl) 36 3 intsT (fun u hu => by simp at hu; subst hu; rfl)) F.out.1 F.out.2 ?_; intro v' W1 r1 t1 k1; obtain ⟨p', c', rfl⟩ := r1.sl; have tA := (Turn.refl NoBlock X).alloc (.cells #[.int .i64 t.who] 3); have hEu := blk_typed HU.out HB.out.2 (by decide); have g0 := t1.cell (tA.cell e0 (fun h => h)) hEu; have g1 := ((HB.out.2.kept tA (fun h => h)).kept t1 hEu).free 0; have R1 := Lib.hid r1; have T1 := Lib.hid ((TU (F := Blk _) tA).trans t1 (fun _ h => .inl h)); have K1 := Lib.hid k1; clear r1 t1 k1 tA)
    have hEu := blk_typed HU.out HB.out.2 (by decide)
    have hEr := blk_typed R1.out (HB.out.2.kept T1.out hEu) (by decide)
    have hSS := HI.out.2.2.2.2
    have hXX := HI.out.2.2.2.1
    have tall : Turn (fun k => k = E ∨ Blk (.slice pu pre.length cu) k) X (W1.setCell ⟨E, 0, none⟩ (.slice p' (pre.length + 1) c')) :=
      (T1.out.mono (fun k hk => .inl (.inr hk))).setCell (p := ⟨E, 0, none⟩) (.inl (.inl rfl)) _
    have hCl : ∀ k, CFoot c S V k → k < E := fun k hk => by have := (HM.out w (Turn.refl _ _)).lt hk; omega
    refine ⟨KeepsAll.of_turn tall (fun k hk => ?_), ⟨.slice p' (pre.length + 1) c', ?_, ?_, fun k hk => ?_⟩, HI.out.2.1.kept tall (fun k hk hh => ?_), HI.out.2.2.1.trans tall (fun k hk => .inr ?_)⟩
    · rcases hk with rfl | hk
      · left; omega
      · exact .inr (.inr ⟨3, HU.out.typed hk, by decide, by decide⟩)
    · have h3 := T1.out.heap (show X.heap[E]? = some (.cells #[_] 36 (0, 0)) from HB.out.1) hEu
      exact set_at h3 0 (.slice p' (pre.length + 1) c')
    · have h5 := R1.out.setC (j := 0) (u := .slice p' (pre.length + 1) c') (HB.out.2.kept T1.out hEu) (by decide)
      unfold Nums
      rw [List.length_map, List.map_append, List.length_append]
      unfold icells at h5 ⊢
      rw [List.map_append]
      exact h5
    · rcases K1.out k hk with h6 | h6
      · exact HI.out.1 k h6
      · have h7 := h6.1
        simp at h7
        omega
    · rcases hh with rfl | hh
      · rcases hk with hk | hk | hk
        · omega
        · omega
        · have := hCl _ hk; omega
      · have h8 := HI.out.1 k hh
        rcases hk with hk | hk | hk
        · omega
        · omega
        · have := hCl _ hk; omega
    · rcases hk with rfl | hk
      · omega
      · have := HI.out.1 k hk; omega
  case done =>
    rintro D xs X hD rfl ⟨⟨u, hb, hu, hk⟩, hq, ht⟩ hK
    have e0 := hb.cell
    have e1 : X.frozen? ⟨E, 0, none⟩ = false := TBlk.free ⟨_, hb⟩ 0
    have elt := hb.lt
    obtain ⟨pu, cu, rfl⟩ := hu.sl
    have hMx := hq.mem
    have cH := Lib.hid (shandles_any (hMx.s 1 (by omega)) (by have := (hMx.len 1 (by omega)).1; have := HN.out; omega) (by have := (hMx.len 1 (by omega)).2.1; have := HN.out; omega))
    have HK := Lib.hid hK
    have HI := Lib.hid (And.intro hb (And.intro hu (And.intro hk (And.intro hMx (And.intro ht (And.intro hD (And.intro hst hE)))))))
    clear hb hu hk hq ht hK hD hE hst hQ0 hT bx0 bx1 bx2 hMx
    gi_wp2_with (refine ⟨trivial, ?_⟩; gi_at_call 55; refine (callsIn_wide.2 cH.out).mono ?_; rintro e Y ⟨uh, rfl, hh, kh, th⟩; obtain ⟨ph, ch, rfl⟩ := hh.sl; have sY := (HI.out.2.2.2.1.past th).s 1 (by omega); have y0 : Y.cell? ⟨c, 5, none⟩ = some (.bool (S 1).op) := sY.c0; have y1 : Y.cell? ⟨c, 6, none⟩ = some (V 1).a := sY.c1; have y2 : Y.cell? ⟨c, 7, none⟩ = some (V 1).o := sY.c2; have y3 : Y.cell? ⟨c, 8, none⟩ = some (V 1).w := sY.c3; have o3 : Y.cell? ⟨c, 4, none⟩ = some (V 0).w := ((HI.out.2.2.2.1.past th).s 0 (by omega)).c3; have zo := sY.f (1 + 3); have z0 := sY.f 5; have z1 := sY.f (5 + 1); have z2 := sY.f (5 + 2); have z3 := sY.f (5 + 3); simp only [Nat.reduceAdd] at z1 z2 z3 zo; have HH := Lib.hid (And.intro hh (And.intro kh th)); clear hh kh th sY)
    have CO := Lib.hid (fun w => show Calls Try.prog 52 #[.int .i64 1] w fun x w' => x = .returned (.int .i64 0) ∧ w = w' from other_any 1 (by omega) w)
    rename_i K0 aK0
    refine wpIn_wide.2 ?_
    go_region_held3 (fun _ => True) (trivial) (first | (go_at_call 52; (with_reducible refine (CO.out _).mono ?_); rintro x w2 ⟨rfl, rfl⟩))
    all_goals
      refine aK0 _ _ ?_
      gi_wp2
    have hmd := made_shut (HI.out.2.2.2.1.past HH.out.2.2) (e := 1) (ot := 0) (by omega) (by omega) (by omega)
    simp only [plc, Nat.reduceMul, Nat.reduceAdd] at hmd
    have hCl : ∀ k, CFoot c S V k → k < E := fun k hk => by have := (HM.out w (Turn.refl _ _)).lt hk; have := HI.out.2.2.2.2.2.2.2; omega
    have hEE := HI.out.2.2.2.2.2
    have hXs : E < X.heap.size := HI.out.1.lt
    generalize hZ : ((((Y.setCell ⟨c, 5, none⟩ (.bool false)).setCell ⟨c, 6, none⟩ (.slice none 0 0)).setCell ⟨c, 7, none⟩ (.slice none 0 0)).setCell ⟨c, 8, none⟩ (.slice none 0 0)).setCell ⟨c, 4, none⟩ (.slice none 0 0) = Z at *
    clear hZ
    obtain ⟨S', V', m1, m2, m3, m4⟩ := hmd
    have hz := m3.heap (HH.out.2.2.heap (show X.heap[E]? = some (.cells #[_] 36 (0, 0)) from HI.out.1) (fun h => h)) (fun h => by have := hCl _ h; omega)
    have hD := m3.heap (HH.out.2.2.heap HK.out (fun h => h)) (fun h => by have := hCl _ h; omega)
    have hu' := (Nums.past HI.out.2.1 HH.out.2.2).kept m3 (fun k h1 h2 => by have := HI.out.2.2.1 k h1; have := hCl _ h2; omega)
    have hh' := HH.out.1.kept m3 (fun k h1 h2 => by have := HH.out.2.1 k h1; have := hCl _ h2; omega)
    have eZ : Z.cell? ⟨E, 0, none⟩ = some (.slice pu ((waitL S 1).map (fun x : Nat × Wt => x.2.who)).length cu) := by rw [cell_at hz]; rfl
    have fZ := free_at hz 0
    have HZ := Lib.hid (And.intro hz (And.intro hD (And.intro hu' (And.intro hh' (⟨S', V', m1, m2, m3, m4⟩ : Made Y Z c depth N S V _)))))
    clear hz hD hu' hh' m1 m2 m3 m4 e0 e1 elt o3 zo y0 y1 y2 y3 z0 z1 z2 z3 aK0
    rename_i K1 aK1
    refine wpIn_wide.2 ?_
    go_region
    all_goals
      refine aK1 _ _ ?_
      gi_wp2
    have tt := (((Turn.refl (fun i => i = E) Z).setCell (p := ⟨E, 0, none⟩) (.inl rfl) (.slice pu (waitL S 1).length cu)).drew).drew
    have hKD := tt.heap HZ.out.2.1 (by omega)
    have q1 : ((Z.setCell ⟨E, 0, none⟩ (.slice pu (waitL S 1).length cu)).drew.drew).heap[E]? = _ := set_at HZ.out.1 0 (.slice pu (waitL S 1).length cu)
    have tp := turn_putObj ((Z.setCell ⟨E, 0, none⟩ (.slice pu (waitL S 1).length cu)).drew.drew) D (.deferred none)
    refine ⟨by simp, .inl ⟨_, _, rfl, run_takeDeferred hKD, ?_⟩⟩
    have w0 : (((Z.setCell ⟨E, 0, none⟩ (.slice pu (waitL S 1).length cu)).drew.drew).putObj D (.deferred none)).cell? ⟨E, 0, none⟩ = some (.slice pu (waitL S 1).length cu) := by rw [cell_at (tp.heap q1 (by omega))]; rfl
    have hDX := lt_of_block HK.out
    have hYs := HH.out.2.2.size
    have n1 := HZ.out.2.2.2.1.kept tt (fun k h1 h2 => by have := HH.out.2.1 k h1; omega)
    have n2 := HZ.out.2.2.1.kept tt (fun k h1 h2 => by have := HI.out.2.2.1 k h1; omega)
    have hlm : ((waitL S 1).map (fun x : Nat × Wt => x.2.who)).length = (waitL S 1).length := List.length_map ..
    rw [hlm] at n2
    refine ⟨.tuple #[.slice ph (hsOf (S 1).q).length ch, .slice pu (waitL S 1).length cu, .int .i64 0], by simp [results, Try.results46, go_sem, w0], _, _, rfl, WRow.nocell n1 (grownBy_putObj' _ D _) (fun r e => by cases e; exact ⟨_, hKD, rfl⟩), WRow.nocell n2 (grownBy_putObj' _ D _) (fun r e => by cases e; exact ⟨_, hKD, rfl⟩), ?_⟩
    exact Made.beside HZ.out.2.2.2.2 (TT HI.out.2.2.2.2.1 HH.out.2.2) (HM.out w (Turn.refl _ _)) ((tt.mono (G := fun i => i = E ∨ i = D) (fun _ h => .inl (.inl h))).trans tp (fun _ h => .inl (.inr h))) (fun i hi => by omega)
  case stop =>
    rintro D cc pre X hD - h hK
    exact h.elim
end
end Go.Proofs.Ytcbphfpfdfgehaa
