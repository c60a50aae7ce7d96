/-
  What wakes the waits of a line: who is told, and who waits still. Conditions: the waits lie in memory, and the function that is asked reads alone.
-/
import Derived.Test.YtabakjimlndhcaaBWake1
import Derived.Deep.RegionHeld3
import Derived.WalkMore
namespace Go.Proofs.Ytabakjimlndhcaa
open Go.ChangeShapes Go.WideShapes Go.ChangeAt Go.RowKit Go.Shelf

attribute [local go_sem] Oper.semAt_some

theorem line_any (c : Nat) (n : Int) (W : World) : Calls Try.prog 58 #[.pointer (some ⟨c, 0, none⟩), .int .i64 n] W fun e w' => e = .returned (.func (.func 82) #[] #[.pointer (some ⟨W.heap.size, 0, none⟩), .pointer (some ⟨W.heap.size + 1, 0, none⟩)]) ∧
    w' = (W.alloc (.cells #[.pointer (some ⟨c, 0, none⟩)] 23)).alloc (.cells #[.int .i64 n] 3) := by
  go_enter Try.func58, Try.ntmps58
  go_wp2
  go_ret
  exact ⟨rfl, rfl⟩
section
variable {w : World} {c tm lm : Nat} {most : Int} {G : List Gw} {r : Int → Nat} {K : List Int}
theorem wpListIn_append_run {w : World} {F : Fence} {nn : Nat} {ops : Array Oper} {rest : List Oper} {o : Oper} {a : Act} {Q : Exit → Act → World → Prop} (hgd : o.guard = none) (s x : Operand) (t tn : TypeId)
    (ho : o.op = .call { callee := .builtin .append, args := #[s, x], argTypes := #[t, tn] }) (vs vx : Value) (hs : a.eval s = vs) (hx : a.eval x = vx)
    (v' : Value) (w' : World) (hr : ∀ ty, (Builtin.append_ #[t, tn] ty #[vs, vx]).run Try.prog w = .ok v' w') (h : wpListIn F nn Try.prog ops Q rest (a.put o.dst v') w') : wpListIn F nn Try.prog ops Q (o :: rest) a w := by
  refine wpListIn_plain hgd fun K hK' => ?_
  unfold Oper.wpIn
  refine ⟨?_, ?_⟩
  · simp [Oper.about, ho, resolve, Target.leads, Sem.run_pure]
  · rw [Oper.semAt_plain F _ _ (by rw [ho]; intro c hc'; cases hc')]
    simp [execOp, ho, resolve, invoke, builtin, hs, hx, hr, Result.andThen]
    exact hK' _ _ h
set_option maxRecDepth 100000 in
set_option maxHeartbeats 4000000 in
theorem wake_any (h : WM w c most tm lm G r K) (o : Int) (ho : fit o) (N : Nat) (caps : Array Value) (P : Int → Bool) (s f : Int) (hE0 : ∀ a W, Sem.run Try.prog (callFunc N a) W = .ok (.enter N a) W)
    (hP : ∀ W F, Turn F w W → (∀ k, F k → GFoot c tm lm G r K k ∨ w.heap.size ≤ k) → ∀ m, fit m → Calls Try.prog N (#[.int .i64 m] ++ caps) W fun e w' => e = .returned (.bool (P m)) ∧ Turn NoBlock W w') :
    Calls Try.prog 56 #[.pointer (some ⟨c, 0, none⟩), .int .i64 o, .func (.func N) #[] caps, .agg #[.int .i64 0, .int .i64 0, .int .i64 s, .int .i64 f]] w fun e w' => ∃ v, e = .returned v ∧ KRow v (G.filterMap (wkG P o s f)) w' ∧ (∃ K', (∀ n ∈ K', n ∈ K) ∧ WM w' c most tm lm (G.filter (keepG P o)) r K') ∧ Turn (GFoot c tm lm G r K) w w' ∧ ∀ k, Blk v k → w.heap.size ≤ k := by
  have HM := Lib.hid h
  have HO := Lib.hid ho
  have HP := Lib.hid hP
  have HE0 := hE0
  clear h ho hP
  refine (callsIn_wide (n := 6)).1 ?_
  refine callsIn_of_wp_marks (F := Fence.wide) Try.func56 rfl trivial ?_ rfl
  simp only [Try.ntmps56, List.size_toArray, List.length_cons, List.length_nil, Nat.reduceAdd, Nat.reduceSub, Array.replicate_succ, Array.replicate_zero, List.push_toArray, List.append_toArray, List.nil_append, List.cons_append]
  refine wpIn_wide.2 ?_
  go_wp2
  go_step3
  go_wp2
  go_step3
  go_wp2_with (go_at_call 58; refine (line_any c o _).mono ?_; rintro e w' ⟨rfl, rfl⟩)
  obtain ⟨E, hE⟩ : ∃ E, w.heap.size = E := ⟨_, rfl⟩
  obtain ⟨W0, hW0, hwb, hb4, hsz, hT⟩ := wb_new w c o (.func (.func N) #[] caps) s f
  simp only [hE, Nat.add_assoc, Nat.reduceAdd]
  rw [hW0]
  rw [hE] at hwb hb4 hsz
  have hI0 : WInv w E c most tm lm G r K P o (.func (.func N) #[] caps) s f [] W0 := ⟨⟨[], G, K, rfl, rfl, fun _ h => h, HM.out.past hT, _, hb4, wrow_nil _ _ _, fun k hk => (blk_nil k hk).elim⟩, hwb, TU hT⟩
  clear hW0 hb4 hwb
  have HE := Lib.hid hE
  have HZ := Lib.hid hsz
  refine (wpIn_wide (n := 0)).1 ?_
  refine range2 (gf := 82) (lb := #[.pointer (some ⟨E + 5, 0, none⟩), .pointer (some ⟨E + 6, 0, none⟩)]) rfl (enters_of Try.func82 (by kernel_rfl) rfl)
    (line_gives (E + 5) (E + 6) c o (r o) (stdP G o)) (fun _ => rfl)
    (fun pre X => WInv w E c most tm lm G r K P o (.func (.func N) #[] caps) s f pre X)
    (fun _ _ _ => False) ?hI ?hIx (fun pre W h => h.see HM.out HO.out) hI0
    (fun x a' X => a' = { tmps := #[.pointer (some ⟨c, 0, none⟩), .int .i64 o, .func (.func N) #[] caps, .agg #[.int .i64 0, .int .i64 0, .int .i64 s, .int .i64 f], .pointer (some ⟨E, 0, none⟩), .pointer (some ⟨E + 1, 0, none⟩), .pointer (some ⟨E + 2, 0, none⟩), .pointer (some ⟨E + 3, 0, none⟩), .slice none 0 0, .pointer (some ⟨E + 4, 0, none⟩), .pointer (some ⟨x.2, 0, none⟩), undef, undef, .pointer (some ⟨c, 0, none⟩), .int .i64 o, .func (.func 82) #[] #[.pointer (some ⟨E + 5, 0, none⟩), .pointer (some ⟨E + 6, 0, none⟩)], .pointer (some ⟨x.2, 0, none⟩), undef, undef, undef, undef, undef, undef, undef, undef, undef, undef, undef, undef, undef, undef, undef, undef, undef, undef, undef, undef, undef, undef, undef, undef, undef, undef, undef, undef, undef, undef, undef, undef, undef, undef, undef, undef], defers := [] }) ?hAx ?assign ?body ?done ?stop
  case hI => exact winv_own HM.out hE (by omega)
  case hIx => exact fun cc pre X Y row h => h.elim
  case hAx => exact fun x a' pre X Y row h _ _ => h
  case stop => exact fun D cc pre X _ _ h => h.elim
  case assign =>
    rintro l pre ⟨xb, xx⟩ X K' hi hok hX hK
    have HK := Lib.hid hK
    have HI := Lib.hid hi
    clear hi hK hok
    dsimp only [ptr]
    gi_wp2
    exact HK.out _ _ (KeepsAll.refl _ _) HI.out rfl
  case body =>
    rintro l pre ⟨xb, xx⟩ a' X hX hi rfl hok
    obtain ⟨A, B1, g, B2, K', v, hw, hat, hxx⟩ := hi.next hok
    subst hxx
    obtain ⟨hob, hgk⟩ := hw.ob
    have x2 := hob.x2
    have hrow := hob.items
    obtain ⟨pi, ci, hiv⟩ := WRow.sl hrow
    obtain ⟨L, hL⟩ : ∃ L, g.a.its.length = L := ⟨_, rfl⟩
    rw [hL] at hiv
    rw [hiv] at x2 hrow
    have hL8 : L ≤ 8 := by rw [← hL]; exact (of_decide_eq_true hgk.pos).2.1
    have HW := Lib.hid hw
    have HXX := Lib.hid (And.intro hat (And.intro hL (And.intro hrow hgk)))
    have HCL := Lib.hid (fun W (t : Turn NoBlock X W) m hm => HP.out W _ (hw.turn.trans t (fun _ h => h.elim)) (fun k hk => .inl hk) m hm)
    clear hi hok hw hat hob hgk hrow hiv hL hI0 hE hsz hT
    gi_wp2
    gi_loopg [11, 12, 22] L (fun z s11 s12 s22 wr => ∃ j : Nat, j ≤ L ∧ z = L - j ∧ s22 = .int .i64 (j : Int) ∧ Hid (Turn NoBlock X wr ∧ ∀ k y, k < j → g.a.its[k]? = some y → (y.o == o && P y.m) = false))
    case atStart => exact ⟨0, by omega, by omega, rfl, Lib.hid ⟨Turn.refl _ _, fun k y hk => by omega⟩⟩
    case round =>
      obtain ⟨j, hj, hz, rfl, HR⟩ := hrel
      by_cases hlt : j < L
      · have hjn : (j : Int) < (L : Int) := by omega
        obtain ⟨i, hi⟩ : ∃ i, g.a.its[j]? = some i := ⟨_, List.getElem?_eq_getElem (by rw [HXX.out.2.1]; exact hlt)⟩
        have hrow := HXX.out.2.2.1.past HR.out.1
        obtain ⟨ga, go, gc, he, -⟩ := WRow.shape hrow (by show 0 < g.a.its.length; rw [HXX.out.2.1]; omega)
        simp only [Value.slice.injEq] at he
        obtain ⟨rfl, -, rfl⟩ := he
        obtain ⟨i0, i1⟩ := hrow.two hi
        have hwr := HW.out.past HR.out.1
        have b1 : wr.cell? ⟨E + 1, 0, none⟩ = some (.int .i64 o) := cell_at hwr.bx.b1 0
        have b2 : wr.cell? ⟨E + 2, 0, none⟩ = some (.func (.func N) #[] caps) := cell_at hwr.bx.b2 0
        have l1 := lt_of_block hwr.bx.b1
        have l2 := lt_of_block hwr.bx.b2
        have HI := Lib.hid hi
        have ta : Turn NoBlock wr (wr.alloc (.cells #[.int .i64 i.o, .int .i64 i.m] 40)) := (Turn.refl _ wr).alloc _
        have TA := Lib.hid (HR.out.1.trans ta (fun _ h => .inl h))
        have CL := Lib.hid (HCL.out _ TA.out i.m (HXX.out.2.2.2.fi i (List.mem_of_getElem? hi)).2)
        clear hrow hwr hi ta
        by_cases hio : i.o = o
        · have hob : (i.o == o) = true := by simp [hio]
          have HOB := Lib.hid hob
          obtain ⟨bb, hbb⟩ : ∃ bb, P i.m = bb := ⟨_, rfl⟩
          have HBB := Lib.hid hbb
          rw [hbb, hio] at CL
          rw [hio] at TA
          clear hbb
          cases bb with
          | false =>
            gi_wp2_with (refine ⟨trivial, rfl, ?_⟩; (with_reducible refine (CallsIn.inRound l (callsIn_wide.2 CL.out)).mono ?_); rintro e w7 ⟨rfl, t7⟩; have T7 := Lib.hid t7; clear t7)
            gi_roundg (L - (j + 1))
            case measure => omega
            case rel =>
              refine ⟨j + 1, by omega, by omega, by go_num, Lib.hid ⟨TT TA.out T7.out, fun k y hk hy => ?_⟩⟩
              by_cases hkj : k < j
              · exact HR.out.2 k y hkj hy
              · obtain rfl : k = j := by omega
                rw [HI.out] at hy
                cases hy
                rw [HBB.out]; simp
          | true =>
            have HFI := Lib.hid (fit_next (P := P) HI.out HR.out.2 (by rw [HOB.out, HBB.out]; rfl))
            gi_wp2_with (first
              | (refine ⟨trivial, rfl, ?_⟩; (with_reducible refine (CallsIn.inRound l (callsIn_wide.2 CL.out)).mono ?_); rintro e w7 ⟨rfl, t7⟩; have T7 := Lib.hid (TT TA.out t7); clear t7; have h7 := HW.out.past T7.out; obtain ⟨p, n, cap, p', cap', W9, hv, q4, ⟨a3, b3, d0, d1⟩, d2, d3, f0, f1, hap, e4, f4, e0, HD⟩ := h7.hit (x := (xb, g.x)) HM.out HE.out HFI.out HXX.out.1 rfl; have y0 := h7.ob.1.x0; have y4 := lt_of_block h7.bx.b0; clear h7 hv)
              | (gi_at_builtin; refine wpListIn_append_run rfl (.tmp 44) (.tmp 46) 42 42 rfl _ _ rfl rfl _ _ hap ?_)
              | (refine ⟨trivial, rfl, ?_⟩; gi_at_call 61; (with_reducible refine (CallsIn.inRound l (callsIn_wide.2 HD.out)).mono ?_); rintro e Y ⟨rfl, hy1, hy2⟩; have HY := Lib.hid (And.intro hy1 hy2); clear hy1 hy2))
            exact ⟨by rw [HZ.out]; exact (keeps_low (B := E + 7) T7.out (fun _ h => h.elim)).trans HY.out.2, HY.out.1⟩
        · have hob : (i.o == o) = false := by simp [hio]
          gi_wp2
          repeat (refine ⟨fun _ _ => trivial, ?_⟩; gi_wp2)
          gi_roundg (L - (j + 1))
          case measure => omega
          case rel =>
            refine ⟨j + 1, by omega, by omega, by go_num, Lib.hid ⟨TA.out, fun k y hk hy => ?_⟩⟩
            by_cases hkj : k < j
            · exact HR.out.2 k y hkj hy
            · obtain rfl : k = j := by omega
              rw [HI.out] at hy
              cases hy
              rw [hob]; rfl
      · obtain rfl : j = L := by omega
        gi_wp2
        exact ⟨by rw [HZ.out]; exact keeps_low (B := E + 7) HR.out.1 (fun _ h => h.elim), (HW.out.past HR.out.1).miss HM.out (fit_none (fun k y hk hy => HR.out.2 k y (by rw [← HXX.out.2.1]; exact hk) hy)) HXX.out.1 rfl⟩
  case done =>
    rintro D xs X hD hxl hi hK
    obtain ⟨A, B, K', hG, hst, hsub, hm, v, h4, hrow, hfr⟩ := hi.ex
    have hB : stdP B o = [] := by
      have : (stdP A o ++ stdP B o).length = (stdP A o).length := by rw [← stdP_app, ← hG, hst]; exact hxl.symm
      rw [List.length_append] at this
      exact List.eq_nil_of_length_eq_zero (by omega)
    obtain ⟨k1, k2⟩ := keep_all (P := P) (s := s) (f := f) (fun g hg => HM.out.ok g (by rw [hG]; exact List.mem_append_right _ hg)) hB
    have e1 : G.filter (keepG P o) = A.filter (keepG P o) ++ B := by rw [hG, List.filter_append, k1]
    have e2 : G.filterMap (wkG P o s f) = A.filterMap (wkG P o s f) := by rw [hG, List.filterMap_append, k2, List.append_nil]
    have HE12 := Lib.hid (And.intro e1 e2)
    have HGG := Lib.hid hG
    have c4 : X.cell? ⟨E + 4, 0, none⟩ = some v := cell_at h4 0
    have HR := Lib.hid (And.intro hsub (And.intro hm (And.intro hrow (And.intro hfr (And.intro hi.turn hD)))))
    have HKK := Lib.hid hK
    clear hi hG hst hsub hm h4 hrow hfr hB k1 k2 e1 e2 hK hD hI0 hE hsz hT
    gi_wp2
    go_wp2
    (try rw [Exit.noGoto_ret])
    obtain ⟨hsub, hm, hrow, hfr, htn, hDl⟩ := HR.out
    have hD7 : E + 7 ≤ D := by rw [← HZ.out]; exact hDl
    have tp := turn_putObj X D (.deferred none)
    refine ⟨by simp, .inl ⟨_, _, rfl, run_takeDeferred HKK.out, ?_⟩⟩
    refine ⟨_, results_tmp rfl _ _ _, v, rfl, ?_⟩
    rw [HE12.out.1, HE12.out.2]
    have hsubG : ∀ y ∈ A.filter (keepG P o) ++ B, y ∈ G := fun y hy => by rw [HGG.out]; exact sub_keep y hy
    refine ⟨hrow.kept tp (fun k hk e => ?_), ⟨K', hsub, hm.kept tp (fun k hk e => ?_)⟩, htn.trans tp (fun k hk => .inr (by have := HE.out; omega)), fun k hk => by have := hfr k hk; have := HE.out; omega⟩
    · subst e
      obtain ⟨cur, hc⟩ := WRow.typed hrow hk
      have := HKK.out
      rw [hc] at this
      cases this
    · have := (foot_lt HM.out.mem hsubG hsub hk).2
      have := HE.out
      omega
end
end Go.Proofs.Ytabakjimlndhcaa
