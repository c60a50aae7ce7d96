/-
  WaitsOnce's walk. Conditions: the calls can be read.
-/
import Derived.Test.YtfdbdfhgekiffaaLawOnM
import Derived.Test.YtfdbdfhgekiffaaBView
import Derived.Test.YtfdbdfhgekiffaaLawFi
import Derived.Test.YtfdbdfhgekiffaaLawFoM
import Derived.Deep.LoopGhost
import Derived.OwnWalk
import Derived.Deep.DeepCutAuto
import Derived.Deep.CutBlock
import Derived.Deep.RegionHeld3
import Derived.BigQuiet
namespace Go.Proofs.Ytfdbdfhgekiffaa
open Go.ChangeShapes Go.WideShapes Go.ChangeAt Go.RowKit Go.Maps Go.Shelf

set_option maxRecDepth 20000 in
set_option maxHeartbeats 8000000 in
theorem on_walk (p : Option Addr) (len cap : Nat) (os : List O16) (w : World) (ho : OpsAt w p len os) :
    Calls Try.prog 4 #[.slice p len cap] w fun e w' => e = .returned (.bool true) ∧ Turn NoBlock w w' := by
  have CN := Lib.hid (wst_new 50 w (by omega) (by omega))
  have CA := Lib.hid awake16
  have HO := Lib.hid ho
  clear ho
  by_cases hlen : 120 < len
  · have hd : (120 : Int) < (len : Int) := by omega
    go_enter Try.func4, Try.ntmps4
    go_wp2_with (first
      | (go_at_call 8; (with_reducible refine CN.out.mono ?_); rintro x w1 ⟨c, rfl, k1, -⟩; have K1 := Lib.hid k1; clear k1)
      | (go_at_call 9; (with_reducible refine (CA.out _).mono ?_); rintro x w2 ⟨rfl, t2⟩; have T2 := Lib.hid t2; clear t2))
    go_ret
    exact ⟨rfl, TT K1.out.turn T2.out⟩
  · have hl : len ≤ 120 := by omega
    have hd : ¬ (120 : Int) < (len : Int) := by omega
    clear hlen
    have hmm := @run_makeMap Try.prog
    go_enter Try.func4, Try.ntmps4
    go_wp2_with (first
      | (go_at_call 8; (with_reducible refine CN.out.mono ?_); rintro x w1 ⟨c, rfl, k1, -⟩; have K1 := Lib.hid (on_new k1); clear k1))
    clear hmm
    obtain ⟨m, hm⟩ : ∃ m, w1.heap.size = m := ⟨_, rfl⟩
    rw [hm] at K1
    rw [hm]
    generalize w1.alloc (.map #[] 0) = W1 at *
    clear hm
    go_loopg [32] len (fun z s32 wr => ∃ (i : Nat) (M : List Lv), z = len - i ∧ i ≤ len ∧ s32 = .int .i64 (i : Int) ∧ Hid (OnS w wr c m (lvL M) M))
    case atStart => exact ⟨0, [], rfl, Nat.zero_le _, rfl, K1⟩
    case round =>
      obtain ⟨i, M, hz, hi, rfl, HR⟩ := hrel
      by_cases hlt : i < len
      · obtain ⟨x, hx⟩ : ∃ x, os[i]? = some x := ⟨_, List.getElem?_eq_getElem (by rw [HO.out.1]; exact hlt)⟩
        obtain ⟨g, o, rfl, hcell⟩ := HO.out.2 (by omega)
        obtain ⟨hcs, hord⟩ := hcell i x hx
        obtain ⟨kind, th, ob, n, v, its⟩ := x
        obtain ⟨d0, d1, d2, d3, d4⟩ := op_cells (fun j hj => (show wr.cell? ⟨g, o + i * 5 + j, none⟩ = (O16.mk kind th ob n v its).cells[j]? by
          have h1 := hcs j hj
          have h2 : j < (O16.mk kind th ob n v its).cells.length := hj
          rw [List.getElem?_eq_getElem h2] at h1 ⊢
          exact HR.out.st.turn.cell h1 (fun h => h)))
        dsimp only at d0 d1 d2 d3 d4
        rw [Nat.add_zero] at d0
        have HX := Lib.hid hord
        have hil : (i : Int) < (len : Int) := by omega
        obtain ⟨pv, cv, hv⟩ := hord.its.1.sl
        obtain ⟨ln, hln⟩ : ∃ ln, its.length = ln := ⟨_, rfl⟩
        dsimp only at hv
        rw [hln] at hv
        have bx := heap_alloc_new wr (.cells #[.int .i64 kind, .int .i64 th, .int .i64 ob, .int .i64 n, v] 32)
        have HB := Lib.hid (HR.out.boxed (.cells #[.int .i64 kind, .int .i64 th, .int .i64 ob, .int .i64 n, v] 32))
        obtain ⟨WB, hWB⟩ : ∃ WB, wr.alloc (.cells #[.int .i64 kind, .int .i64 th, .int .i64 ob, .int .i64 n, v] 32) = WB := ⟨_, rfl⟩
        rw [hWB] at bx HB
        have x0 : WB.cell? ⟨wr.heap.size, 0, none⟩ = some (.int .i64 kind) := cell_at bx 0
        have x1 : WB.cell? ⟨wr.heap.size, 1, none⟩ = some (.int .i64 th) := cell_at bx 1
        have x2 : WB.cell? ⟨wr.heap.size, 2, none⟩ = some (.int .i64 ob) := cell_at bx 2
        have x3 : WB.cell? ⟨wr.heap.size, 3, none⟩ = some (.int .i64 n) := cell_at bx 3
        have x4 : WB.cell? ⟨wr.heap.size, 4, none⟩ = some v := cell_at bx 4
        subst hv
        have HLN := Lib.hid hln
        clear hcell hcs hx hord bx hln
        by_cases h12 : 12 < ln
        · have h12i : (12 : Int) < (ln : Int) := by omega
          go_wp2_with (go_at_call 9; (with_reducible refine (CA.out _).mono ?_); rintro x w2 ⟨rfl, t2⟩; have T2 := Lib.hid t2; clear t2)
          go_ret
          exact ⟨rfl, TT HB.out.st.turn T2.out⟩
        · have h12i : ¬ (12 : Int) < (ln : Int) := by omega
          go_upto_block 2 with (fail)
          generalize wr.heap.size = B at *
          have HL12 := Lib.hid (show its.length ≤ 12 by rw [HLN.out]; omega)
          have CI := Lib.hid (fun W (t : Turn NoBlock w W) => items_of (HX.out.its.past t) (show its.length ≤ 1000 by have := HL12.out; omega))
          dsimp only at CI
          have TB := Lib.hid HB.out.st.turn
          clear d0 d1 d2 d3 d4 HR hWB
          go_cut [7] (fun s7 wx => ∃ (M' : List Lv) (W : List Wk) (L' : List Wt) (pk : Option Addr) (nk ck : Nat), s7 = .slice pk nk ck ∧ nk = W.length ∧ Hid (OnC w wx c m B (.cells #[.int .i64 kind, .int .i64 th, .int .i64 ob, .int .i64 n, .slice pv ln cv] 32) kind ob n (.slice pk nk ck) M' W L'))
          case first =>
            by_cases q1 : kind = 1
            · have b1 : (kind == 1) = true := by simpa using q1
              have k3 : kind ≠ 3 := by omega
              have K3 := Lib.hid k3
              clear q1 k3
              by_cases hs : blkS 50 (lvL M) th its = 0
              · obtain ⟨e1, e2, e3⟩ := blk_ok hs n
                have E := Lib.hid (And.intro e2 e3)
                have CB := Lib.hid (fun (W : World) (u : Value) (h : OnR w W c m B (.cells #[.int .i64 kind, .int .i64 th, .int .i64 ob, .int .i64 n, .slice pv ln cv] 32) (lvL M) M) (hu : IRow u its W) => h.block th n hu HL12.out HX.out.th HX.out.n HX.out.its.2)
                rw [hs, e1] at CB
                clear hs e1 e2 e3
                go_upto_region 13 with (fail)
                go_region_held3 (fun W => W.cell? ⟨B, 1, none⟩ = some (.int .i64 th) ∧ W.cell? ⟨B, 3, none⟩ = some (.int .i64 n) ∧ W.cell? ⟨B, 4, none⟩ = some (.slice pv ln cv)) (first | exact ⟨x1, x3, x4⟩ | exact Y3.out | exact Y2.out) (first
                  | (go_at_call 11; (with_reducible refine (CB.out _ _ B2.out I2.out).mono ?_); rintro y w3 ⟨rfl, k3⟩; have B3 := Lib.hid k3; have Y3 := Lib.hid (And.intro (cell_at k3.box 1) (And.intro (cell_at k3.box 3) (cell_at k3.box 4))); clear k3)
                  | (go_at_call 10; (with_reducible refine (CI.out _ (TT TB.out ((Turn.refl NoBlock _).drew))).mono ?_); rintro y w2 ⟨u, rfl, i2, t2, -⟩; have B2 := Lib.hid (HB.out.past (TT ((Turn.refl NoBlock _).drew) t2)); have I2 := Lib.hid i2; have Y2 := Lib.hid (And.intro (cell_at B2.out.box 1) (And.intro (cell_at B2.out.box 3) (cell_at B2.out.box 4))); clear i2 t2))
                obtain ⟨w6, hput, k6⟩ := B3.out.put E.out.1 HX.out.its E.out.2 HL12.out HX.out.th HX.out.n
                unfold entA at hput
                obtain ⟨y1, y3, y4⟩ := Y3.out
                have K6 := Lib.hid k6
                clear k6
                go_wp2
                go_meet
                exact ⟨_, [], _, none, 0, 0, rfl, rfl, Lib.hid (onc_nil K6.out K3.out)⟩
              · have hs0 : (blkS 50 (lvL M) th its == 0) = false := by simpa using hs
                have e1 : blkL 50 (lvL M) th n its = lvL M := by unfold blkL; rw [if_neg hs]
                have CB := Lib.hid (fun (W : World) (u : Value) (h : OnR w W c m B (.cells #[.int .i64 kind, .int .i64 th, .int .i64 ob, .int .i64 n, .slice pv ln cv] 32) (lvL M) M) (hu : IRow u its W) => h.block th n hu HL12.out HX.out.th HX.out.n HX.out.its.2)
                rw [e1] at CB
                generalize blkS 50 (lvL M) th its = s at *
                clear hs e1
                go_upto_region 13 with (fail)
                go_region_held3 (fun W => W.cell? ⟨B, 1, none⟩ = some (.int .i64 th) ∧ W.cell? ⟨B, 3, none⟩ = some (.int .i64 n) ∧ W.cell? ⟨B, 4, none⟩ = some (.slice pv ln cv)) (first | exact ⟨x1, x3, x4⟩ | exact Y3.out | exact Y2.out) (first
                  | (go_at_call 11; (with_reducible refine (CB.out _ _ B2.out I2.out).mono ?_); rintro y w3 ⟨rfl, k3⟩; have B3 := Lib.hid k3; have Y3 := Lib.hid (And.intro (cell_at k3.box 1) (And.intro (cell_at k3.box 3) (cell_at k3.box 4))); clear k3)
                  | (go_at_call 10; (with_reducible refine (CI.out _ (TT TB.out ((Turn.refl NoBlock _).drew))).mono ?_); rintro y w2 ⟨u, rfl, i2, t2, -⟩; have B2 := Lib.hid (HB.out.past (TT ((Turn.refl NoBlock _).drew) t2)); have I2 := Lib.hid i2; have Y2 := Lib.hid (And.intro (cell_at B2.out.box 1) (And.intro (cell_at B2.out.box 3) (cell_at B2.out.box 4))); clear i2 t2))
                go_wp2
                go_meet
                exact ⟨_, [], _, none, 0, 0, rfl, rfl, Lib.hid (onc_nil B3.out K3.out)⟩
            · have b1 : (kind == 1) = false := by simpa using q1
              by_cases q2 : kind = 2
              · have b2 : (kind == 2) = true := by simpa using q2
                have CT := Lib.hid (HB.out.tell ob n HX.out.ob q2)
                clear q1 q2
                go_wp2_with (go_at_call 14; (with_reducible refine CT.out.mono ?_); rintro y w3 ⟨u, W, L', rfl, k3⟩; obtain ⟨pk, ck, rfl⟩ := WRow.sl k3.row; have K3 := Lib.hid k3; clear k3)
                go_meet
                exact ⟨_, W, _, pk, _, ck, rfl, rfl, K3⟩
              · have b2 : (kind == 2) = false := by simpa using q2
                by_cases q3 : kind = 3
                · have b3 : (kind == 3) = true := by simpa using q3
                  have CT := Lib.hid (HB.out.expire ob n q3)
                  clear q1 q2 q3
                  go_wp2_with (go_at_call 16; (with_reducible refine CT.out.mono ?_); rintro y w3 ⟨u, W, L', rfl, k3⟩; obtain ⟨pk, ck, rfl⟩ := WRow.sl k3.row; have K3 := Lib.hid k3; clear k3)
                  go_meet
                  exact ⟨_, W, _, pk, _, ck, rfl, rfl, K3⟩
                · have b3 : (kind == 3) = false := by simpa using q3
                  by_cases q4 : kind = 4
                  · have b4 : (kind == 4) = true := by simpa using q4
                    have CT := Lib.hid (HB.out.cancel ob n HX.out.ob q4)
                    clear q1 q2 q3 q4
                    go_wp2_with (go_at_call 18; (with_reducible refine CT.out.mono ?_); rintro y w3 ⟨u, W, L', rfl, k3⟩; obtain ⟨pk, ck, rfl⟩ := WRow.sl k3.row; have K3 := Lib.hid k3; clear k3)
                    go_meet
                    exact ⟨_, W, _, pk, _, ck, rfl, rfl, K3⟩
                  · have b4 : (kind == 4) = false := by simpa using q4
                    have K3 := Lib.hid q3
                    clear q1 q2 q3 q4
                    go_wp2_with fail
                    go_meet
                    exact ⟨_, [], _, none, 0, 0, rfl, rfl, Lib.hid (onc_nil HB.out K3.out)⟩
          case rest =>
            obtain ⟨M', W, L', pk, nk, ck, rfl, hnk, HC⟩ := hcut
            have HNK := Lib.hid hnk
            clear x0 x1 x2 x3 x4 HB TB CI M hnk
            go_wp2
            go_loopg [85] nk (fun z s85 wr => ∃ j : Nat, z = nk - j ∧ j ≤ nk ∧ s85 = .int .i64 (j : Int) ∧ Hid (OnR w wr c m B (.cells #[.int .i64 kind, .int .i64 th, .int .i64 ob, .int .i64 n, .slice pv ln cv] 32) L' (lvJ M' W j) ∧ KRow (.slice pk nk ck) W wr))
            case atStart => exact ⟨0, rfl, Nat.zero_le _, rfl, Lib.hid ⟨by rw [lvJ_zero]; exact HC.out.s, HC.out.row⟩⟩
            case round =>
              obtain ⟨j, hz2, hj, rfl, HJ⟩ := hrel
              by_cases hjn : j < nk
              · obtain ⟨y, hy⟩ : ∃ y, W[j]? = some y := ⟨_, List.getElem?_eq_getElem (by have := HNK.out; omega)⟩
                obtain ⟨p, hp, hpt, hp3, hpn⟩ := lv_step HC.out.wok hy
                have hok := HJ.out.1.ok p hp
                have hrow := HJ.out.2
                obtain ⟨ga, go, gc, he, hnc, hcm, -⟩ := WRow.shape hrow (by have := HNK.out; omega)
                have hnb : (nk : Int) ≤ 9223372036854775807 := by have := HNK.out; unfold maxLen at hcm; omega
                clear hnc hcm
                simp only [Value.slice.injEq] at he
                obtain ⟨rfl, -, rfl⟩ := he
                obtain ⟨r0, r1, r2, r3⟩ := hrow.four hy
                obtain ⟨yt, yk, ys, yf⟩ := y
                obtain ⟨⟨pt, pd, pits⟩, pw⟩ := p
                dsimp only at r0 r1 r2 r3 hpt hp3 hpn
                obtain ⟨pp, pc, hpw⟩ := hok.rd.1.sl
                obtain ⟨lp, hlp⟩ : ∃ lp, pits.length = lp := ⟨_, rfl⟩
                dsimp only at hpw
                rw [hlp] at hpw
                subst hpw
                subst hpt
                have hjni : (j : Int) < (nk : Int) := by omega
                have bc := heap_alloc_new wr (.cells #[.int .i64 pt, .int .i64 yk, .int .i64 ys, .int .i64 yf] 64)
                have tc : Turn NoBlock wr (wr.alloc (.cells #[.int .i64 pt, .int .i64 yk, .int .i64 ys, .int .i64 yf] 64)) := (Turn.refl _ _).alloc _
                obtain ⟨WC, hWC⟩ : ∃ WC, wr.alloc (.cells #[.int .i64 pt, .int .i64 yk, .int .i64 ys, .int .i64 yf] 64) = WC := ⟨_, rfl⟩
                rw [hWC] at bc tc
                have lk := (HJ.out.1.past tc).look hp
                unfold entA at lk
                dsimp only at lk
                have z0 : WC.cell? ⟨wr.heap.size, 0, none⟩ = some (.int .i64 pt) := cell_at bc 0
                have bd := heap_alloc_new WC (.cells #[.int .i64 pd, .slice pp lp pc] 62)
                have td : Turn NoBlock wr (WC.alloc (.cells #[.int .i64 pd, .slice pp lp pc] 62)) := tc.alloc _
                have tcd : Turn NoBlock WC (WC.alloc (.cells #[.int .i64 pd, .slice pp lp pc] 62)) := (Turn.refl _ _).alloc _
                obtain ⟨WD, hWD⟩ : ∃ WD, WC.alloc (.cells #[.int .i64 pd, .slice pp lp pc] 62) = WD := ⟨_, rfl⟩
                rw [hWD] at bd td tcd
                have v0 : WD.cell? ⟨wr.heap.size, 0, none⟩ = some (.int .i64 pt) := tcd.cell z0 (fun h => h)
                have v1 : WD.cell? ⟨wr.heap.size, 1, none⟩ = some (.int .i64 yk) := tcd.cell (cell_at bc 1) (fun h => h)
                have e0 : WD.cell? ⟨WC.heap.size, 0, none⟩ = some (.int .i64 pd) := cell_at bd 0
                have e1 : WD.cell? ⟨WC.heap.size, 1, none⟩ = some (.slice pp lp pc) := cell_at bd 1
                have HJD := Lib.hid (HJ.out.1.past td)
                have RJD := Lib.hid (hrow.past td)
                have o0 : WD.cell? ⟨B, 0, none⟩ = some (.int .i64 kind) := cell_at HJD.out.box 0
                have o2 : WD.cell? ⟨B, 2, none⟩ = some (.int .i64 ob) := cell_at HJD.out.box 2
                have o3 : WD.cell? ⟨B, 3, none⟩ = some (.int .i64 n) := cell_at HJD.out.box 3
                have DEL := Lib.hid (show ∀ W5, Turn NoBlock WD W5 → W5.cell? ⟨wr.heap.size, 0, none⟩ = some (.int .i64 pt) ∧ ∃ w', (∀ ty, Sem.run Try.prog (Builtin.delete_ #[60, 3] ty #[.map (some m), .int .i64 pt]) W5 = .ok (.tuple #[]) w') ∧ Hid (OnR w w' c m B (.cells #[.int .i64 kind, .int .i64 th, .int .i64 ob, .int .i64 n, .slice pv ln cv] 32) L' (lvJ M' W (j + 1)) ∧ KRow (.slice (some ⟨ga, go, none⟩) nk ck) W w') from by
                  intro W5 t5
                  obtain ⟨w', q1, q2, q3⟩ := (HJD.out.past t5).del hp
                  refine ⟨t5.cell v0 (fun h => h), w', q1, Lib.hid ⟨?_, ?_⟩⟩
                  · rw [lvJ_next M' hy] at q2
                    exact q2
                  · exact (RJD.out.past t5).kept q3 (fun k hk => HC.out.fr k hk))
                have HP := Lib.hid hok
                by_cases k3 : kind = 3
                · have b3 : (kind == 3) = true := by simpa using k3
                  have b3n : (kind != 3) = false := by simpa using k3
                  have b2 : (kind == 2) = false := by simp [k3]
                  have hdn : decide (pd > n) = false := by have := hp3 k3; simp; omega
                  clear hp3 hpn k3 hok hrow bc tc bd td tcd hp hy hlp
                  go_upto_region 27 with (fail)
                  go_quiet (fail)
                  have t4 : Turn NoBlock WD (WD.drewN nq) := (Turn.refl _ _).drewN _
                  generalize WD.drewN nq = W4 at *
                  replace o0 := t4.cell o0 (fun h => h)
                  replace o3 := t4.cell o3 (fun h => h)
                  replace e1 := t4.cell e1 (fun h => h)
                  replace v1 := t4.cell v1 (fun h => h)
                  have T4 := Lib.hid t4
                  clear t4 v0 z0 e0 o2
                  go_wp2
                  go_quiet (fail)
                  obtain ⟨v5, w6, dl, k6⟩ := DEL.out _ (T4.out.drewN nq)
                  generalize W4.drewN nq = W5 at *
                  clear o0 o3 e1 v1 b2 b3 b3n hdn
                  go_wp2
                  go_roundg (nk - (j + 1))
                  case measure => omega
                  case rel => exact ⟨j + 1, rfl, by omega, by go_num, k6⟩
                · have b3 : (kind == 3) = false := by simpa using k3
                  have b3n : (kind != 3) = true := by simpa using k3
                  obtain ⟨k, i', hk, hi', hio, him⟩ := hpn k3
                  obtain ⟨gi, oi, ci, hee, g0, g1⟩ := (hok.rd.past (TT HJ.out.1.st.turn td)).two hi'
                  dsimp only at hee g0 g1
                  rw [hlp] at hee
                  simp only [Value.slice.injEq] at hee
                  obtain ⟨rfl, -, rfl⟩ := hee
                  subst hk
                  have hkl : k < lp := by rw [← hlp]; exact (List.getElem?_eq_some_iff.1 hi').1
                  have c1 : decide ((k : Int) < 0) = false := by simp
                  have c2a : decide (lp ≤ k) = false := by simp; omega
                  have c3 : (i'.o != ob) = false := by simp [hio]
                  have c4 : (k : Int) < (lp : Int) := by omega
                  have c5 : (0 : Int) ≤ (k : Int) := by omega
                  by_cases k2 : kind = 2
                  · have b2 : (kind == 2) = true := by simpa using k2
                    have c6 : (bits .and .i64 i'.m n == 0) = false := by have := him k2; unfold meetB at this; simpa using this
                    clear hp3 hpn k3 k2 hio him hi' hkl hok hrow bc tc bd td tcd hp hy hlp
                    go_upto_region 27 with (fail)
                    go_quiet (fail)
                    have t4 : Turn NoBlock WD (WD.drewN nq) := (Turn.refl _ _).drewN _
                    generalize WD.drewN nq = W4 at *
                    replace o0 := t4.cell o0 (fun h => h)
                    replace o3 := t4.cell o3 (fun h => h)
                    replace e1 := t4.cell e1 (fun h => h)
                    replace v1 := t4.cell v1 (fun h => h)
                    replace g1 := t4.cell g1 (fun h => h)
                    have T4 := Lib.hid t4
                    clear t4 v0 z0 e0 o2
                    go_wp2
                    go_quiet (fail)
                    obtain ⟨v5, w6, dl, k6⟩ := DEL.out _ (T4.out.drewN nq)
                    generalize W4.drewN nq = W5 at *
                    clear o0 o3 e1 v1 b2 b3 b3n c1 c2a c3 c4 c5 c6 g0 g1
                    go_wp2
                    go_roundg (nk - (j + 1))
                    case measure => omega
                    case rel => exact ⟨j + 1, rfl, by omega, by go_num, k6⟩
                  · have b2 : (kind == 2) = false := by simpa using k2
                    clear hp3 hpn k3 k2 hio him hi' hkl hok hrow bc tc bd td tcd hp hy hlp
                    go_upto_region 27 with (fail)
                    go_quiet (fail)
                    have t4 : Turn NoBlock WD (WD.drewN nq) := (Turn.refl _ _).drewN _
                    generalize WD.drewN nq = W4 at *
                    replace o0 := t4.cell o0 (fun h => h)
                    replace o3 := t4.cell o3 (fun h => h)
                    replace e1 := t4.cell e1 (fun h => h)
                    replace v1 := t4.cell v1 (fun h => h)
                    replace g1 := t4.cell g1 (fun h => h)
                    have T4 := Lib.hid t4
                    clear t4 v0 z0 e0 o2
                    go_wp2
                    go_quiet (fail)
                    obtain ⟨v5, w6, dl, k6⟩ := DEL.out _ (T4.out.drewN nq)
                    generalize W4.drewN nq = W5 at *
                    clear o0 o3 e1 v1 b2 b3 b3n c1 c2a c3 c4 c5 g0 g1
                    go_wp2
                    go_roundg (nk - (j + 1))
                    case measure => omega
                    case rel => exact ⟨j + 1, rfl, by omega, by go_num, k6⟩
              · obtain rfl : j = nk := by omega
                obtain ⟨M2, hM2⟩ : ∃ M2, lvJ M' W j = M2 := ⟨_, rfl⟩
                have hL2 : lvL M2 = L' := by rw [← hM2, HNK.out]; exact lvJ_end HC.out.wok
                rw [hM2] at HJ
                have HK := Lib.hid (show OnR w wr c m B (.cells #[.int .i64 kind, .int .i64 th, .int .i64 ob, .int .i64 n, .slice pv ln cv] 32) (lvL M2) M2 from by rw [hL2]; exact HJ.out.1)
                have HDUE := Lib.hid (show kind = 3 → ∀ p ∈ M2, n < p.a.d from fun e p hp => HC.out.wok.due e p.a (by rw [← hL2]; exact List.mem_map_of_mem hp))
                obtain ⟨ct, hct⟩ : ∃ ct, M2.length = ct := ⟨_, rfl⟩
                have hcl : (lvL M2).length = ct := by unfold lvL; rw [List.length_map]; exact hct
                have CC := Lib.hid HK.out.st.count
                rw [hcl] at CC
                have ll := fun ty => HK.out.mp.len ty
                rw [hct] at ll
                have hc50 : ct ≤ 50 := by rw [← hct]; exact HK.out.len
                have CT := Lib.hid (show Calls Try.prog 23 #[.pointer (some ⟨c, 0, none⟩)] wr fun x w' => ∃ (pq : Option Addr) (cq : Nat), x = .returned (.slice pq ct cq) ∧ Nums (.slice pq ct cq) ((lvL M2).map Wt.t) w' ∧ Turn NoBlock wr w' from by
                  refine HK.out.st.threads.mono ?_
                  rintro x w' ⟨u, rfl, h1, h2, -⟩
                  obtain ⟨pq, cq, hu⟩ := WRow.sl h1
                  rw [List.length_map, hcl] at hu
                  exact ⟨pq, cq, by rw [hu], by rw [← hu]; exact h1, h2⟩)
                have HCT := Lib.hid hct
                clear hM2 hL2 HJ hct hcl HC HNK
                go_wp2_with (first
                  | (go_at_call 24; (with_reducible refine CC.out.mono ?_); rintro y w3 ⟨rfl, rfl⟩)
                  | (go_at_call 23; (with_reducible refine CT.out.mono ?_); rintro y w4 ⟨pq, cq, rfl, r4, t4⟩; have R4 := Lib.hid r4; have T4 := Lib.hid t4; clear r4 t4))
                clear ll
                go_loopg [166] ct (fun z s166 wr => ∃ q : Nat, z = ct - q ∧ q ≤ ct ∧ s166 = .int .i64 (q : Int) ∧ Hid (Turn NoBlock w4 wr))
                case atStart => exact ⟨0, rfl, Nat.zero_le _, rfl, Lib.hid (Turn.refl _ _)⟩
                case round =>
                  obtain ⟨q, hz3, hq, rfl, HQ⟩ := hrel
                  by_cases hqc : q < ct
                  · obtain ⟨p, hp⟩ : ∃ p, M2[q]? = some p := ⟨_, List.getElem?_eq_getElem (by rw [HCT.out]; exact hqc)⟩
                    have hpm := List.mem_of_getElem? hp
                    have hok := HK.out.ok p hpm
                    have hrow := R4.out.past HQ.out
                    obtain ⟨ga, go, gc, he, -⟩ := WRow.shape hrow (by rw [List.length_map]; unfold lvL; rw [List.length_map, HCT.out]; omega)
                    simp only [Value.slice.injEq] at he
                    obtain ⟨rfl, -, rfl⟩ := he
                    have r0 := nums_at hrow (j := q) (x := p.a.t) (by unfold lvL; rw [List.getElem?_map, List.getElem?_map, hp]; rfl)
                    have hdue := fun e => HDUE.out e p hpm
                    have hqi : (q : Int) < (ct : Int) := by omega
                    have lk := (HK.out.past (TT T4.out HQ.out)).look hpm
                    obtain ⟨⟨pt, pd, pits⟩, pw⟩ := p
                    obtain ⟨pp, pc, hpw⟩ := hok.rd.1.sl
                    obtain ⟨lp, hlp⟩ : ∃ lp, pits.length = lp := ⟨_, rfl⟩
                    dsimp only at hpw r0 hdue
                    rw [hlp] at hpw
                    subst hpw
                    unfold entA at lk
                    dsimp only at lk
                    have bd := heap_alloc_new wr (.cells #[.int .i64 pd, .slice pp lp pc] 62)
                    have td : Turn NoBlock wr (wr.alloc (.cells #[.int .i64 pd, .slice pp lp pc] 62)) := (Turn.refl _ _).alloc _
                    obtain ⟨WD, hWD⟩ : ∃ WD, wr.alloc (.cells #[.int .i64 pd, .slice pp lp pc] 62) = WD := ⟨_, rfl⟩
                    rw [hWD] at bd td
                    have e0 : WD.cell? ⟨wr.heap.size, 0, none⟩ = some (.int .i64 pd) := cell_at bd 0
                    have bB := (HK.out.past (TT (TT T4.out HQ.out) td)).box
                    have o0 : WD.cell? ⟨B, 0, none⟩ = some (.int .i64 kind) := cell_at bB 0
                    have o3 : WD.cell? ⟨B, 3, none⟩ = some (.int .i64 n) := cell_at bB 3
                    have HT5 := Lib.hid (HQ.out.trans td (fun _ h => .inl h))
                    clear hp hpm hok hrow bd td bB hlp
                    by_cases k3 : kind = 3
                    · have b3 : (kind == 3) = true := by simpa using k3
                      have hdn : ¬ pd ≤ n := by have := hdue k3; omega
                      clear hdue k3
                      go_wp2
                      go_roundg (ct - (q + 1))
                      case measure => omega
                      case rel => exact ⟨q + 1, rfl, by omega, by go_num, HT5⟩
                    · have b3 : (kind == 3) = false := by simpa using k3
                      clear hdue k3
                      go_wp2
                      go_roundg (ct - (q + 1))
                      case measure => omega
                      case rel => exact ⟨q + 1, rfl, by omega, by go_num, HT5⟩
                  · obtain rfl : q = ct := by omega
                    go_wp2
                    go_roundg (len - (i + 1))
                    case measure => omega
                    case rel => exact ⟨i + 1, M2, rfl, by omega, by go_num, Lib.hid (HK.out.unbox.past (TT T4.out HQ.out))⟩
      · obtain rfl : i = len := by omega
        go_wp2_with (first
          | (go_at_call 9; (with_reducible refine (CA.out _).mono ?_); rintro x w9 ⟨rfl, t9⟩))
        go_ret
        exact ⟨rfl, TT HR.out.st.turn t9⟩
end Go.Proofs.Ytfdbdfhgekiffaa
