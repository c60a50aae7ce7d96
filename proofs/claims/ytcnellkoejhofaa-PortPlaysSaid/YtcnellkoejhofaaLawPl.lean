/-
  PortPlays' walk. No conditions but that the calls can be read.
-/
import Derived.Test.YtcnellkoejhofaaLawPlS
import Derived.Test.YtcnellkoejhofaaLawPlR
import Derived.Deep.LoopGhost
import Derived.OwnWalk
import Derived.Deep.DeepCutAuto
import Derived.Deep.CutBlock
import Derived.Deep.RegionHeld3
namespace Go.Proofs.Ytcnellkoejhofaa
open Go.ChangeShapes Go.WideShapes Go.ChangeAt Go.RowKit

/-- The law's state behind a call. -/
def PQ (w0 w : World) (c x : Nat) (depth most : Int) : Prop := ∃ Q Ws, PP w0 w c x depth most Q Ws Q Ws NoBlock
set_option maxRecDepth 20000 in
set_option maxHeartbeats 8000000 in
theorem pl_walk (depth most : Int) (p : Option Addr) (len cap : Nat) (os : List O15) (w : World) (hd0 : 1 ≤ depth ∧ depth ≤ 65536) (hm0 : 0 ≤ most ∧ most ≤ 65536) (hlen : len ≤ 120) (ho : OpsAt w p len os) :
    Calls Try.prog 3 #[.int .i64 depth, .int .i64 most, .slice p len cap] w fun e w' => e = .returned (.bool true) ∧ Turn NoBlock w w' := by
  have cA := Lib.hid awake15
  have cN := Lib.hid (new_yes depth most w hd0 hm0)
  have HO := Lib.hid ho
  have n0 : ¬ depth < 1 := by omega
  have n1 : ¬ 65536 < depth := by omega
  have n2 : ¬ most < 0 := by omega
  have n3 : ¬ 65536 < most := by omega
  have hd : decide ((len : Int) > 120) = false := by simp; omega
  clear ho hd0 hm0
  go_enter Try.func3, Try.ntmps3
  go_wp2_with (first
    | (go_at_call 8; (with_reducible refine cN.out.mono ?_); rintro e w1 ⟨c, rfl, k1, -, hcl⟩; have K1 := Lib.hid (And.intro k1 hcl); clear k1 hcl))
  have START := Lib.hid (show PQ w (w1.alloc (.cells #[.slice none 0 0, .slice none 0 0, .int .i64 depth, .int .i64 most] 30)) c w1.heap.size depth most from by
    have hb := heap_alloc_new w1 (.cells #[.slice none 0 0, .slice none 0 0, .int .i64 depth, .int .i64 most] 30)
    have hf : ∀ k, RFoot w1.heap.size (.slice none 0 0) (.slice none 0 0) k → k = w1.heap.size := fun k hk => by
      rcases hk with hk | hk | hk
      · exact hk
      · exact (blk_nil k hk).elim
      · exact (blk_nil k hk).elim
    refine ⟨[], [], ⟨.slice none 0 0, .slice none 0 0, K1.out.1.turned ((Turn.refl NoBlock w1).alloc _) (fun _ h => h.elim) (fun k hk => ?_), ⟨hb, wrow_nil _ _ _, wrow_nil _ _ _⟩, fun k hk => ⟨?_, fun h => h⟩⟩⟩
    · rcases hk with hk | hk
      · have := hf k hk; exact .inr ⟨by omega, by rw [World.size_alloc]; omega⟩
      · exact hk.elim
    · have := hf k hk; have := K1.out.1.turn.size; omega)
  obtain ⟨x, hx⟩ : ∃ x, w1.heap.size = x := ⟨_, rfl⟩
  obtain ⟨W1, hW1⟩ : ∃ W1, w1.alloc (.cells #[.slice none 0 0, .slice none 0 0, .int .i64 depth, .int .i64 most] 30) = W1 := ⟨_, rfl⟩
  rw [hx, hW1] at START
  rw [hx, hW1]
  clear hx hW1 K1
  go_loopg [59] len (fun z s59 wr => ∃ i : Nat, z = len - i ∧ i ≤ len ∧ s59 = .int .i64 (i : Int) ∧ Hid (PQ w wr c x depth most))
  case atStart => exact ⟨0, rfl, Nat.zero_le _, rfl, START⟩
  case round =>
    obtain ⟨i, hz, hi, rfl, HR⟩ := hrel
    by_cases hlt : i < len
    · obtain ⟨xo, hxo⟩ : ∃ xo, os[i]? = some xo := ⟨_, List.getElem?_eq_getElem (by rw [HO.out.1]; exact hlt)⟩
      obtain ⟨g, o, rfl, hcell⟩ := HO.out.2 (by omega)
      obtain ⟨hcs, hxf⟩ := hcell i xo hxo
      obtain ⟨kind, ob, ky, n⟩ := xo
      obtain ⟨Q, Ws, hPP⟩ := HR.out
      obtain ⟨d0, d1, d2, d3⟩ := op_cells (fun j hj => (show wr.cell? ⟨g, o + i * 4 + j, none⟩ = (O15.mk kind ob ky n).cells[j]? by
        have h1 := hcs j hj
        have h2 : j < (O15.mk kind ob ky n).cells.length := hj
        rw [List.getElem?_eq_getElem h2] at h1 ⊢
        exact hPP.turn.cell h1 (fun h => h)))
      dsimp only at d0 d1 d2 d3
      rw [Nat.add_zero] at d0
      have HXF := Lib.hid (show fit ob from hxf.2.1)
      have hil : (i : Int) < (len : Int) := by omega
      have bx := heap_alloc_new wr (.cells #[.int .i64 kind, .int .i64 ob, .int .i64 ky, .int .i64 n] 32)
      have H5 := Lib.hid (show PB w (wr.alloc (.cells #[.int .i64 kind, .int .i64 ob, .int .i64 ky, .int .i64 n] 32)) c x depth most Q Ws Q Ws wr.heap.size kind ob ky n NoBlock from ⟨(hPP.beside (.cells #[.int .i64 kind, .int .i64 ob, .int .i64 ky, .int .i64 n] 32)).fewer (fun k hk => hk.elim .inr (fun h => h.elim)), bx⟩)
      obtain ⟨WB, hWB⟩ : ∃ WB, wr.alloc (.cells #[.int .i64 kind, .int .i64 ob, .int .i64 ky, .int .i64 n] 32) = WB := ⟨_, rfl⟩
      rw [hWB] at H5
      obtain ⟨B, hB⟩ : ∃ B, wr.heap.size = B := ⟨_, rfl⟩
      rw [hB] at H5
      obtain ⟨x0, x1, x2, x3⟩ := H5.out.cells
      clear hcell hcs hxo hxf bx hPP HR
      go_upto_block 2 with (fail)
      refine plsw _ _ _ _ _ _ _ _ _ _ _ _ _ _ _ _ _ _ _ _ _ _ _ _ _ _ _ _ _ _ _ _ _ _ _ _ _ _ _ _ _ _ _ _ _ _ _ _ _ _ _ _ _ _ _ _ _ _ _ _ _ _ _ _ _ _ _ _ _ _ _ _ _ _ _ _ _ _ _ _ _ _ _ _ _ _ _ _ _ _ _ _ _ _ _ _ _ _ _ _ _ _ _ _ _ _ _ _ _ _ _ _ _ _ _ _ _ _ _ _ _ _ _ _ _ _ _ _ _ _ _ _ _ _ _ _ _ _ _ _ _ _ _ _ _ _ _ _ _ _ _ _ _ _ _ _ _ _ _ _ _ _ _ _ _ _ _ _ _ _ _ _ _ _ _ _ _ _ _ _ _ _ _ _ _ _ _ _ _ _ _ _ _ _ _ _ _ _ _ _ _ _ _ _ _ _ _ _ _ _ _ _ _ _ _ _ _ H5 HXF (Lib.hid ?_)
      intro Q2 Ws2 wc h2 y12 y13 y14 y15 y65 y66 y67 y68 y69 y70 y71 y72 y73 y74 y75 y76 y77 y78 y79 y80 y81 y82 y83 y84 y85 y86 y87 y88 y89 y90 y91 y92 y93 y94 y95 y96 y97 y98 y99 y100 y101 y102 y103 y104 y105 y106 y107 y108 y109 y110 y111 y112 y113 y114 y115 y116 y117 y118 y119 y120 y121 y122 y123 y124 y125 y126 y127 y128 y129 y130 y131 y132 y133 y134 y135 y136 y137 y138 y139 y140 y141 y142 y143 y144 y145 y146 y147 y148 y149 y150 y151 y152 y153 y154 y155 y156 y157 y158 y159 y160 y161
      have HC := Lib.hid h2
      clear h2 x0 x1 x2 x3 hWB hB H5 d0 d1 d2 d3
      obtain ⟨vq, vw, hst, hrm, -⟩ := HC.out.pp.ex
      obtain ⟨pw, cw, hvw⟩ := WRow.sl hrm.ws
      obtain ⟨y, hy⟩ : ∃ y, Ws2.length = y := ⟨_, rfl⟩
      have hyl := hst.ok.wlen
      have HY := Lib.hid hy
      rw [hy] at hvw hyl
      subst hvw
      have c1 := hrm.hd.c1
      have HRM := Lib.hid hrm
      have HCB := Lib.hid (fun W (t : Turn NoBlock wc W) => (HC.out.past t).cells.2.1)
      clear hst hrm hy
      go_wp2_with fail
      go_loopg [16, 167] y (fun z s16 s167 wq => ∃ (j m : Nat), z = y - j ∧ j ≤ y ∧ m ≤ j ∧ s16 = .int .i64 (m : Int) ∧ s167 = .int .i64 (j : Int) ∧ Hid (Turn NoBlock wc wq ∧ (ofO (Ws2.take j) ob).length = m))
      case atStart => exact ⟨0, 0, rfl, Nat.zero_le _, Nat.le_refl _, rfl, rfl, Lib.hid ⟨Turn.refl _ _, rfl⟩⟩
      case round =>
        obtain ⟨j, m, hz2, hj, hmj, rfl, rfl, HJ⟩ := hrel
        obtain ⟨wq, hwq⟩ : ∃ wq, wr = wq := ⟨_, rfl⟩
        rw [hwq] at HJ ⊢
        clear hwq
        by_cases hjy : j < y
        · obtain ⟨t, ht⟩ : ∃ t, Ws2[j]? = some t := ⟨_, List.getElem?_eq_getElem (by rw [HY.out]; exact hjy)⟩
          obtain ⟨gw, ow, cw', hev, e0, e1, e2⟩ := (HRM.out.past HJ.out.1).watch_at ht
          rw [HY.out] at hev
          simp only [Value.slice.injEq] at hev
          obtain ⟨rfl, -, rfl⟩ := hev
          have tb : Turn NoBlock wq (wq.alloc (.cells #[.int .i64 t.o, .int .i64 t.k, .int .i64 t.m] 51)) := (Turn.refl _ _).alloc _
          have hob := HCB.out _ (TT HJ.out.1 tb)
          have bx := heap_alloc_new wq (.cells #[.int .i64 t.o, .int .i64 t.k, .int .i64 t.m] 51)
          obtain ⟨WC, hWC⟩ : ∃ WC, wq.alloc (.cells #[.int .i64 t.o, .int .i64 t.k, .int .i64 t.m] 51) = WC := ⟨_, rfl⟩
          rw [hWC] at tb hob bx
          have z0 : WC.cell? ⟨wq.heap.size, 0, none⟩ = some (.int .i64 t.o) := cell_at bx 0
          have TB := Lib.hid (TT HJ.out.1 tb)
          have hji : (j : Int) < (y : Int) := by omega
          have hst : (ofO (Ws2.take (j + 1)) ob).length = m + if t.o = ob then 1 else 0 := by
            rw [List.take_add_one, ht]
            show (ofO (Ws2.take j ++ [t]) ob).length = _
            rw [ofO_push]
            by_cases h0 : t.o = ob
            · rw [if_pos h0, if_pos h0, List.length_append, HJ.out.2]; rfl
            · rw [if_neg h0, if_neg h0, HJ.out.2]; rfl
          by_cases h0 : t.o = ob
          · have h00 : (t.o == ob) = true := by simpa using h0
            rw [if_pos h0] at hst
            have HST := Lib.hid hst
            clear hst h0 ht tb bx
            go_wp2
            go_roundg (y - (j + 1))
            case measure => omega
            case rel => exact ⟨j + 1, m + 1, rfl, by omega, by omega, by go_num, by go_num, Lib.hid ⟨TB.out, HST.out⟩⟩
          · have h00 : (t.o == ob) = false := by simpa using h0
            rw [if_neg h0] at hst
            have HST := Lib.hid hst
            clear hst h0 ht tb bx
            go_wp2
            go_roundg (y - (j + 1))
            case measure => omega
            case rel => exact ⟨j + 1, m, rfl, by omega, by omega, rfl, by go_num, Lib.hid ⟨TB.out, HST.out⟩⟩
        · obtain rfl : j = y := by omega
          have H6 := Lib.hid (HC.out.past HJ.out.1)
          have HN := Lib.hid (show (ofO Ws2 ob).length = m from by
            have h9 := HJ.out.2
            rw [List.take_of_length_le (by rw [HY.out]; exact Nat.le_refl _)] at h9
            exact h9)
          go_upto_region 33 with (fail)
          refine plr33 _ _ _ _ _ _ _ _ _ _ _ _ _ _ _ _ _ _ _ _ _ _ _ _ _ _ _ _ _ _ _ _ _ _ _ _ _ _ _ _ _ _ _ _ _ _ _ _ _ _ _ _ _ _ _ _ _ _ _ _ _ _ _ _ _ _ _ _ _ _ _ _ _ _ _ _ _ _ _ _ _ _ _ _ _ _ _ _ _ _ _ _ _ _ _ _ _ _ _ _ _ _ _ _ _ _ _ _ _ _ _ _ _ _ _ _ _ _ _ _ _ _ _ _ _ _ _ _ _ _ _ _ _ _ _ _ _ _ _ _ _ _ _ _ _ _ _ _ _ _ _ _ _ _ _ _ _ _ _ _ _ _ _ _ _ _ _ _ _ _ _ _ _ _ _ _ _ _ _ _ _ _ _ _ _ _ _ _ _ _ _ _ _ _ _ _ _ _ _ _ _ _ _ _ _ _ _ _ _ _ _ _ _ _ _ _ _ H6 HXF HN (Lib.hid ?_)
          intro wz tz v179 v180 v181 v182 v183 v184 v185 v186 v187 v188 v189 v190 v191 v192 v193 v194 v195 v196 v197 v198 v199 v200 v201 v202 v203 v204 v205 v206 v207 v208 v209 v210 v211 v212 v213 v214 v215 v216 v217
          have HZ := Lib.hid (H6.out.past tz)
          clear tz
          go_wp2_with fail
          go_roundg (len - (i + 1))
          case measure => omega
          case rel => exact ⟨i + 1, rfl, by omega, by go_num, Lib.hid ⟨_, _, HZ.out.pp.fewer (fun _ h => h.elim)⟩⟩
    · obtain rfl : i = len := by omega
      obtain ⟨Q, Ws, hPP⟩ := HR.out
      have HT := Lib.hid hPP.turn
      go_wp2_with (first
        | (go_at_call 9; (with_reducible refine (cA.out _).mono ?_); rintro e w9 ⟨rfl, t9⟩))
      go_ret
      exact ⟨rfl, TT HT.out t9⟩
end Go.Proofs.Ytcnellkoejhofaa
