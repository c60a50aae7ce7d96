/-
  FifoPlays' walk.
-/
import Derived.Test.YtocaebcbmfejbaaLawPlAll
import Derived.Test.YtocaebcbmfejbaaLawPlIn
import Derived.Test.YtocaebcbmfejbaaFRight
import Derived.OwnWalk
import Derived.Deep.LoopGhost
import Derived.Deep.DeepCutAuto
import Derived.Deep.CutBlock
namespace Go.Proofs.Ytocaebcbmfejbaa
open Go.ChangeShapes Go.WideShapes Go.ChangeAt Go.RowKit

set_option maxRecDepth 20000 in
set_option maxHeartbeats 4000000 in
theorem plays_no (a b : Int) (p : Option Addr) (n ca : Nat) (w : World) (h : ¬ good a b) : Calls Try.prog 5 #[.int .i64 a, .int .i64 b, .slice p n ca] w fun e w' => e = .returned (.bool true) ∧ Turn NoBlock w w' := by
  have cA := Lib.hid awake13
  have cN := Lib.hid (fnew_no a b w h)
  have cR := Lib.hid ((fright13 a b w).mono (fun x w' hh => (show x = .returned (.bool false) ∧ w = w' from ⟨hh.1.elim (fun h1 => (h h1.2).elim) (fun h1 => h1.1), hh.2⟩)))
  clear h
  go_enter Try.func5, Try.ntmps5
  go_wp2_with (first
    | (go_at_call 38; (with_reducible refine cN.out.mono ?_); rintro x w1 ⟨rfl, rfl⟩)
    | (go_at_call 39; (with_reducible refine cR.out.mono ?_); rintro x w2 ⟨rfl, rfl⟩)
    | (go_at_call 40; (with_reducible refine (cA.out _).mono ?_); rintro x w3 ⟨rfl, t3⟩))
  go_ret
  exact ⟨rfl, t3⟩
set_option maxRecDepth 20000 in
set_option maxHeartbeats 4000000 in
theorem plays_many (count size : Nat) (p : Option Addr) (n ca : Nat) (w : World) (h : good (count : Int) (size : Int)) (hn : 100 < n) : Calls Try.prog 5 #[.int .i64 (count : Int), .int .i64 (size : Int), .slice p n ca] w fun e w' => e = .returned (.bool true) ∧ Turn NoBlock w w' := by
  have cA := Lib.hid awake13
  have cN := Lib.hid (fnew_yes count size w h)
  have cR := Lib.hid (fun W => (fright13 (count : Int) (size : Int) W).mono (fun x w' hh => (show x = .returned (.bool true) ∧ W = w' from ⟨hh.1.elim (fun h1 => h1.1) (fun h1 => (h1.2 h).elim), hh.2⟩)))
  have g3 : (100 : Int) < n := by omega
  clear h hn
  go_enter Try.func5, Try.ntmps5
  go_wp2_with (first
    | (go_at_call 38; (with_reducible refine cN.out.mono ?_); rintro x w1 ⟨rfl, G, k1⟩; have K1 := Lib.hid k1; clear k1)
    | (go_at_call 39; (with_reducible refine (cR.out _).mono ?_); rintro x w2 ⟨rfl, rfl⟩)
    | (go_at_call 40; (with_reducible refine (cA.out _).mono ?_); rintro x w3 ⟨rfl, t3⟩))
  go_ret
  exact ⟨rfl, TT K1.out.turn t3⟩
set_option maxRecDepth 20000 in
set_option maxHeartbeats 8000000 in
theorem plays_walk (count size : Nat) (p : Option Addr) (len cap : Nat) (os : List O13) (w : World) (h : good (count : Int) (size : Int)) (hl : len ≤ 100) (ho : OpsAt w p len os) :
    Calls Try.prog 5 #[.int .i64 (count : Int), .int .i64 (size : Int), .slice p len cap] w fun e w' => e = .returned (.bool true) ∧ Turn NoBlock w w' := by
  have cA := Lib.hid awake13
  obtain ⟨c, hc⟩ : ∃ c, w.heap.size = c := ⟨_, rfl⟩
  have c1 := fnew_yes count size w h
  rw [hc] at c1
  have C1 := Lib.hid c1
  have cR := Lib.hid (fun W => (fright13 (count : Int) (size : Int) W).mono (fun x w' hh => (show x = .returned (.bool true) ∧ W = w' from ⟨hh.1.elim (fun h1 => h1.1) (fun h1 => (h1.2 h).elim), hh.2⟩)))
  have HO := Lib.hid ho
  have hli : (len : Int) ≤ 100 := by omega
  have nli : ¬ (100 : Int) < len := by omega
  clear hc c1 ho h hl
  go_enter Try.func5, Try.ntmps5
  go_wp2_with (first
    | (go_at_call 38; (with_reducible refine C1.out.mono ?_); rintro e w1 ⟨rfl, G1, k1⟩; have K1 := Lib.hid k1; clear k1)
    | (go_at_call 39; (with_reducible refine (cR.out _).mono ?_); rintro e w2 ⟨rfl, rfl⟩))
  have START := Lib.hid (pst_new K1.out rfl)
  generalize w1.heap.size = x at *
  go_loopg [55] len (fun g s55 wr => ∃ (i : Nat) (K : Nat → Re), i ≤ len ∧ g = len - i ∧ s55 = .int .i64 i ∧ Hid (PSx w wr c x count size NoBlock K K))
  case atStart => exact ⟨0, _, by omega, by omega, rfl, START⟩
  case round =>
    obtain ⟨i, K, hi, hg, rfl, HT⟩ := hrel
    by_cases hlt : i < len
    · obtain ⟨g0, o0, rfl, hcell⟩ := HO.out.2 (by omega)
      obtain ⟨q, hx⟩ : ∃ q, os[i]? = some q := ⟨_, List.getElem?_eq_getElem (by rw [HO.out.1]; exact hlt)⟩
      obtain ⟨hcs, hqr⟩ := hcell i q hx
      obtain ⟨d0, d1, d2, d3⟩ := op_cells (W := wr) (g := g0) (o := o0 + i * 4) (x := q) (fun j hj => (show wr.cell? ⟨g0, o0 + i * 4 + j, none⟩ = q.cells[j]? by
        have h1 := hcs j hj
        have h2 : j < q.cells.length := hj
        rw [List.getElem?_eq_getElem h2] at h1 ⊢
        exact HT.out.turn.cell h1 (fun h => h)))
      obtain ⟨kind, en, n, vd, d⟩ := q
      obtain ⟨pd, cd, hvd, -⟩ := hqr.1.sl
      dsimp only at hvd d0 d1 d2 d3
      subst hvd
      have HQ := Lib.hid (show Rk w (.slice pd d.length cd) d ∧ n ≤ 9223372036854775807 from hqr)
      simp only [Nat.add_zero] at d0
      clear hcell hcs hx hqr
      by_cases hdl : 400 < d.length
      · have e1 : (400 : Int) < d.length := by omega
        clear hdl
        go_wp2_with (go_at_call 40; (with_reducible refine (cA.out _).mono ?_); rintro e w9 ⟨rfl, t9⟩)
        go_ret
        exact ⟨rfl, TT (TT HT.out.turn (turn_alloc _)) t9⟩
      · have e1 : ¬ (400 : Int) < d.length := by omega
        have HD := Lib.hid (show d.length ≤ 400 by omega)
        clear hdl
        have HB := Lib.hid (show BX w (wr.alloc (.cells #[.int .i64 kind, .int .i64 en, .int .i64 n, .slice pd d.length cd] 85 (0, 0))) c x count size wr.heap.size #[.int .i64 kind, .int .i64 en, .int .i64 n, .slice pd d.length cd] K K from ⟨psx_box HT.out, heap_alloc_new wr _⟩)
        go_upto_region 13 with (fail)
        have HD2 := Lib.hid (show BX w (wr.alloc (.cells #[.int .i64 kind, .int .i64 en, .int .i64 n, .slice pd d.length cd] 85)) c x count size wr.heap.size #[.int .i64 kind, .int .i64 en, .int .i64 n, .slice pd d.length cd] K K from HB.out)
        have HQ3 := Lib.hid (And.intro HQ.out.1 (And.intro HQ.out.2 HD.out))
        obtain ⟨x0, x1, x2, x3⟩ := HB.out.cells
        clear d0 d1 d2 d3 HB
        go_upto_if 66 with (fail)
        refine qlAll len cap kind en n pd cd d _ _ _ _ _ _ _ _ _ _ _ _ _ _ _ _ _ _ _ _ _ _ _ _ _ _ _ _ _ _ _ _ _ _ _ _ _ _ _ _ _ _ _ _ _ _ _ _ _ _ _ _ _ _ _ _ _ _ _ _ _ _ _ _ _ _ _ _ _ _ _ _ _ _ _ _ _ _ _ _ _ _ _ _ _ _ _ _ _ _ _ _ _ _ _ _ _ _ _ _ _ _ _ _ _ _ _ _ _ _ _ _ _ _ _ _ _ _ _ _ _ _ _ _ _ _ _ _ _ _ _ _ _ _ _ _ _ _ _ _ _ _ _ _ _ _ _ _ _ _ _ _ _ _ _ _ _ _ _ _ _ _ _ _ _ _ _ _ _ _ _ _ _ _ _ _ _ _ _ _ _ _ _ _ _ _ _ _ _ _ _ _ _ _ _ _ _ _ _ _ _ _ _ _ _ _ _ _ _ _ _ _ _ _ _ _ _ _ _ _ _ _ _ _ _ _ _ _ _ _ _ _ _ _ _ _ _ _ _ _ _ _ _ _ _ HD2 HQ3 (Lib.hid ?_)
        intro K' w' hps y12 y13 y14 y15 y16 y17 y18 y19 y20 y21 y22 y23 y24 y66 y67 y68 y69 y70 y71 y72 y73 y74 y75 y76 y77 y78 y79 y80 y81 y82 y83 y84 y85 y86 y87 y88 y89 y90 y91 y92 y93 y94 y95 y96 y97 y98 y99 y100 y101 y102 y103 y104 y105 y106 y107 y108 y109 y110 y111 y112 y113 y114 y115 y116 y117 y118 y119 y120 y121 y122 y123 y124 y125 y126 y127 y128 y129 y130 y131 y132 y133 y134 y135 y136 y137 y138 y139 y140 y141 y142 y143 y144 y145 y146 y147 y148 y149 y150 y151 y152 y153 y154 y155 y156 y157 y158 y159 y160 y161 y162 y163 y164 y165 y166 y167 y168 y169 y170 y171 y172 y173 y174 y175 y176 y177 y178 y179 y180 y181 y182 y183 y184 y185 y186 y187 y188 y189 y190 y191 y192 y193 y194
        have CZ := Lib.hid (psx_size hps)
        go_upto_block 8 with (go_at_call 46; (with_reducible refine CZ.out.mono ?_); rintro e w7 ⟨rfl, rfl⟩)
        refine qlin len cap _ _ _ _ _ _ _ _ _ _ _ _ _ _ _ _ _ _ _ _ _ _ _ _ _ _ _ _ _ _ _ _ _ _ _ _ _ _ _ _ _ _ _ _ _ _ _ _ _ _ _ _ _ _ _ _ _ _ _ _ _ _ _ _ _ _ _ _ _ _ _ _ _ _ _ _ _ _ _ _ _ _ _ _ _ _ _ _ _ _ _ _ _ _ _ _ _ _ _ _ _ _ _ _ _ _ _ _ _ _ _ _ _ _ _ _ _ _ _ _ _ _ _ _ _ _ _ _ _ _ _ _ _ _ _ _ _ _ _ _ _ _ _ _ _ _ _ _ _ _ _ _ _ _ _ _ _ _ _ _ _ _ _ _ _ _ _ _ _ _ _ _ _ _ _ _ _ _ _ _ _ _ _ _ _ _ _ _ _ _ _ _ _ _ _ _ _ _ _ _ _ _ _ _ _ _ _ _ _ _ _ _ _ _ _ _ _ _ _ _ _ _ _ _ _ _ _ _ _ _ _ _ _ _ _ _ _ _ _ _ _ _ _ _ _ _ _ _ (Lib.hid hps) (Lib.hid ?_)
        intro w8 hp8 z6 z24 z203 z204 z205 z206 z207 z208 z209 z210 z211 z212 z213 z214 z215 z216 z217 z218 z219 z220 z221 z222 z223 z224 z225 z226 z227 z228 z229 z230 z231 z232 z233 z234 z235 z236 z237 z238
        go_wp2
        go_roundg (len - (i + 1))
        case measure => omega
        case rel => exact ⟨i + 1, K', by omega, rfl, by go_num, Lib.hid hp8⟩
    · have hil : ¬ (i : Int) < len := by omega
      go_wp2_with (first
        | (go_at_call 47; (with_reducible refine (flen_bad _ (by decide) (by decide) _ _).mono ?_); rintro y w2 ⟨rfl, rfl⟩)
        | (go_at_call 48; (with_reducible refine (fopen_bad _ (by decide) (by decide) _ _).mono ?_); rintro y w2 ⟨rfl, rfl⟩)
        | (go_at_call 49; (with_reducible refine (fshows_bad _ (by decide) (by decide) _ _).mono ?_); rintro y w2 ⟨rfl, rfl⟩)
        | (go_at_call 40; (with_reducible refine (cA.out _).mono ?_); rintro e w9 ⟨rfl, t9⟩))
      go_ret
      exact ⟨rfl, TT HT.out.turn t9⟩
end Go.Proofs.Ytocaebcbmfejbaa
