/-
  The switch of FifoPlays' loop: calls of kind 3. No conditions but what the loop lays.
-/
import Derived.Test.YtocaebcbmfejbaaLawPlC
import Derived.Deep.DeepCutAuto
import Derived.Deep.LoopGhost
import Derived.Deep.RegionHeld3
import Derived.BigQuiet
namespace Go.Proofs.Ytocaebcbmfejbaa
open Go.ChangeShapes Go.WideShapes Go.ChangeAt Go.RowKit

set_option linter.unusedVariables false
set_option maxRecDepth 100000 in
set_option maxHeartbeats 60000000 in
theorem ql3 {w W : World} {c x count size B i : Nat} {K : Nat → Re} {p : Option Addr} (len cap : Nat)  (en n : Int) (pd : Option Addr) (cd : Nat) (d : List UInt8) (Q : Exit → Act → World → Prop)
    (u3 u4 u5 u6 u9 u12 u13 u14 u15 u16 u17 u18 u19 u20 u21 u22 u23 u24 u25 u26 u27 u28 u29 u30 u31 u32 u33 u34 u35 u36 u37 u38 u39 u40 u41 u42 u43 u44 u45 u46 u47 u48 u49 u50 u51 u52 u56 u57 u58 u59 u60 u61 u62 u63 u64 u67 u68 u69 u70 u71 u72 u73 u74 u75 u76 u77 u78 u79 u80 u81 u82 u83 u84 u85 u86 u87 u88 u89 u90 u91 u92 u93 u94 u95 u96 u97 u98 u99 u100 u101 u102 u103 u104 u105 u106 u107 u108 u109 u110 u111 u112 u113 u114 u115 u116 u117 u118 u119 u120 u121 u122 u123 u124 u125 u126 u127 u128 u129 u130 u131 u132 u133 u134 u135 u136 u137 u138 u139 u140 u141 u142 u143 u144 u145 u146 u147 u148 u149 u150 u151 u152 u153 u154 u155 u156 u157 u158 u159 u160 u161 u162 u163 u164 u165 u166 u167 u168 u169 u170 u171 u172 u173 u174 u175 u176 u177 u178 u179 u180 u181 u182 u183 u184 u185 u186 u187 u188 u189 u190 u191 u192 u193 u194 u195 u196 u197 u198 u199 u200 u201 u202 u203 u204 u205 u206 u207 u208 u209 u210 u211 u212 u213 u214 u215 u216 u217 u218 u219 u220 u221 u222 u223 u224 u225 u226 u227 u228 u229 u230 u231 u232 u233 u234 u235 u236 u237 u238 u239 u240 u241 u242 u243 u244 u245 u246 u247 u248 u249 u250 u251 u252 u253 u254 u255 : Value)
    (HS : Hid (BX w W c x count size B #[.int .i64 3, .int .i64 en, .int .i64 n, .slice pd d.length cd] K K))
    (HQ : Hid (Rk w (.slice pd d.length cd) d ∧ n ≤ 9223372036854775807 ∧ d.length ≤ 400))
    (HD : Hid (∀ (K' : Nat → Re) (w' : World), PSx w w' c x count size NoBlock K' K' → ∀ y12 y13 y14 y15 y16 y17 y18 y19 y20 y21 y22 y23 y24 y66 y67 y68 y69 y70 y71 y72 y73 y74 y75 y76 y77 y78 y79 y80 y81 y82 y83 y84 y85 y86 y87 y88 y89 y90 y91 y92 y93 y94 y95 y96 y97 y98 y99 y100 y101 y102 y103 y104 y105 y106 y107 y108 y109 y110 y111 y112 y113 y114 y115 y116 y117 y118 y119 y120 y121 y122 y123 y124 y125 y126 y127 y128 y129 y130 y131 y132 y133 y134 y135 y136 y137 y138 y139 y140 y141 y142 y143 y144 y145 y146 y147 y148 y149 y150 y151 y152 y153 y154 y155 y156 y157 y158 y159 y160 y161 y162 y163 y164 y165 y166 y167 y168 y169 y170 y171 y172 y173 y174 y175 y176 y177 y178 y179 y180 y181 y182 y183 y184 y185 y186 y187 y188 y189 y190 y191 y192 y193 y194 : Value, Q Exit.normal ⟨(.int .i64 (count : Int) :: .int .i64 (size : Int) :: .slice p len cap :: u3 :: u4 :: u5 :: u6 :: .pointer (some ⟨c, 0, none⟩) :: .pointer (some ⟨x, 0, none⟩) :: u9 :: .pointer (some ⟨B, 0, none⟩) :: .bool true :: y12 :: y13 :: y14 :: y15 :: y16 :: y17 :: y18 :: y19 :: y20 :: y21 :: y22 :: y23 :: y24 :: u25 :: u26 :: u27 :: u28 :: u29 :: u30 :: u31 :: u32 :: u33 :: u34 :: u35 :: u36 :: u37 :: u38 :: u39 :: u40 :: u41 :: u42 :: u43 :: u44 :: u45 :: u46 :: u47 :: u48 :: u49 :: u50 :: u51 :: u52 :: .slice p len cap :: .int .i64 (len : Int) :: .int .i64 (i : Int) :: u56 :: u57 :: u58 :: u59 :: u60 :: u61 :: u62 :: u63 :: u64 :: .int .i64 3 :: y66 :: y67 :: y68 :: y69 :: y70 :: y71 :: y72 :: y73 :: y74 :: y75 :: y76 :: y77 :: y78 :: y79 :: y80 :: y81 :: y82 :: y83 :: y84 :: y85 :: y86 :: y87 :: y88 :: y89 :: y90 :: y91 :: y92 :: y93 :: y94 :: y95 :: y96 :: y97 :: y98 :: y99 :: y100 :: y101 :: y102 :: y103 :: y104 :: y105 :: y106 :: y107 :: y108 :: y109 :: y110 :: y111 :: y112 :: y113 :: y114 :: y115 :: y116 :: y117 :: y118 :: y119 :: y120 :: y121 :: y122 :: y123 :: y124 :: y125 :: y126 :: y127 :: y128 :: y129 :: y130 :: y131 :: y132 :: y133 :: y134 :: y135 :: y136 :: y137 :: y138 :: y139 :: y140 :: y141 :: y142 :: y143 :: y144 :: y145 :: y146 :: y147 :: y148 :: y149 :: y150 :: y151 :: y152 :: y153 :: y154 :: y155 :: y156 :: y157 :: y158 :: y159 :: y160 :: y161 :: y162 :: y163 :: y164 :: y165 :: y166 :: y167 :: y168 :: y169 :: y170 :: y171 :: y172 :: y173 :: y174 :: y175 :: y176 :: y177 :: y178 :: y179 :: y180 :: y181 :: y182 :: y183 :: y184 :: y185 :: y186 :: y187 :: y188 :: y189 :: y190 :: y191 :: y192 :: y193 :: y194 :: u195 :: u196 :: u197 :: u198 :: u199 :: u200 :: u201 :: u202 :: u203 :: u204 :: u205 :: u206 :: u207 :: u208 :: u209 :: u210 :: u211 :: u212 :: u213 :: u214 :: u215 :: u216 :: u217 :: u218 :: u219 :: u220 :: u221 :: u222 :: u223 :: u224 :: u225 :: u226 :: u227 :: u228 :: u229 :: u230 :: u231 :: u232 :: u233 :: u234 :: u235 :: u236 :: u237 :: u238 :: u239 :: u240 :: u241 :: u242 :: u243 :: u244 :: u245 :: u246 :: u247 :: u248 :: u249 :: u250 :: u251 :: u252 :: u253 :: u254 :: u255 :: [] : List Value).toArray, []⟩ w')) :
    Code.wp Try.prog (condP 66) Q ⟨(.int .i64 (count : Int) :: .int .i64 (size : Int) :: .slice p len cap :: u3 :: u4 :: u5 :: u6 :: .pointer (some ⟨c, 0, none⟩) :: .pointer (some ⟨x, 0, none⟩) :: u9 :: .pointer (some ⟨B, 0, none⟩) :: .bool true :: u12 :: u13 :: u14 :: u15 :: u16 :: u17 :: u18 :: u19 :: u20 :: u21 :: u22 :: u23 :: u24 :: u25 :: u26 :: u27 :: u28 :: u29 :: u30 :: u31 :: u32 :: u33 :: u34 :: u35 :: u36 :: u37 :: u38 :: u39 :: u40 :: u41 :: u42 :: u43 :: u44 :: u45 :: u46 :: u47 :: u48 :: u49 :: u50 :: u51 :: u52 :: .slice p len cap :: .int .i64 (len : Int) :: .int .i64 (i : Int) :: u56 :: u57 :: u58 :: u59 :: u60 :: u61 :: u62 :: u63 :: u64 :: .int .i64 3 :: .bool ((3 : Int) == 1) :: u67 :: u68 :: u69 :: u70 :: u71 :: u72 :: u73 :: u74 :: u75 :: u76 :: u77 :: u78 :: u79 :: u80 :: u81 :: u82 :: u83 :: u84 :: u85 :: u86 :: u87 :: u88 :: u89 :: u90 :: u91 :: u92 :: u93 :: u94 :: u95 :: u96 :: u97 :: u98 :: u99 :: u100 :: u101 :: u102 :: u103 :: u104 :: u105 :: u106 :: u107 :: u108 :: u109 :: u110 :: u111 :: u112 :: u113 :: u114 :: u115 :: u116 :: u117 :: u118 :: u119 :: u120 :: u121 :: u122 :: u123 :: u124 :: u125 :: u126 :: u127 :: u128 :: u129 :: u130 :: u131 :: u132 :: u133 :: u134 :: u135 :: u136 :: u137 :: u138 :: u139 :: u140 :: u141 :: u142 :: u143 :: u144 :: u145 :: u146 :: u147 :: u148 :: u149 :: u150 :: u151 :: u152 :: u153 :: u154 :: u155 :: u156 :: u157 :: u158 :: u159 :: u160 :: u161 :: u162 :: u163 :: u164 :: u165 :: u166 :: u167 :: u168 :: u169 :: u170 :: u171 :: u172 :: u173 :: u174 :: u175 :: u176 :: u177 :: u178 :: u179 :: u180 :: u181 :: u182 :: u183 :: u184 :: u185 :: u186 :: u187 :: u188 :: u189 :: u190 :: u191 :: u192 :: u193 :: u194 :: u195 :: u196 :: u197 :: u198 :: u199 :: u200 :: u201 :: u202 :: u203 :: u204 :: u205 :: u206 :: u207 :: u208 :: u209 :: u210 :: u211 :: u212 :: u213 :: u214 :: u215 :: u216 :: u217 :: u218 :: u219 :: u220 :: u221 :: u222 :: u223 :: u224 :: u225 :: u226 :: u227 :: u228 :: u229 :: u230 :: u231 :: u232 :: u233 :: u234 :: u235 :: u236 :: u237 :: u238 :: u239 :: u240 :: u241 :: u242 :: u243 :: u244 :: u245 :: u246 :: u247 :: u248 :: u249 :: u250 :: u251 :: u252 :: u253 :: u254 :: u255 :: [] : List Value).toArray, []⟩ W := by
  conv => arg 2; whnf
  obtain ⟨x0, x1, x2, x3⟩ := HS.out.cells
  obtain ⟨G, C, U, Q0, hp⟩ := HS.out.ps
  have cC := p_close hp en
  have HCL2 := Lib.hid (cl_same K en)
  have HC0 := Lib.hid hp.rel.c
  have SA := st_any K en
  rcases SA with ⟨rfl, o1, s1⟩ | ⟨rfl, o1, s1⟩ | ⟨rfl, o1, s1⟩ | ⟨rfl, o1, s1⟩ | ⟨e0, e1, s1⟩
  · rw [s1] at cC
    have O1 := Lib.hid o1
    have CC := Lib.hid cC
    clear o1 s1 cC hp
    go_upto_region 38 with (go_at_call 45; (with_reducible refine CC.out.mono ?_); rintro e w3 ⟨rfl, k3, kp3⟩; have K3 := Lib.hid k3; have B3 := Lib.hid (kp3.heap HS.out.2 rfl); clear k3 kp3)
    obtain ⟨z0, z1, z2, z3⟩ := box_cells B3.out
    have y0 := K3.out.r.cc 0 (by omega)
    have y1 := K3.out.r.cw 0 (by omega)
    have f0 := K3.out.r.f (2 + 0)
    have f1 := K3.out.r.f 0
    rw [HC0.out 0 (by omega), O1.out] at y0
    simp only [Nat.reduceAdd, Bool.not_true] at y0 f0
    go_wp2
    go_quiet (fail)
    go_upto_region 36 with (fail)
    go_region
    go_wp2
    go_region
    go_wp2
    exact HD.out _ _ (fin_close0 K3.out O1.out (Turn.refl _ _ |>.drewN _) (Turn.refl _ _) ((Turn.refl _ _).drew)) _ _ _ _ _ _ _ _ _ _ _ _ _ _ _ _ _ _ _ _ _ _ _ _ _ _ _ _ _ _ _ _ _ _ _ _ _ _ _ _ _ _ _ _ _ _ _ _ _ _ _ _ _ _ _ _ _ _ _ _ _ _ _ _ _ _ _ _ _ _ _ _ _ _ _ _ _ _ _ _ _ _ _ _ _ _ _ _ _ _ _ _ _ _ _ _ _ _ _ _ _ _ _ _ _ _ _ _ _ _ _ _ _ _ _ _ _ _ _ _ _ _ _ _ _ _ _ _ _ _ _ _ _ _ _ _ _ _ _ _ _ _
  · rw [HCL2.out (by rw [s1]; decide)] at cC
    rw [s1] at cC
    have O1 := Lib.hid o1
    have CC := Lib.hid cC
    clear s1 cC o1 hp
    go_upto_region 38 with (go_at_call 45; (with_reducible refine CC.out.mono ?_); rintro e w3 ⟨rfl, k3, kp3⟩; have K3 := Lib.hid k3; have B3 := Lib.hid (kp3.heap HS.out.2 rfl); clear k3 kp3)
    obtain ⟨z0, z1, z2, z3⟩ := box_cells B3.out
    have y0 := K3.out.r.cc 0 (by omega)
    rw [HC0.out 0 (by omega), O1.out] at y0
    simp only [Nat.reduceAdd, Bool.not_false] at y0
    go_wp2
    go_quiet (fail)
    go_wp2
    exact HD.out _ _ (((pst_x K3.out).past ((Turn.refl _ _).drewN _)).fewer (fun _ h => h.elim)) _ _ _ _ _ _ _ _ _ _ _ _ _ _ _ _ _ _ _ _ _ _ _ _ _ _ _ _ _ _ _ _ _ _ _ _ _ _ _ _ _ _ _ _ _ _ _ _ _ _ _ _ _ _ _ _ _ _ _ _ _ _ _ _ _ _ _ _ _ _ _ _ _ _ _ _ _ _ _ _ _ _ _ _ _ _ _ _ _ _ _ _ _ _ _ _ _ _ _ _ _ _ _ _ _ _ _ _ _ _ _ _ _ _ _ _ _ _ _ _ _ _ _ _ _ _ _ _ _ _ _ _ _ _ _ _ _ _ _ _ _ _
  · rw [s1] at cC
    have O1 := Lib.hid o1
    have CC := Lib.hid cC
    clear o1 s1 cC hp
    go_upto_region 38 with (go_at_call 45; (with_reducible refine CC.out.mono ?_); rintro e w3 ⟨rfl, k3, kp3⟩; have K3 := Lib.hid k3; have B3 := Lib.hid (kp3.heap HS.out.2 rfl); clear k3 kp3)
    obtain ⟨z0, z1, z2, z3⟩ := box_cells B3.out
    have y0 := K3.out.r.cc 1 (by omega)
    have y1 := K3.out.r.cw 1 (by omega)
    have f0 := K3.out.r.f (2 + 1)
    have f1 := K3.out.r.f 1
    rw [HC0.out 1 (by omega), O1.out] at y0
    simp only [Nat.reduceAdd, Bool.not_true] at y0 f0
    go_wp2
    go_quiet (fail)
    go_upto_region 36 with (fail)
    go_region
    go_wp2
    go_region
    go_wp2
    exact HD.out _ _ (fin_close1 K3.out O1.out (Turn.refl _ _ |>.drewN _) (Turn.refl _ _) ((Turn.refl _ _).drew)) _ _ _ _ _ _ _ _ _ _ _ _ _ _ _ _ _ _ _ _ _ _ _ _ _ _ _ _ _ _ _ _ _ _ _ _ _ _ _ _ _ _ _ _ _ _ _ _ _ _ _ _ _ _ _ _ _ _ _ _ _ _ _ _ _ _ _ _ _ _ _ _ _ _ _ _ _ _ _ _ _ _ _ _ _ _ _ _ _ _ _ _ _ _ _ _ _ _ _ _ _ _ _ _ _ _ _ _ _ _ _ _ _ _ _ _ _ _ _ _ _ _ _ _ _ _ _ _ _ _ _ _ _ _ _ _ _ _ _ _ _ _
  · rw [HCL2.out (by rw [s1]; decide)] at cC
    rw [s1] at cC
    have O1 := Lib.hid o1
    have CC := Lib.hid cC
    clear s1 cC o1 hp
    go_upto_region 38 with (go_at_call 45; (with_reducible refine CC.out.mono ?_); rintro e w3 ⟨rfl, k3, kp3⟩; have K3 := Lib.hid k3; have B3 := Lib.hid (kp3.heap HS.out.2 rfl); clear k3 kp3)
    obtain ⟨z0, z1, z2, z3⟩ := box_cells B3.out
    have y0 := K3.out.r.cc 1 (by omega)
    rw [HC0.out 1 (by omega), O1.out] at y0
    simp only [Nat.reduceAdd, Bool.not_false] at y0
    go_wp2
    go_quiet (fail)
    go_wp2
    exact HD.out _ _ (((pst_x K3.out).past ((Turn.refl _ _).drewN _)).fewer (fun _ h => h.elim)) _ _ _ _ _ _ _ _ _ _ _ _ _ _ _ _ _ _ _ _ _ _ _ _ _ _ _ _ _ _ _ _ _ _ _ _ _ _ _ _ _ _ _ _ _ _ _ _ _ _ _ _ _ _ _ _ _ _ _ _ _ _ _ _ _ _ _ _ _ _ _ _ _ _ _ _ _ _ _ _ _ _ _ _ _ _ _ _ _ _ _ _ _ _ _ _ _ _ _ _ _ _ _ _ _ _ _ _ _ _ _ _ _ _ _ _ _ _ _ _ _ _ _ _ _ _ _ _ _ _ _ _ _ _ _ _ _ _ _ _ _ _
  · rw [HCL2.out (by rw [s1]; decide)] at cC
    rw [s1] at cC
    have CC := Lib.hid cC
    have b0 : (en != 0) = true := bne_iff_ne.2 e0
    have b1 : (en != 1) = true := bne_iff_ne.2 e1
    clear s1 cC hp
    go_upto_region 38 with (go_at_call 45; (with_reducible refine CC.out.mono ?_); rintro e w3 ⟨rfl, k3, kp3⟩; have K3 := Lib.hid k3; have B3 := Lib.hid (kp3.heap HS.out.2 rfl); clear k3 kp3)
    obtain ⟨z0, z1, z2, z3⟩ := box_cells B3.out
    go_wp2
    exact HD.out _ _ ((pst_x K3.out).fewer (fun _ h => h.elim)) _ _ _ _ _ _ _ _ _ _ _ _ _ _ _ _ _ _ _ _ _ _ _ _ _ _ _ _ _ _ _ _ _ _ _ _ _ _ _ _ _ _ _ _ _ _ _ _ _ _ _ _ _ _ _ _ _ _ _ _ _ _ _ _ _ _ _ _ _ _ _ _ _ _ _ _ _ _ _ _ _ _ _ _ _ _ _ _ _ _ _ _ _ _ _ _ _ _ _ _ _ _ _ _ _ _ _ _ _ _ _ _ _ _ _ _ _ _ _ _ _ _ _ _ _ _ _ _ _ _ _ _ _ _ _ _ _ _ _ _ _ _
end Go.Proofs.Ytocaebcbmfejbaa
