/-
  The switch of SocketPlays' loop: calls of kind 3. No conditions but what the loop lays.
-/
import Derived.Test.YtocaebcbmfejbaaLawPlC
import Derived.Test.YtocaebcbmfejbaaLawPlE
import Derived.Deep.DeepCutAuto
import Derived.Deep.LoopGhost
import Derived.Deep.RegionHeld3
import Derived.BigQuiet
namespace Go.Proofs.Ytocaebcbmfejbaa
open Go.ChangeShapes Go.WideShapes Go.ChangeAt Go.RowKit

set_option linter.unusedVariables false
set_option maxRecDepth 100000 in
set_option maxHeartbeats 60000000 in
theorem ql3 {w W : World} {c x room B i : Nat} {dg : Bool} {K : Nat → En} {p : Option Addr} (len cap : Nat)  (en n : Int) (a b : Bool) (pd : Option Addr) (cd : Nat) (d : List UInt8) (Q : Exit → Act → World → Prop)
    (u3 u4 u5 u6 u9 u11 u14 u15 u16 u17 u18 u19 u20 u21 u22 u23 u24 u25 u26 u27 u28 u29 u30 u31 u32 u33 u34 u35 u36 u37 u38 u39 u40 u41 u42 u43 u44 u45 u46 u47 u48 u49 u50 u51 u52 u53 u54 u55 u56 u60 u61 u62 u63 u64 u65 u66 u67 u68 u69 u70 u71 u72 u73 u74 u75 u76 u77 u78 u79 u80 u81 u82 u83 u84 u85 u86 u87 u90 u91 u92 u93 u94 u95 u96 u97 u98 u99 u100 u101 u102 u103 u104 u105 u106 u107 u108 u109 u110 u111 u112 u113 u114 u115 u116 u117 u118 u119 u120 u121 u122 u123 u124 u125 u126 u127 u128 u129 u130 u131 u132 u133 u134 u135 u136 u137 u138 u139 u140 u141 u142 u143 u144 u145 u146 u147 u148 u149 u150 u151 u152 u153 u154 u155 u156 u157 u158 u159 u160 u161 u162 u163 u164 u165 u166 u167 u168 u169 u170 u171 u172 u173 u174 u175 u176 u177 u178 u179 u180 u181 u182 u183 u184 u185 u186 u187 u188 u189 u190 u191 u192 u193 u194 u195 u196 u197 u198 u199 u200 u201 u202 u203 u204 u205 u206 u207 u208 u209 u210 u211 u212 u213 u214 u215 u216 u217 u218 u219 u220 u221 u222 u223 u224 u225 u226 u227 u228 u229 u230 u231 u232 u233 u234 u235 u236 u237 u238 u239 u240 u241 u242 u243 u244 u245 u246 u247 u248 u249 u250 u251 u252 u253 u254 u255 u256 u257 u258 u259 u260 u261 u262 u263 u264 u265 u266 u267 u268 u269 u270 u271 u272 u273 u274 u275 u276 u277 u278 u279 u280 u281 u282 u283 u284 u285 u286 u287 u288 u289 u290 u291 u292 u293 u294 u295 u296 u297 u298 u299 u300 u301 u302 u303 u304 u305 u306 u307 u308 u309 u310 u311 u312 u313 u314 u315 u316 u317 u318 u319 u320 u321 u322 : Value)
    (HS : Hid (BX w W c x dg room B #[.int .i64 3, .int .i64 en, .int .i64 n, .bool a, .bool b, .slice pd d.length cd] K K))
    (HQ : Hid (Rk w (.slice pd d.length cd) d ∧ n ≤ 9223372036854775807 ∧ d.length ≤ 200))
    (HD : Hid (∀ (K' : Nat → En) (w' : World), PSx w w' c x dg room NoBlock K' K' → ∀ y14 y15 y16 y17 y18 y19 y20 y21 y22 y23 y24 y89 y90 y91 y92 y93 y94 y95 y96 y97 y98 y99 y100 y101 y102 y103 y104 y105 y106 y107 y108 y109 y110 y111 y112 y113 y114 y115 y116 y117 y118 y119 y120 y121 y122 y123 y124 y125 y126 y127 y128 y129 y130 y131 y132 y133 y134 y135 y136 y137 y138 y139 y140 y141 y142 y143 y144 y145 y146 y147 y148 y149 y150 y151 y152 y153 y154 y155 y156 y157 y158 y159 y160 y161 y162 y163 y164 y165 y166 y167 y168 y169 y170 y171 y172 y173 y174 y175 y176 y177 y178 y179 y180 y181 y182 y183 y184 y185 y186 y187 y188 y189 y190 y191 y192 y193 y194 y195 y196 y197 y198 y199 y200 y201 y202 y203 y204 y205 y206 y207 y208 y209 y210 y211 y212 y213 y214 y215 y216 y217 y218 y219 y220 y221 y222 y223 y224 y225 y226 y227 y228 y229 y230 y231 y232 y233 y234 y235 y236 y237 y238 y239 y240 y241 y242 y243 y244 y245 y246 y247 y248 y249 y250 y251 : Value, Q Exit.normal ⟨(.bool dg :: .int .i64 (room : Int) :: .slice p len cap :: u3 :: u4 :: u5 :: u6 :: .pointer (some ⟨c, 0, none⟩) :: .pointer (some ⟨x, 0, none⟩) :: u9 :: .pointer (some ⟨B, 0, none⟩) :: u11 :: .int .i64 (stI K en) :: .bool true :: y14 :: y15 :: y16 :: y17 :: y18 :: y19 :: y20 :: y21 :: y22 :: y23 :: y24 :: u25 :: u26 :: u27 :: u28 :: u29 :: u30 :: u31 :: u32 :: u33 :: u34 :: u35 :: u36 :: u37 :: u38 :: u39 :: u40 :: u41 :: u42 :: u43 :: u44 :: u45 :: u46 :: u47 :: u48 :: u49 :: u50 :: u51 :: u52 :: u53 :: u54 :: u55 :: u56 :: .slice p len cap :: .int .i64 (len : Int) :: .int .i64 (i : Int) :: u60 :: u61 :: u62 :: u63 :: u64 :: u65 :: u66 :: u67 :: u68 :: u69 :: u70 :: u71 :: u72 :: u73 :: u74 :: u75 :: u76 :: u77 :: u78 :: u79 :: u80 :: u81 :: u82 :: u83 :: u84 :: u85 :: u86 :: u87 :: .int .i64 3 :: y89 :: y90 :: y91 :: y92 :: y93 :: y94 :: y95 :: y96 :: y97 :: y98 :: y99 :: y100 :: y101 :: y102 :: y103 :: y104 :: y105 :: y106 :: y107 :: y108 :: y109 :: y110 :: y111 :: y112 :: y113 :: y114 :: y115 :: y116 :: y117 :: y118 :: y119 :: y120 :: y121 :: y122 :: y123 :: y124 :: y125 :: y126 :: y127 :: y128 :: y129 :: y130 :: y131 :: y132 :: y133 :: y134 :: y135 :: y136 :: y137 :: y138 :: y139 :: y140 :: y141 :: y142 :: y143 :: y144 :: y145 :: y146 :: y147 :: y148 :: y149 :: y150 :: y151 :: y152 :: y153 :: y154 :: y155 :: y156 :: y157 :: y158 :: y159 :: y160 :: y161 :: y162 :: y163 :: y164 :: y165 :: y166 :: y167 :: y168 :: y169 :: y170 :: y171 :: y172 :: y173 :: y174 :: y175 :: y176 :: y177 :: y178 :: y179 :: y180 :: y181 :: y182 :: y183 :: y184 :: y185 :: y186 :: y187 :: y188 :: y189 :: y190 :: y191 :: y192 :: y193 :: y194 :: y195 :: y196 :: y197 :: y198 :: y199 :: y200 :: y201 :: y202 :: y203 :: y204 :: y205 :: y206 :: y207 :: y208 :: y209 :: y210 :: y211 :: y212 :: y213 :: y214 :: y215 :: y216 :: y217 :: y218 :: y219 :: y220 :: y221 :: y222 :: y223 :: y224 :: y225 :: y226 :: y227 :: y228 :: y229 :: y230 :: y231 :: y232 :: y233 :: y234 :: y235 :: y236 :: y237 :: y238 :: y239 :: y240 :: y241 :: y242 :: y243 :: y244 :: y245 :: y246 :: y247 :: y248 :: y249 :: y250 :: y251 :: u252 :: u253 :: u254 :: u255 :: u256 :: u257 :: u258 :: u259 :: u260 :: u261 :: u262 :: u263 :: u264 :: u265 :: u266 :: u267 :: u268 :: u269 :: u270 :: u271 :: u272 :: u273 :: u274 :: u275 :: u276 :: u277 :: u278 :: u279 :: u280 :: u281 :: u282 :: u283 :: u284 :: u285 :: u286 :: u287 :: u288 :: u289 :: u290 :: u291 :: u292 :: u293 :: u294 :: u295 :: u296 :: u297 :: u298 :: u299 :: u300 :: u301 :: u302 :: u303 :: u304 :: u305 :: u306 :: u307 :: u308 :: u309 :: u310 :: u311 :: u312 :: u313 :: u314 :: u315 :: u316 :: u317 :: u318 :: u319 :: u320 :: u321 :: u322 :: [] : List Value).toArray, []⟩ w')) :
    Code.wp Try.prog (condP 89) Q ⟨(.bool dg :: .int .i64 (room : Int) :: .slice p len cap :: u3 :: u4 :: u5 :: u6 :: .pointer (some ⟨c, 0, none⟩) :: .pointer (some ⟨x, 0, none⟩) :: u9 :: .pointer (some ⟨B, 0, none⟩) :: u11 :: .int .i64 (stI K en) :: .bool true :: u14 :: u15 :: u16 :: u17 :: u18 :: u19 :: u20 :: u21 :: u22 :: u23 :: u24 :: u25 :: u26 :: u27 :: u28 :: u29 :: u30 :: u31 :: u32 :: u33 :: u34 :: u35 :: u36 :: u37 :: u38 :: u39 :: u40 :: u41 :: u42 :: u43 :: u44 :: u45 :: u46 :: u47 :: u48 :: u49 :: u50 :: u51 :: u52 :: u53 :: u54 :: u55 :: u56 :: .slice p len cap :: .int .i64 (len : Int) :: .int .i64 (i : Int) :: u60 :: u61 :: u62 :: u63 :: u64 :: u65 :: u66 :: u67 :: u68 :: u69 :: u70 :: u71 :: u72 :: u73 :: u74 :: u75 :: u76 :: u77 :: u78 :: u79 :: u80 :: u81 :: u82 :: u83 :: u84 :: u85 :: u86 :: u87 :: .int .i64 3 :: .bool ((3 : Int) == 1) :: u90 :: u91 :: u92 :: u93 :: u94 :: u95 :: u96 :: u97 :: u98 :: u99 :: u100 :: u101 :: u102 :: u103 :: u104 :: u105 :: u106 :: u107 :: u108 :: u109 :: u110 :: u111 :: u112 :: u113 :: u114 :: u115 :: u116 :: u117 :: u118 :: u119 :: u120 :: u121 :: u122 :: u123 :: u124 :: u125 :: u126 :: u127 :: u128 :: u129 :: u130 :: u131 :: u132 :: u133 :: u134 :: u135 :: u136 :: u137 :: u138 :: u139 :: u140 :: u141 :: u142 :: u143 :: u144 :: u145 :: u146 :: u147 :: u148 :: u149 :: u150 :: u151 :: u152 :: u153 :: u154 :: u155 :: u156 :: u157 :: u158 :: u159 :: u160 :: u161 :: u162 :: u163 :: u164 :: u165 :: u166 :: u167 :: u168 :: u169 :: u170 :: u171 :: u172 :: u173 :: u174 :: u175 :: u176 :: u177 :: u178 :: u179 :: u180 :: u181 :: u182 :: u183 :: u184 :: u185 :: u186 :: u187 :: u188 :: u189 :: u190 :: u191 :: u192 :: u193 :: u194 :: u195 :: u196 :: u197 :: u198 :: u199 :: u200 :: u201 :: u202 :: u203 :: u204 :: u205 :: u206 :: u207 :: u208 :: u209 :: u210 :: u211 :: u212 :: u213 :: u214 :: u215 :: u216 :: u217 :: u218 :: u219 :: u220 :: u221 :: u222 :: u223 :: u224 :: u225 :: u226 :: u227 :: u228 :: u229 :: u230 :: u231 :: u232 :: u233 :: u234 :: u235 :: u236 :: u237 :: u238 :: u239 :: u240 :: u241 :: u242 :: u243 :: u244 :: u245 :: u246 :: u247 :: u248 :: u249 :: u250 :: u251 :: u252 :: u253 :: u254 :: u255 :: u256 :: u257 :: u258 :: u259 :: u260 :: u261 :: u262 :: u263 :: u264 :: u265 :: u266 :: u267 :: u268 :: u269 :: u270 :: u271 :: u272 :: u273 :: u274 :: u275 :: u276 :: u277 :: u278 :: u279 :: u280 :: u281 :: u282 :: u283 :: u284 :: u285 :: u286 :: u287 :: u288 :: u289 :: u290 :: u291 :: u292 :: u293 :: u294 :: u295 :: u296 :: u297 :: u298 :: u299 :: u300 :: u301 :: u302 :: u303 :: u304 :: u305 :: u306 :: u307 :: u308 :: u309 :: u310 :: u311 :: u312 :: u313 :: u314 :: u315 :: u316 :: u317 :: u318 :: u319 :: u320 :: u321 :: u322 :: [] : List Value).toArray, []⟩ W := by
  conv => arg 2; whnf
  obtain ⟨x0, x1, x2, x3, x4, x5⟩ := HS.out.cells
  obtain ⟨C, M, D, U, Q0, hp⟩ := HS.out.ps
  have cC := p_shut hp en a b
  have HCL2 := Lib.hid (sh_same K en a b)
  have SA := st_any K en
  clear hp
  rcases SA with ⟨rfl, o1, s1⟩ | ⟨e0, o1, s1⟩ | ⟨rfl, o1, s1⟩ | ⟨e0, o1, s1⟩ | ⟨e0, e1, s1⟩
  · rw [s1] at cC HD ⊢
    have O1 := Lib.hid o1
    have CC := Lib.hid cC
    clear o1 s1 cC
    go_upto_region 42 with (go_at_call 30; (with_reducible refine CC.out.mono ?_); rintro e w3 ⟨rfl, k3, kp3⟩; have K3 := Lib.hid k3; have B3 := Lib.hid (kp3.heap HS.out.2 rfl); clear k3 kp3)
    clear x0 x1 x2 x3 x4 x5
    obtain ⟨-, z1, -, zA, zB, -⟩ := box_cells B3.out
    have y := K3.out.r.cm 0 (by omega)
    have f := K3.out.r.f (4 + 0)
    simp only [Nat.reduceAdd] at y f
    obtain ⟨m, hm⟩ : ∃ m, M 0 = m := ⟨_, rfl⟩
    rw [hm] at y
    have HM := Lib.hid hm
    obtain ⟨m2, hm2⟩ : ∃ m2, D 0 = m2 := ⟨_, rfl⟩
    have HM2 := Lib.hid hm2
    have hne : B ≠ x := fun e => K3.out.ap B rfl (.inl e)
    have ZB := Lib.hid zB
    clear hm hm2 zB
    cases m
    · have HS42 := Lib.hid (fun W (t : Turn (fun k => k = x) w3 W) => show W.cell? ⟨B, 1, none⟩ = some (.int .i64 0) ∧ W.cell? ⟨B, 3, none⟩ = some (.bool a) from ⟨t.cell z1 hne, t.cell zA hne⟩)
      have T0 : Turn (fun k => k = x) w3 w3.drew := (Turn.refl _ w3).drew
      have T1 := T0.setCell (p := ⟨x, 4, none⟩) (.inl rfl) (.bool a)
      have y' : w3.drew.cell? ⟨x, 4, none⟩ = some (.bool false) := y
      have f' : w3.drew.frozen? ⟨x, 4, none⟩ = false := f
      refine wp_region_noPanic ?_
      refine wp_region_held_drew (S := fun W => W.cell? ⟨B, 1, none⟩ = some (.int .i64 0) ∧ W.cell? ⟨B, 3, none⟩ = some (.bool a)) (by kernel_rfl) (HS42.out _ (by assumption)) (fun hHeld => ?_)
      refine wpAnyH_take (i := 0) (oi := ?oi0_42x1) (v := ?v0_42x1) ?hi0_42x1 (by kernel_rfl) (by kernel_rfl) (by kernel_rfl) ?hq0_42x1 (Or.inl ⟨?hw0_42x1, ?hy0_42x1⟩) (by assumption) ?rest0_42x1
      case hi0_42x1 => simp only [List.getElem?_toArray, List.getElem?_cons_zero]; rfl
      case hq0_42x1 => exact fun _ _ _ h => h
      case hw0_42x1 => rfl
      case hy0_42x1 => (intro w hSw; (try dsimp only at hSw); obtain ⟨hs0, hs1⟩ := hSw; go_simp; (try (with_reducible rfl)))
      (try simp only [Act.put, List.setIfInBounds_toArray, List.set_cons_zero, List.set_cons_succ])
      refine wpAnyH_take (i := 1) (oi := ?oi1_42x1) (v := ?v1_42x1) ?hi1_42x1 (by kernel_rfl) (by kernel_rfl) (by kernel_rfl) ?hq1_42x1 (Or.inl ⟨?hw1_42x1, ?hy1_42x1⟩) (by assumption) ?rest1_42x1
      case hi1_42x1 => simp only [List.getElem?_toArray, List.getElem?_cons_succ, List.getElem?_cons_zero]; rfl
      case hq1_42x1 => exact fun _ _ _ h => h
      case hw1_42x1 => rfl
      case hy1_42x1 => (intro w hSw; (try dsimp only at hSw); obtain ⟨hs0, hs1⟩ := hSw; go_simp; (try (with_reducible rfl)))
      (try simp only [Act.put, List.setIfInBounds_toArray, List.set_cons_zero, List.set_cons_succ])
      refine wpAnyH_take (i := 2) (oi := ?oi2_42x1) (v := ?v2_42x1) ?hi2_42x1 (by kernel_rfl) (by kernel_rfl) (by kernel_rfl) ?hq2_42x1 (Or.inl ⟨?hw2_42x1, ?hy2_42x1⟩) (by assumption) ?rest2_42x1
      case hi2_42x1 => simp only [List.getElem?_toArray, List.getElem?_cons_succ, List.getElem?_cons_zero]; rfl
      case hq2_42x1 => exact fun _ _ _ h => h
      case hw2_42x1 => rfl
      case hy2_42x1 => (intro w hSw; (try dsimp only at hSw); obtain ⟨hs0, hs1⟩ := hSw; go_simp; (try (with_reducible rfl)))
      (try simp only [Act.put, List.setIfInBounds_toArray, List.set_cons_zero, List.set_cons_succ])
      refine wpAnyH_take (i := 3) (oi := ?oi3_42x1) (v := ?v3_42x1) ?hi3_42x1 (by kernel_rfl) (by kernel_rfl) (by kernel_rfl) ?hq3_42x1 (Or.inl ⟨?hw3_42x1, ?hy3_42x1⟩) (by assumption) ?rest3_42x1
      case hi3_42x1 => simp only [List.getElem?_toArray, List.getElem?_cons_succ, List.getElem?_cons_zero]; rfl
      case hq3_42x1 => exact fun _ _ _ h => h
      case hw3_42x1 => rfl
      case hy3_42x1 => (intro w hSw; (try dsimp only at hSw); obtain ⟨hs0, hs1⟩ := hSw; go_simp; (try (with_reducible rfl)))
      (try simp only [Act.put, List.setIfInBounds_toArray, List.set_cons_zero, List.set_cons_succ])
      refine wpAnyH_take (i := 4) (oi := ?oi4_42x1) (v := ?v4_42x1) ?hi4_42x1 (by kernel_rfl) (by kernel_rfl) (by kernel_rfl) ?hq4_42x1 (Or.inl ⟨?hw4_42x1, ?hy4_42x1⟩) (by assumption) ?rest4_42x1
      case hi4_42x1 => simp only [List.getElem?_toArray, List.getElem?_cons_succ, List.getElem?_cons_zero]; rfl
      case hq4_42x1 => exact fun _ _ _ h => h
      case hw4_42x1 => rfl
      case hy4_42x1 => (intro w hSw; (try dsimp only at hSw); obtain ⟨hs0, hs1⟩ := hSw; go_simp; (try (with_reducible rfl)))
      (try simp only [Act.put, List.setIfInBounds_toArray, List.set_cons_zero, List.set_cons_succ])
      refine wpAnyH_take (i := 5) (oi := ?oi5_42x1) (v := ?v5_42x1) ?hi5_42x1 (by kernel_rfl) (by kernel_rfl) (by kernel_rfl) ?hq5_42x1 (Or.inl ⟨?hw5_42x1, ?hy5_42x1⟩) (by assumption) ?rest5_42x1
      case hi5_42x1 => simp only [List.getElem?_toArray, List.getElem?_cons_succ, List.getElem?_cons_zero]; rfl
      case hq5_42x1 => exact fun _ _ _ h => h
      case hw5_42x1 => rfl
      case hy5_42x1 => (intro w hSw; (try dsimp only at hSw); obtain ⟨hs0, hs1⟩ := hSw; go_simp; (try (with_reducible rfl)))
      (try simp only [Act.put, List.setIfInBounds_toArray, List.set_cons_zero, List.set_cons_succ])
      refine wpAnyH_take (i := 6) (oi := ?oi6_42x1) (v := ?v6_42x1) ?hi6_42x1 (by kernel_rfl) (by kernel_rfl) (by kernel_rfl) ?hq6_42x1 (Or.inl ⟨?hw6_42x1, ?hy6_42x1⟩) (by assumption) ?rest6_42x1
      case hi6_42x1 => simp only [List.getElem?_toArray, List.getElem?_cons_succ, List.getElem?_cons_zero]; rfl
      case hq6_42x1 => exact fun _ _ _ h => h
      case hw6_42x1 => rfl
      case hy6_42x1 => (intro w hSw; (try dsimp only at hSw); obtain ⟨hs0, hs1⟩ := hSw; go_simp; (try (with_reducible rfl)))
      (try simp only [Act.put, List.setIfInBounds_toArray, List.set_cons_zero, List.set_cons_succ])
      refine wpAnyH_take (i := 7) (oi := ?oi7_42x1) (v := ?v7_42x1) ?hi7_42x1 (by kernel_rfl) (by kernel_rfl) (by kernel_rfl) ?hq7_42x1 (Or.inl ⟨?hw7_42x1, ?hy7_42x1⟩) (by assumption) ?rest7_42x1
      case hi7_42x1 => simp only [List.getElem?_toArray, List.getElem?_cons_succ, List.getElem?_cons_zero]; rfl
      case hq7_42x1 => exact fun _ _ _ h => h
      case hw7_42x1 => rfl
      case hy7_42x1 => (intro w hSw; (try dsimp only at hSw); obtain ⟨hs0, hs1⟩ := hSw; go_simp; (try (with_reducible rfl)))
      (try simp only [Act.put, List.setIfInBounds_toArray, List.set_cons_zero, List.set_cons_succ])
      refine wpAnyH_take (i := 8) (oi := ?oi8_42x1) (v := ?v8_42x1) ?hi8_42x1 (by kernel_rfl) (by kernel_rfl) (by kernel_rfl) ?hq8_42x1 (Or.inl ⟨?hw8_42x1, ?hy8_42x1⟩) (by assumption) ?rest8_42x1
      case hi8_42x1 => simp only [List.getElem?_toArray, List.getElem?_cons_succ, List.getElem?_cons_zero]; rfl
      case hq8_42x1 => exact fun _ _ _ h => h
      case hw8_42x1 => rfl
      case hy8_42x1 => (intro w hSw; (try dsimp only at hSw); obtain ⟨hs0, hs1⟩ := hSw; go_simp; (try (with_reducible rfl)))
      (try simp only [Act.put, List.setIfInBounds_toArray, List.set_cons_zero, List.set_cons_succ])
      refine wpAnyH_take (i := 14) (oi := ?oi14_42x1) (v := ?v14_42x1) ?hi14_42x1 (by kernel_rfl) (by kernel_rfl) (by kernel_rfl) ?hq14_42x1 (Or.inl ⟨?hw14_42x1, ?hy14_42x1⟩) (by assumption) ?rest14_42x1
      case hi14_42x1 => simp only [List.getElem?_toArray, List.getElem?_cons_succ, List.getElem?_cons_zero]; rfl
      case hq14_42x1 => exact fun _ _ _ h => h
      case hw14_42x1 => rfl
      case hy14_42x1 => (intro w hSw; (try dsimp only at hSw); obtain ⟨hs0, hs1⟩ := hSw; go_simp; (try (with_reducible rfl)))
      (try simp only [Act.put, List.setIfInBounds_toArray, List.set_cons_zero, List.set_cons_succ])
      refine wpAnyH_take (i := 15) (oi := ?oi15_42x1) (v := ?v15_42x1) ?hi15_42x1 (by kernel_rfl) (by kernel_rfl) (by kernel_rfl) ?hq15_42x1 (Or.inl ⟨?hw15_42x1, ?hy15_42x1⟩) (by assumption) ?rest15_42x1
      case hi15_42x1 => simp only [List.getElem?_toArray, List.getElem?_cons_succ, List.getElem?_cons_zero]; rfl
      case hq15_42x1 => exact fun _ _ _ h => h
      case hw15_42x1 => rfl
      case hy15_42x1 => (intro w hSw; (try dsimp only at hSw); obtain ⟨hs0, hs1⟩ := hSw; go_simp; (try (with_reducible rfl)))
      (try simp only [Act.put, List.setIfInBounds_toArray, List.set_cons_zero, List.set_cons_succ])
      refine wpAnyH_ready (rs := [9]) (by kernel_rfl) (by simp) ?_
      refine AllReadyH.cons rfl (fun K' hK' => ?_) AllReadyH.nil
      go_simp
      refine hK'.out _ _ (HS42.out _ (by assumption)) (fun hHeld => ?_)
      clear hK' K'
      (try simp only [Act.put, List.setIfInBounds_toArray, List.set_cons_zero, List.set_cons_succ])
      refine wpAnyH_take (i := 10) (oi := ?oi10_42x1) (v := ?v10_42x1) ?hi10_42x1 (by kernel_rfl) (by kernel_rfl) (by kernel_rfl) ?hq10_42x1 (Or.inl ⟨?hw10_42x1, ?hy10_42x1⟩) (by assumption) ?rest10_42x1
      case hi10_42x1 => simp only [List.getElem?_toArray, List.getElem?_cons_succ, List.getElem?_cons_zero]; rfl
      case hq10_42x1 => exact fun _ _ _ h => h
      case hw10_42x1 => rfl
      case hy10_42x1 => (intro w hSw; (try dsimp only at hSw); obtain ⟨hs0, hs1⟩ := hSw; go_simp; (try (with_reducible rfl)))
      (try simp only [Act.put, List.setIfInBounds_toArray, List.set_cons_zero, List.set_cons_succ])
      refine wpAnyH_take (i := 11) (oi := ?oi11_42x1) (v := ?v11_42x1) ?hi11_42x1 (by kernel_rfl) (by kernel_rfl) (by kernel_rfl) ?hq11_42x1 (Or.inl ⟨?hw11_42x1, ?hy11_42x1⟩) (by assumption) ?rest11_42x1
      case hi11_42x1 => simp only [List.getElem?_toArray, List.getElem?_cons_succ, List.getElem?_cons_zero]; rfl
      case hq11_42x1 => exact fun _ _ _ h => h
      case hw11_42x1 => rfl
      case hy11_42x1 => (intro w hSw; (try dsimp only at hSw); obtain ⟨hs0, hs1⟩ := hSw; go_simp; (try (with_reducible rfl)))
      (try simp only [Act.put, List.setIfInBounds_toArray, List.set_cons_zero, List.set_cons_succ])
      refine wpAnyH_take (i := 12) (oi := ?oi12_42x1) (v := ?v12_42x1) ?hi12_42x1 (by kernel_rfl) (by kernel_rfl) (by kernel_rfl) ?hq12_42x1 (Or.inl ⟨?hw12_42x1, ?hy12_42x1⟩) (by assumption) ?rest12_42x1
      case hi12_42x1 => simp only [List.getElem?_toArray, List.getElem?_cons_succ, List.getElem?_cons_zero]; rfl
      case hq12_42x1 => exact fun _ _ _ h => h
      case hw12_42x1 => rfl
      case hy12_42x1 => (intro w hSw; (try dsimp only at hSw); obtain ⟨hs0, hs1⟩ := hSw; go_simp; (try (with_reducible rfl)))
      (try simp only [Act.put, List.setIfInBounds_toArray, List.set_cons_zero, List.set_cons_succ])
      refine wpAnyH_take (i := 13) (oi := ?oi13_42x1) (v := ?v13_42x1) ?hi13_42x1 (by kernel_rfl) (by kernel_rfl) (by kernel_rfl) ?hq13_42x1 (Or.inl ⟨?hw13_42x1, ?hy13_42x1⟩) (by assumption) ?rest13_42x1
      case hi13_42x1 => simp only [List.getElem?_toArray, List.getElem?_cons_succ, List.getElem?_cons_zero]; rfl
      case hq13_42x1 => exact fun _ _ _ h => h
      case hw13_42x1 => rfl
      case hy13_42x1 => (intro w hSw; (try dsimp only at hSw); obtain ⟨hs0, hs1⟩ := hSw; go_simp; (try (with_reducible rfl)))
      (try simp only [Act.put, List.setIfInBounds_toArray, List.set_cons_zero, List.set_cons_succ])
      refine wpAnyH_take (i := 16) (oi := ?oi16_42x1) (v := ?v16_42x1) ?hi16_42x1 (by kernel_rfl) (by kernel_rfl) (by kernel_rfl) ?hq16_42x1 (Or.inl ⟨?hw16_42x1, ?hy16_42x1⟩) (by assumption) ?rest16_42x1
      case hi16_42x1 => simp only [List.getElem?_toArray, List.getElem?_cons_succ, List.getElem?_cons_zero]; rfl
      case hq16_42x1 => exact fun _ _ _ h => h
      case hw16_42x1 => rfl
      case hy16_42x1 => (intro w hSw; (try dsimp only at hSw); obtain ⟨hs0, hs1⟩ := hSw; go_simp; (try (with_reducible rfl)))
      (try simp only [Act.put, List.setIfInBounds_toArray, List.set_cons_zero, List.set_cons_succ])
      refine wpAnyH_ready (rs := [17]) (by kernel_rfl) (by simp) ?_
      refine AllReadyH.cons rfl (fun K' hK' => ?_) AllReadyH.nil
      go_simp
      refine hK'.out _ _ (HS42.out _ (by assumption)) (fun hHeld => ?_)
      clear hK' K'
      (try simp only [Act.put, List.setIfInBounds_toArray, List.set_cons_zero, List.set_cons_succ])
      refine wpAnyH_done (by kernel_rfl) (NoPanic.normal ?_) _
      clear T0 T1 y' f' hHeld
      have TA := Lib.hid (show Turn NoBlock w3 w3 ∧ Turn NoBlock (w3.setCell ⟨x, 4 + 0, none⟩ (.bool a)) ((w3.setCell ⟨x, 4, none⟩ (.bool a)).drew) from ⟨(Turn.refl _ _), ((Turn.refl _ _).drew)⟩)
      have TX := Lib.hid (show Turn (fun k => k = x) w3 ((w3.setCell ⟨x, 4, none⟩ (.bool a)).drew) from turn_one rfl TA.out.1 TA.out.2)
      have RA := Lib.hid (((K3.out.r.past TA.out.1).setM (e := 0) (by omega) a).past TA.out.2)
      generalize (w3.setCell ⟨x, 4, none⟩ (.bool a)).drew = wA at *
      have z1' := TX.out.cell z1 hne
      have zB' := TX.out.cell ZB.out hne
      have y2 := RA.out.cd 0 (by omega)
      have f2 := RA.out.f (6 + 0)
      clear z1 zA y f
      try clear HS42
      have z1 := z1'
      have zA := zB'
      have y := y2
      have f := f2
      clear z1' zB' y2 f2
      rw [HM2.out] at y
      simp only [Nat.reduceAdd] at y f
      go_wp2
      cases m2
      · have HS43 := Lib.hid (fun W (t : Turn (fun k => k = x) wA W) => show W.cell? ⟨B, 1, none⟩ = some (.int .i64 0) ∧ W.cell? ⟨B, 4, none⟩ = some (.bool b) from ⟨t.cell z1 hne, t.cell zA hne⟩)
        have T0 : Turn (fun k => k = x) wA wA.drew := (Turn.refl _ wA).drew
        have T1 := T0.setCell (p := ⟨x, 6, none⟩) (.inl rfl) (.bool b)
        have y' : wA.drew.cell? ⟨x, 6, none⟩ = some (.bool false) := y
        have f' : wA.drew.frozen? ⟨x, 6, none⟩ = false := f
        refine wp_region_noPanic ?_
        refine wp_region_held_drew (S := fun W => W.cell? ⟨B, 1, none⟩ = some (.int .i64 0) ∧ W.cell? ⟨B, 4, none⟩ = some (.bool b)) (by kernel_rfl) (HS43.out _ (by assumption)) (fun hHeld => ?_)
        refine wpAnyH_take (i := 0) (oi := ?oi0_43x2) (v := ?v0_43x2) ?hi0_43x2 (by kernel_rfl) (by kernel_rfl) (by kernel_rfl) ?hq0_43x2 (Or.inl ⟨?hw0_43x2, ?hy0_43x2⟩) (by assumption) ?rest0_43x2
        case hi0_43x2 => simp only [List.getElem?_toArray, List.getElem?_cons_zero]; rfl
        case hq0_43x2 => exact fun _ _ _ h => h
        case hw0_43x2 => rfl
        case hy0_43x2 => (intro w hSw; (try dsimp only at hSw); obtain ⟨hs0, hs1⟩ := hSw; go_simp; (try (with_reducible rfl)))
        (try simp only [Act.put, List.setIfInBounds_toArray, List.set_cons_zero, List.set_cons_succ])
        refine wpAnyH_take (i := 1) (oi := ?oi1_43x2) (v := ?v1_43x2) ?hi1_43x2 (by kernel_rfl) (by kernel_rfl) (by kernel_rfl) ?hq1_43x2 (Or.inl ⟨?hw1_43x2, ?hy1_43x2⟩) (by assumption) ?rest1_43x2
        case hi1_43x2 => simp only [List.getElem?_toArray, List.getElem?_cons_succ, List.getElem?_cons_zero]; rfl
        case hq1_43x2 => exact fun _ _ _ h => h
        case hw1_43x2 => rfl
        case hy1_43x2 => (intro w hSw; (try dsimp only at hSw); obtain ⟨hs0, hs1⟩ := hSw; go_simp; (try (with_reducible rfl)))
        (try simp only [Act.put, List.setIfInBounds_toArray, List.set_cons_zero, List.set_cons_succ])
        refine wpAnyH_take (i := 2) (oi := ?oi2_43x2) (v := ?v2_43x2) ?hi2_43x2 (by kernel_rfl) (by kernel_rfl) (by kernel_rfl) ?hq2_43x2 (Or.inl ⟨?hw2_43x2, ?hy2_43x2⟩) (by assumption) ?rest2_43x2
        case hi2_43x2 => simp only [List.getElem?_toArray, List.getElem?_cons_succ, List.getElem?_cons_zero]; rfl
        case hq2_43x2 => exact fun _ _ _ h => h
        case hw2_43x2 => rfl
        case hy2_43x2 => (intro w hSw; (try dsimp only at hSw); obtain ⟨hs0, hs1⟩ := hSw; go_simp; (try (with_reducible rfl)))
        (try simp only [Act.put, List.setIfInBounds_toArray, List.set_cons_zero, List.set_cons_succ])
        refine wpAnyH_take (i := 3) (oi := ?oi3_43x2) (v := ?v3_43x2) ?hi3_43x2 (by kernel_rfl) (by kernel_rfl) (by kernel_rfl) ?hq3_43x2 (Or.inl ⟨?hw3_43x2, ?hy3_43x2⟩) (by assumption) ?rest3_43x2
        case hi3_43x2 => simp only [List.getElem?_toArray, List.getElem?_cons_succ, List.getElem?_cons_zero]; rfl
        case hq3_43x2 => exact fun _ _ _ h => h
        case hw3_43x2 => rfl
        case hy3_43x2 => (intro w hSw; (try dsimp only at hSw); obtain ⟨hs0, hs1⟩ := hSw; go_simp; (try (with_reducible rfl)))
        (try simp only [Act.put, List.setIfInBounds_toArray, List.set_cons_zero, List.set_cons_succ])
        refine wpAnyH_take (i := 4) (oi := ?oi4_43x2) (v := ?v4_43x2) ?hi4_43x2 (by kernel_rfl) (by kernel_rfl) (by kernel_rfl) ?hq4_43x2 (Or.inl ⟨?hw4_43x2, ?hy4_43x2⟩) (by assumption) ?rest4_43x2
        case hi4_43x2 => simp only [List.getElem?_toArray, List.getElem?_cons_succ, List.getElem?_cons_zero]; rfl
        case hq4_43x2 => exact fun _ _ _ h => h
        case hw4_43x2 => rfl
        case hy4_43x2 => (intro w hSw; (try dsimp only at hSw); obtain ⟨hs0, hs1⟩ := hSw; go_simp; (try (with_reducible rfl)))
        (try simp only [Act.put, List.setIfInBounds_toArray, List.set_cons_zero, List.set_cons_succ])
        refine wpAnyH_take (i := 5) (oi := ?oi5_43x2) (v := ?v5_43x2) ?hi5_43x2 (by kernel_rfl) (by kernel_rfl) (by kernel_rfl) ?hq5_43x2 (Or.inl ⟨?hw5_43x2, ?hy5_43x2⟩) (by assumption) ?rest5_43x2
        case hi5_43x2 => simp only [List.getElem?_toArray, List.getElem?_cons_succ, List.getElem?_cons_zero]; rfl
        case hq5_43x2 => exact fun _ _ _ h => h
        case hw5_43x2 => rfl
        case hy5_43x2 => (intro w hSw; (try dsimp only at hSw); obtain ⟨hs0, hs1⟩ := hSw; go_simp; (try (with_reducible rfl)))
        (try simp only [Act.put, List.setIfInBounds_toArray, List.set_cons_zero, List.set_cons_succ])
        refine wpAnyH_take (i := 6) (oi := ?oi6_43x2) (v := ?v6_43x2) ?hi6_43x2 (by kernel_rfl) (by kernel_rfl) (by kernel_rfl) ?hq6_43x2 (Or.inl ⟨?hw6_43x2, ?hy6_43x2⟩) (by assumption) ?rest6_43x2
        case hi6_43x2 => simp only [List.getElem?_toArray, List.getElem?_cons_succ, List.getElem?_cons_zero]; rfl
        case hq6_43x2 => exact fun _ _ _ h => h
        case hw6_43x2 => rfl
        case hy6_43x2 => (intro w hSw; (try dsimp only at hSw); obtain ⟨hs0, hs1⟩ := hSw; go_simp; (try (with_reducible rfl)))
        (try simp only [Act.put, List.setIfInBounds_toArray, List.set_cons_zero, List.set_cons_succ])
        refine wpAnyH_take (i := 7) (oi := ?oi7_43x2) (v := ?v7_43x2) ?hi7_43x2 (by kernel_rfl) (by kernel_rfl) (by kernel_rfl) ?hq7_43x2 (Or.inl ⟨?hw7_43x2, ?hy7_43x2⟩) (by assumption) ?rest7_43x2
        case hi7_43x2 => simp only [List.getElem?_toArray, List.getElem?_cons_succ, List.getElem?_cons_zero]; rfl
        case hq7_43x2 => exact fun _ _ _ h => h
        case hw7_43x2 => rfl
        case hy7_43x2 => (intro w hSw; (try dsimp only at hSw); obtain ⟨hs0, hs1⟩ := hSw; go_simp; (try (with_reducible rfl)))
        (try simp only [Act.put, List.setIfInBounds_toArray, List.set_cons_zero, List.set_cons_succ])
        refine wpAnyH_take (i := 8) (oi := ?oi8_43x2) (v := ?v8_43x2) ?hi8_43x2 (by kernel_rfl) (by kernel_rfl) (by kernel_rfl) ?hq8_43x2 (Or.inl ⟨?hw8_43x2, ?hy8_43x2⟩) (by assumption) ?rest8_43x2
        case hi8_43x2 => simp only [List.getElem?_toArray, List.getElem?_cons_succ, List.getElem?_cons_zero]; rfl
        case hq8_43x2 => exact fun _ _ _ h => h
        case hw8_43x2 => rfl
        case hy8_43x2 => (intro w hSw; (try dsimp only at hSw); obtain ⟨hs0, hs1⟩ := hSw; go_simp; (try (with_reducible rfl)))
        (try simp only [Act.put, List.setIfInBounds_toArray, List.set_cons_zero, List.set_cons_succ])
        refine wpAnyH_take (i := 14) (oi := ?oi14_43x2) (v := ?v14_43x2) ?hi14_43x2 (by kernel_rfl) (by kernel_rfl) (by kernel_rfl) ?hq14_43x2 (Or.inl ⟨?hw14_43x2, ?hy14_43x2⟩) (by assumption) ?rest14_43x2
        case hi14_43x2 => simp only [List.getElem?_toArray, List.getElem?_cons_succ, List.getElem?_cons_zero]; rfl
        case hq14_43x2 => exact fun _ _ _ h => h
        case hw14_43x2 => rfl
        case hy14_43x2 => (intro w hSw; (try dsimp only at hSw); obtain ⟨hs0, hs1⟩ := hSw; go_simp; (try (with_reducible rfl)))
        (try simp only [Act.put, List.setIfInBounds_toArray, List.set_cons_zero, List.set_cons_succ])
        refine wpAnyH_take (i := 15) (oi := ?oi15_43x2) (v := ?v15_43x2) ?hi15_43x2 (by kernel_rfl) (by kernel_rfl) (by kernel_rfl) ?hq15_43x2 (Or.inl ⟨?hw15_43x2, ?hy15_43x2⟩) (by assumption) ?rest15_43x2
        case hi15_43x2 => simp only [List.getElem?_toArray, List.getElem?_cons_succ, List.getElem?_cons_zero]; rfl
        case hq15_43x2 => exact fun _ _ _ h => h
        case hw15_43x2 => rfl
        case hy15_43x2 => (intro w hSw; (try dsimp only at hSw); obtain ⟨hs0, hs1⟩ := hSw; go_simp; (try (with_reducible rfl)))
        (try simp only [Act.put, List.setIfInBounds_toArray, List.set_cons_zero, List.set_cons_succ])
        refine wpAnyH_ready (rs := [9]) (by kernel_rfl) (by simp) ?_
        refine AllReadyH.cons rfl (fun K' hK' => ?_) AllReadyH.nil
        go_simp
        refine hK'.out _ _ (HS43.out _ (by assumption)) (fun hHeld => ?_)
        clear hK' K'
        (try simp only [Act.put, List.setIfInBounds_toArray, List.set_cons_zero, List.set_cons_succ])
        refine wpAnyH_take (i := 10) (oi := ?oi10_43x2) (v := ?v10_43x2) ?hi10_43x2 (by kernel_rfl) (by kernel_rfl) (by kernel_rfl) ?hq10_43x2 (Or.inl ⟨?hw10_43x2, ?hy10_43x2⟩) (by assumption) ?rest10_43x2
        case hi10_43x2 => simp only [List.getElem?_toArray, List.getElem?_cons_succ, List.getElem?_cons_zero]; rfl
        case hq10_43x2 => exact fun _ _ _ h => h
        case hw10_43x2 => rfl
        case hy10_43x2 => (intro w hSw; (try dsimp only at hSw); obtain ⟨hs0, hs1⟩ := hSw; go_simp; (try (with_reducible rfl)))
        (try simp only [Act.put, List.setIfInBounds_toArray, List.set_cons_zero, List.set_cons_succ])
        refine wpAnyH_take (i := 11) (oi := ?oi11_43x2) (v := ?v11_43x2) ?hi11_43x2 (by kernel_rfl) (by kernel_rfl) (by kernel_rfl) ?hq11_43x2 (Or.inl ⟨?hw11_43x2, ?hy11_43x2⟩) (by assumption) ?rest11_43x2
        case hi11_43x2 => simp only [List.getElem?_toArray, List.getElem?_cons_succ, List.getElem?_cons_zero]; rfl
        case hq11_43x2 => exact fun _ _ _ h => h
        case hw11_43x2 => rfl
        case hy11_43x2 => (intro w hSw; (try dsimp only at hSw); obtain ⟨hs0, hs1⟩ := hSw; go_simp; (try (with_reducible rfl)))
        (try simp only [Act.put, List.setIfInBounds_toArray, List.set_cons_zero, List.set_cons_succ])
        refine wpAnyH_take (i := 12) (oi := ?oi12_43x2) (v := ?v12_43x2) ?hi12_43x2 (by kernel_rfl) (by kernel_rfl) (by kernel_rfl) ?hq12_43x2 (Or.inl ⟨?hw12_43x2, ?hy12_43x2⟩) (by assumption) ?rest12_43x2
        case hi12_43x2 => simp only [List.getElem?_toArray, List.getElem?_cons_succ, List.getElem?_cons_zero]; rfl
        case hq12_43x2 => exact fun _ _ _ h => h
        case hw12_43x2 => rfl
        case hy12_43x2 => (intro w hSw; (try dsimp only at hSw); obtain ⟨hs0, hs1⟩ := hSw; go_simp; (try (with_reducible rfl)))
        (try simp only [Act.put, List.setIfInBounds_toArray, List.set_cons_zero, List.set_cons_succ])
        refine wpAnyH_take (i := 13) (oi := ?oi13_43x2) (v := ?v13_43x2) ?hi13_43x2 (by kernel_rfl) (by kernel_rfl) (by kernel_rfl) ?hq13_43x2 (Or.inl ⟨?hw13_43x2, ?hy13_43x2⟩) (by assumption) ?rest13_43x2
        case hi13_43x2 => simp only [List.getElem?_toArray, List.getElem?_cons_succ, List.getElem?_cons_zero]; rfl
        case hq13_43x2 => exact fun _ _ _ h => h
        case hw13_43x2 => rfl
        case hy13_43x2 => (intro w hSw; (try dsimp only at hSw); obtain ⟨hs0, hs1⟩ := hSw; go_simp; (try (with_reducible rfl)))
        (try simp only [Act.put, List.setIfInBounds_toArray, List.set_cons_zero, List.set_cons_succ])
        refine wpAnyH_take (i := 16) (oi := ?oi16_43x2) (v := ?v16_43x2) ?hi16_43x2 (by kernel_rfl) (by kernel_rfl) (by kernel_rfl) ?hq16_43x2 (Or.inl ⟨?hw16_43x2, ?hy16_43x2⟩) (by assumption) ?rest16_43x2
        case hi16_43x2 => simp only [List.getElem?_toArray, List.getElem?_cons_succ, List.getElem?_cons_zero]; rfl
        case hq16_43x2 => exact fun _ _ _ h => h
        case hw16_43x2 => rfl
        case hy16_43x2 => (intro w hSw; (try dsimp only at hSw); obtain ⟨hs0, hs1⟩ := hSw; go_simp; (try (with_reducible rfl)))
        (try simp only [Act.put, List.setIfInBounds_toArray, List.set_cons_zero, List.set_cons_succ])
        refine wpAnyH_ready (rs := [17]) (by kernel_rfl) (by simp) ?_
        refine AllReadyH.cons rfl (fun K' hK' => ?_) AllReadyH.nil
        go_simp
        refine hK'.out _ _ (HS43.out _ (by assumption)) (fun hHeld => ?_)
        clear hK' K'
        (try simp only [Act.put, List.setIfInBounds_toArray, List.set_cons_zero, List.set_cons_succ])
        refine wpAnyH_done (by kernel_rfl) (NoPanic.normal ?_) _
        clear T0 T1 y' f' hHeld
        go_wp2
        exact HD.out _ _ (fin_shut0 K3.out O1.out a b (by rw [HM.out]; rfl) (by rw [HM2.out]; rfl) TA.out.1 TA.out.2 ((Turn.refl _ _).drew)) _ _ _ _ _ _ _ _ _ _ _ _ _ _ _ _ _ _ _ _ _ _ _ _ _ _ _ _ _ _ _ _ _ _ _ _ _ _ _ _ _ _ _ _ _ _ _ _ _ _ _ _ _ _ _ _ _ _ _ _ _ _ _ _ _ _ _ _ _ _ _ _ _ _ _ _ _ _ _ _ _ _ _ _ _ _ _ _ _ _ _ _ _ _ _ _ _ _ _ _ _ _ _ _ _ _ _ _ _ _ _ _ _ _ _ _ _ _ _ _ _ _ _ _ _ _ _ _ _ _ _ _ _ _ _ _ _ _ _ _ _ _ _ _ _ _ _ _ _ _ _ _ _ _ _ _ _ _ _ _ _ _ _ _ _ _ _ _ _ _ _ _ _ _
      · have HS43 := Lib.hid (fun W (t : Turn (fun k => k = x) wA W) => show W.cell? ⟨B, 1, none⟩ = some (.int .i64 0) ∧ W.cell? ⟨B, 4, none⟩ = some (.bool b) from ⟨t.cell z1 hne, t.cell zA hne⟩)
        have T0 : Turn (fun k => k = x) wA wA.drew := (Turn.refl _ wA).drew
        have T1 := T0.setCell (p := ⟨x, 6, none⟩) (.inl rfl) (.bool true)
        have y' : wA.drew.cell? ⟨x, 6, none⟩ = some (.bool true) := y
        have f' : wA.drew.frozen? ⟨x, 6, none⟩ = false := f
        refine wp_region_noPanic ?_
        refine wp_region_held_drew (S := fun W => W.cell? ⟨B, 1, none⟩ = some (.int .i64 0) ∧ W.cell? ⟨B, 4, none⟩ = some (.bool b)) (by kernel_rfl) (HS43.out _ (by assumption)) (fun hHeld => ?_)
        refine wpAnyH_take (i := 0) (oi := ?oi0_43x3) (v := ?v0_43x3) ?hi0_43x3 (by kernel_rfl) (by kernel_rfl) (by kernel_rfl) ?hq0_43x3 (Or.inl ⟨?hw0_43x3, ?hy0_43x3⟩) (by assumption) ?rest0_43x3
        case hi0_43x3 => simp only [List.getElem?_toArray, List.getElem?_cons_zero]; rfl
        case hq0_43x3 => exact fun _ _ _ h => h
        case hw0_43x3 => rfl
        case hy0_43x3 => (intro w hSw; (try dsimp only at hSw); obtain ⟨hs0, hs1⟩ := hSw; go_simp; (try (with_reducible rfl)))
        (try simp only [Act.put, List.setIfInBounds_toArray, List.set_cons_zero, List.set_cons_succ])
        refine wpAnyH_take (i := 1) (oi := ?oi1_43x3) (v := ?v1_43x3) ?hi1_43x3 (by kernel_rfl) (by kernel_rfl) (by kernel_rfl) ?hq1_43x3 (Or.inl ⟨?hw1_43x3, ?hy1_43x3⟩) (by assumption) ?rest1_43x3
        case hi1_43x3 => simp only [List.getElem?_toArray, List.getElem?_cons_succ, List.getElem?_cons_zero]; rfl
        case hq1_43x3 => exact fun _ _ _ h => h
        case hw1_43x3 => rfl
        case hy1_43x3 => (intro w hSw; (try dsimp only at hSw); obtain ⟨hs0, hs1⟩ := hSw; go_simp; (try (with_reducible rfl)))
        (try simp only [Act.put, List.setIfInBounds_toArray, List.set_cons_zero, List.set_cons_succ])
        refine wpAnyH_take (i := 2) (oi := ?oi2_43x3) (v := ?v2_43x3) ?hi2_43x3 (by kernel_rfl) (by kernel_rfl) (by kernel_rfl) ?hq2_43x3 (Or.inl ⟨?hw2_43x3, ?hy2_43x3⟩) (by assumption) ?rest2_43x3
        case hi2_43x3 => simp only [List.getElem?_toArray, List.getElem?_cons_succ, List.getElem?_cons_zero]; rfl
        case hq2_43x3 => exact fun _ _ _ h => h
        case hw2_43x3 => rfl
        case hy2_43x3 => (intro w hSw; (try dsimp only at hSw); obtain ⟨hs0, hs1⟩ := hSw; go_simp; (try (with_reducible rfl)))
        (try simp only [Act.put, List.setIfInBounds_toArray, List.set_cons_zero, List.set_cons_succ])
        refine wpAnyH_take (i := 3) (oi := ?oi3_43x3) (v := ?v3_43x3) ?hi3_43x3 (by kernel_rfl) (by kernel_rfl) (by kernel_rfl) ?hq3_43x3 (Or.inl ⟨?hw3_43x3, ?hy3_43x3⟩) (by assumption) ?rest3_43x3
        case hi3_43x3 => simp only [List.getElem?_toArray, List.getElem?_cons_succ, List.getElem?_cons_zero]; rfl
        case hq3_43x3 => exact fun _ _ _ h => h
        case hw3_43x3 => rfl
        case hy3_43x3 => (intro w hSw; (try dsimp only at hSw); obtain ⟨hs0, hs1⟩ := hSw; go_simp; (try (with_reducible rfl)))
        (try simp only [Act.put, List.setIfInBounds_toArray, List.set_cons_zero, List.set_cons_succ])
        refine wpAnyH_take (i := 4) (oi := ?oi4_43x3) (v := ?v4_43x3) ?hi4_43x3 (by kernel_rfl) (by kernel_rfl) (by kernel_rfl) ?hq4_43x3 (Or.inl ⟨?hw4_43x3, ?hy4_43x3⟩) (by assumption) ?rest4_43x3
        case hi4_43x3 => simp only [List.getElem?_toArray, List.getElem?_cons_succ, List.getElem?_cons_zero]; rfl
        case hq4_43x3 => exact fun _ _ _ h => h
        case hw4_43x3 => rfl
        case hy4_43x3 => (intro w hSw; (try dsimp only at hSw); obtain ⟨hs0, hs1⟩ := hSw; go_simp; (try (with_reducible rfl)))
        (try simp only [Act.put, List.setIfInBounds_toArray, List.set_cons_zero, List.set_cons_succ])
        refine wpAnyH_take (i := 5) (oi := ?oi5_43x3) (v := ?v5_43x3) ?hi5_43x3 (by kernel_rfl) (by kernel_rfl) (by kernel_rfl) ?hq5_43x3 (Or.inl ⟨?hw5_43x3, ?hy5_43x3⟩) (by assumption) ?rest5_43x3
        case hi5_43x3 => simp only [List.getElem?_toArray, List.getElem?_cons_succ, List.getElem?_cons_zero]; rfl
        case hq5_43x3 => exact fun _ _ _ h => h
        case hw5_43x3 => rfl
        case hy5_43x3 => (intro w hSw; (try dsimp only at hSw); obtain ⟨hs0, hs1⟩ := hSw; go_simp; (try (with_reducible rfl)))
        (try simp only [Act.put, List.setIfInBounds_toArray, List.set_cons_zero, List.set_cons_succ])
        refine wpAnyH_take (i := 6) (oi := ?oi6_43x3) (v := ?v6_43x3) ?hi6_43x3 (by kernel_rfl) (by kernel_rfl) (by kernel_rfl) ?hq6_43x3 (Or.inl ⟨?hw6_43x3, ?hy6_43x3⟩) (by assumption) ?rest6_43x3
        case hi6_43x3 => simp only [List.getElem?_toArray, List.getElem?_cons_succ, List.getElem?_cons_zero]; rfl
        case hq6_43x3 => exact fun _ _ _ h => h
        case hw6_43x3 => rfl
        case hy6_43x3 => (intro w hSw; (try dsimp only at hSw); obtain ⟨hs0, hs1⟩ := hSw; go_simp; (try (with_reducible rfl)))
        (try simp only [Act.put, List.setIfInBounds_toArray, List.set_cons_zero, List.set_cons_succ])
        refine wpAnyH_take (i := 7) (oi := ?oi7_43x3) (v := ?v7_43x3) ?hi7_43x3 (by kernel_rfl) (by kernel_rfl) (by kernel_rfl) ?hq7_43x3 (Or.inl ⟨?hw7_43x3, ?hy7_43x3⟩) (by assumption) ?rest7_43x3
        case hi7_43x3 => simp only [List.getElem?_toArray, List.getElem?_cons_succ, List.getElem?_cons_zero]; rfl
        case hq7_43x3 => exact fun _ _ _ h => h
        case hw7_43x3 => rfl
        case hy7_43x3 => (intro w hSw; (try dsimp only at hSw); obtain ⟨hs0, hs1⟩ := hSw; go_simp; (try (with_reducible rfl)))
        (try simp only [Act.put, List.setIfInBounds_toArray, List.set_cons_zero, List.set_cons_succ])
        refine wpAnyH_take (i := 8) (oi := ?oi8_43x3) (v := ?v8_43x3) ?hi8_43x3 (by kernel_rfl) (by kernel_rfl) (by kernel_rfl) ?hq8_43x3 (Or.inl ⟨?hw8_43x3, ?hy8_43x3⟩) (by assumption) ?rest8_43x3
        case hi8_43x3 => simp only [List.getElem?_toArray, List.getElem?_cons_succ, List.getElem?_cons_zero]; rfl
        case hq8_43x3 => exact fun _ _ _ h => h
        case hw8_43x3 => rfl
        case hy8_43x3 => (intro w hSw; (try dsimp only at hSw); obtain ⟨hs0, hs1⟩ := hSw; go_simp; (try (with_reducible rfl)))
        (try simp only [Act.put, List.setIfInBounds_toArray, List.set_cons_zero, List.set_cons_succ])
        refine wpAnyH_take (i := 14) (oi := ?oi14_43x3) (v := ?v14_43x3) ?hi14_43x3 (by kernel_rfl) (by kernel_rfl) (by kernel_rfl) ?hq14_43x3 (Or.inl ⟨?hw14_43x3, ?hy14_43x3⟩) (by assumption) ?rest14_43x3
        case hi14_43x3 => simp only [List.getElem?_toArray, List.getElem?_cons_succ, List.getElem?_cons_zero]; rfl
        case hq14_43x3 => exact fun _ _ _ h => h
        case hw14_43x3 => rfl
        case hy14_43x3 => (intro w hSw; (try dsimp only at hSw); obtain ⟨hs0, hs1⟩ := hSw; go_simp; (try (with_reducible rfl)))
        (try simp only [Act.put, List.setIfInBounds_toArray, List.set_cons_zero, List.set_cons_succ])
        refine wpAnyH_take (i := 15) (oi := ?oi15_43x3) (v := ?v15_43x3) ?hi15_43x3 (by kernel_rfl) (by kernel_rfl) (by kernel_rfl) ?hq15_43x3 (Or.inl ⟨?hw15_43x3, ?hy15_43x3⟩) (by assumption) ?rest15_43x3
        case hi15_43x3 => simp only [List.getElem?_toArray, List.getElem?_cons_succ, List.getElem?_cons_zero]; rfl
        case hq15_43x3 => exact fun _ _ _ h => h
        case hw15_43x3 => rfl
        case hy15_43x3 => (intro w hSw; (try dsimp only at hSw); obtain ⟨hs0, hs1⟩ := hSw; go_simp; (try (with_reducible rfl)))
        (try simp only [Act.put, List.setIfInBounds_toArray, List.set_cons_zero, List.set_cons_succ])
        refine wpAnyH_ready (rs := [9]) (by kernel_rfl) (by simp) ?_
        refine AllReadyH.cons rfl (fun K' hK' => ?_) AllReadyH.nil
        go_simp
        refine hK'.out _ _ (HS43.out _ (by assumption)) (fun hHeld => ?_)
        clear hK' K'
        (try simp only [Act.put, List.setIfInBounds_toArray, List.set_cons_zero, List.set_cons_succ])
        refine wpAnyH_take (i := 10) (oi := ?oi10_43x3) (v := ?v10_43x3) ?hi10_43x3 (by kernel_rfl) (by kernel_rfl) (by kernel_rfl) ?hq10_43x3 (Or.inl ⟨?hw10_43x3, ?hy10_43x3⟩) (by assumption) ?rest10_43x3
        case hi10_43x3 => simp only [List.getElem?_toArray, List.getElem?_cons_succ, List.getElem?_cons_zero]; rfl
        case hq10_43x3 => exact fun _ _ _ h => h
        case hw10_43x3 => rfl
        case hy10_43x3 => (intro w hSw; (try dsimp only at hSw); obtain ⟨hs0, hs1⟩ := hSw; go_simp; (try (with_reducible rfl)))
        (try simp only [Act.put, List.setIfInBounds_toArray, List.set_cons_zero, List.set_cons_succ])
        refine wpAnyH_take (i := 11) (oi := ?oi11_43x3) (v := undef) ?hi11_43x3 (by kernel_rfl) (by kernel_rfl) (by kernel_rfl) ?hq11_43x3 (Or.inr ⟨?hw11_43x3, rfl⟩) (by assumption) ?rest11_43x3
        case hi11_43x3 => simp only [List.getElem?_toArray, List.getElem?_cons_succ, List.getElem?_cons_zero]; rfl
        case hq11_43x3 => exact fun _ _ _ h => h
        case hw11_43x3 => rfl
        (try simp only [Act.put, List.setIfInBounds_toArray, List.set_cons_zero, List.set_cons_succ])
        refine wpAnyH_take (i := 12) (oi := ?oi12_43x3) (v := undef) ?hi12_43x3 (by kernel_rfl) (by kernel_rfl) (by kernel_rfl) ?hq12_43x3 (Or.inr ⟨?hw12_43x3, rfl⟩) (by assumption) ?rest12_43x3
        case hi12_43x3 => simp only [List.getElem?_toArray, List.getElem?_cons_succ, List.getElem?_cons_zero]; rfl
        case hq12_43x3 => exact fun _ _ _ h => h
        case hw12_43x3 => rfl
        (try simp only [Act.put, List.setIfInBounds_toArray, List.set_cons_zero, List.set_cons_succ])
        refine wpAnyH_take (i := 13) (oi := ?oi13_43x3) (v := ?v13_43x3) ?hi13_43x3 (by kernel_rfl) (by kernel_rfl) (by kernel_rfl) ?hq13_43x3 (Or.inl ⟨?hw13_43x3, ?hy13_43x3⟩) (by assumption) ?rest13_43x3
        case hi13_43x3 => simp only [List.getElem?_toArray, List.getElem?_cons_succ, List.getElem?_cons_zero]; rfl
        case hq13_43x3 => exact fun _ _ _ h => h
        case hw13_43x3 => rfl
        case hy13_43x3 => (intro w hSw; (try dsimp only at hSw); obtain ⟨hs0, hs1⟩ := hSw; go_simp; (try (with_reducible rfl)))
        (try simp only [Act.put, List.setIfInBounds_toArray, List.set_cons_zero, List.set_cons_succ])
        refine wpAnyH_take (i := 16) (oi := ?oi16_43x3) (v := ?v16_43x3) ?hi16_43x3 (by kernel_rfl) (by kernel_rfl) (by kernel_rfl) ?hq16_43x3 (Or.inl ⟨?hw16_43x3, ?hy16_43x3⟩) (by assumption) ?rest16_43x3
        case hi16_43x3 => simp only [List.getElem?_toArray, List.getElem?_cons_succ, List.getElem?_cons_zero]; rfl
        case hq16_43x3 => exact fun _ _ _ h => h
        case hw16_43x3 => rfl
        case hy16_43x3 => (intro w hSw; (try dsimp only at hSw); obtain ⟨hs0, hs1⟩ := hSw; go_simp; (try (with_reducible rfl)))
        (try simp only [Act.put, List.setIfInBounds_toArray, List.set_cons_zero, List.set_cons_succ])
        refine wpAnyH_ready (rs := [17]) (by kernel_rfl) (by simp) ?_
        refine AllReadyH.cons rfl (fun K' hK' => ?_) AllReadyH.nil
        go_simp
        refine hK'.out _ _ (HS43.out _ (by assumption)) (fun hHeld => ?_)
        clear hK' K'
        (try simp only [Act.put, List.setIfInBounds_toArray, List.set_cons_zero, List.set_cons_succ])
        refine wpAnyH_done (by kernel_rfl) (NoPanic.normal ?_) _
        clear T0 T1 y' f' hHeld
        go_wp2
        exact HD.out _ _ (fin_shut0 K3.out O1.out a true (by rw [HM.out]; rfl) (by rw [HM2.out]; rfl) TA.out.1 TA.out.2 ((Turn.refl _ _).drew)) _ _ _ _ _ _ _ _ _ _ _ _ _ _ _ _ _ _ _ _ _ _ _ _ _ _ _ _ _ _ _ _ _ _ _ _ _ _ _ _ _ _ _ _ _ _ _ _ _ _ _ _ _ _ _ _ _ _ _ _ _ _ _ _ _ _ _ _ _ _ _ _ _ _ _ _ _ _ _ _ _ _ _ _ _ _ _ _ _ _ _ _ _ _ _ _ _ _ _ _ _ _ _ _ _ _ _ _ _ _ _ _ _ _ _ _ _ _ _ _ _ _ _ _ _ _ _ _ _ _ _ _ _ _ _ _ _ _ _ _ _ _ _ _ _ _ _ _ _ _ _ _ _ _ _ _ _ _ _ _ _ _ _ _ _ _ _ _ _ _ _ _ _ _
    · have HS42 := Lib.hid (fun W (t : Turn (fun k => k = x) w3 W) => show W.cell? ⟨B, 1, none⟩ = some (.int .i64 0) ∧ W.cell? ⟨B, 3, none⟩ = some (.bool a) from ⟨t.cell z1 hne, t.cell zA hne⟩)
      have T0 : Turn (fun k => k = x) w3 w3.drew := (Turn.refl _ w3).drew
      have T1 := T0.setCell (p := ⟨x, 4, none⟩) (.inl rfl) (.bool true)
      have y' : w3.drew.cell? ⟨x, 4, none⟩ = some (.bool true) := y
      have f' : w3.drew.frozen? ⟨x, 4, none⟩ = false := f
      refine wp_region_noPanic ?_
      refine wp_region_held_drew (S := fun W => W.cell? ⟨B, 1, none⟩ = some (.int .i64 0) ∧ W.cell? ⟨B, 3, none⟩ = some (.bool a)) (by kernel_rfl) (HS42.out _ (by assumption)) (fun hHeld => ?_)
      refine wpAnyH_take (i := 0) (oi := ?oi0_42x4) (v := ?v0_42x4) ?hi0_42x4 (by kernel_rfl) (by kernel_rfl) (by kernel_rfl) ?hq0_42x4 (Or.inl ⟨?hw0_42x4, ?hy0_42x4⟩) (by assumption) ?rest0_42x4
      case hi0_42x4 => simp only [List.getElem?_toArray, List.getElem?_cons_zero]; rfl
      case hq0_42x4 => exact fun _ _ _ h => h
      case hw0_42x4 => rfl
      case hy0_42x4 => (intro w hSw; (try dsimp only at hSw); obtain ⟨hs0, hs1⟩ := hSw; go_simp; (try (with_reducible rfl)))
      (try simp only [Act.put, List.setIfInBounds_toArray, List.set_cons_zero, List.set_cons_succ])
      refine wpAnyH_take (i := 1) (oi := ?oi1_42x4) (v := ?v1_42x4) ?hi1_42x4 (by kernel_rfl) (by kernel_rfl) (by kernel_rfl) ?hq1_42x4 (Or.inl ⟨?hw1_42x4, ?hy1_42x4⟩) (by assumption) ?rest1_42x4
      case hi1_42x4 => simp only [List.getElem?_toArray, List.getElem?_cons_succ, List.getElem?_cons_zero]; rfl
      case hq1_42x4 => exact fun _ _ _ h => h
      case hw1_42x4 => rfl
      case hy1_42x4 => (intro w hSw; (try dsimp only at hSw); obtain ⟨hs0, hs1⟩ := hSw; go_simp; (try (with_reducible rfl)))
      (try simp only [Act.put, List.setIfInBounds_toArray, List.set_cons_zero, List.set_cons_succ])
      refine wpAnyH_take (i := 2) (oi := ?oi2_42x4) (v := ?v2_42x4) ?hi2_42x4 (by kernel_rfl) (by kernel_rfl) (by kernel_rfl) ?hq2_42x4 (Or.inl ⟨?hw2_42x4, ?hy2_42x4⟩) (by assumption) ?rest2_42x4
      case hi2_42x4 => simp only [List.getElem?_toArray, List.getElem?_cons_succ, List.getElem?_cons_zero]; rfl
      case hq2_42x4 => exact fun _ _ _ h => h
      case hw2_42x4 => rfl
      case hy2_42x4 => (intro w hSw; (try dsimp only at hSw); obtain ⟨hs0, hs1⟩ := hSw; go_simp; (try (with_reducible rfl)))
      (try simp only [Act.put, List.setIfInBounds_toArray, List.set_cons_zero, List.set_cons_succ])
      refine wpAnyH_take (i := 3) (oi := ?oi3_42x4) (v := ?v3_42x4) ?hi3_42x4 (by kernel_rfl) (by kernel_rfl) (by kernel_rfl) ?hq3_42x4 (Or.inl ⟨?hw3_42x4, ?hy3_42x4⟩) (by assumption) ?rest3_42x4
      case hi3_42x4 => simp only [List.getElem?_toArray, List.getElem?_cons_succ, List.getElem?_cons_zero]; rfl
      case hq3_42x4 => exact fun _ _ _ h => h
      case hw3_42x4 => rfl
      case hy3_42x4 => (intro w hSw; (try dsimp only at hSw); obtain ⟨hs0, hs1⟩ := hSw; go_simp; (try (with_reducible rfl)))
      (try simp only [Act.put, List.setIfInBounds_toArray, List.set_cons_zero, List.set_cons_succ])
      refine wpAnyH_take (i := 4) (oi := ?oi4_42x4) (v := ?v4_42x4) ?hi4_42x4 (by kernel_rfl) (by kernel_rfl) (by kernel_rfl) ?hq4_42x4 (Or.inl ⟨?hw4_42x4, ?hy4_42x4⟩) (by assumption) ?rest4_42x4
      case hi4_42x4 => simp only [List.getElem?_toArray, List.getElem?_cons_succ, List.getElem?_cons_zero]; rfl
      case hq4_42x4 => exact fun _ _ _ h => h
      case hw4_42x4 => rfl
      case hy4_42x4 => (intro w hSw; (try dsimp only at hSw); obtain ⟨hs0, hs1⟩ := hSw; go_simp; (try (with_reducible rfl)))
      (try simp only [Act.put, List.setIfInBounds_toArray, List.set_cons_zero, List.set_cons_succ])
      refine wpAnyH_take (i := 5) (oi := ?oi5_42x4) (v := ?v5_42x4) ?hi5_42x4 (by kernel_rfl) (by kernel_rfl) (by kernel_rfl) ?hq5_42x4 (Or.inl ⟨?hw5_42x4, ?hy5_42x4⟩) (by assumption) ?rest5_42x4
      case hi5_42x4 => simp only [List.getElem?_toArray, List.getElem?_cons_succ, List.getElem?_cons_zero]; rfl
      case hq5_42x4 => exact fun _ _ _ h => h
      case hw5_42x4 => rfl
      case hy5_42x4 => (intro w hSw; (try dsimp only at hSw); obtain ⟨hs0, hs1⟩ := hSw; go_simp; (try (with_reducible rfl)))
      (try simp only [Act.put, List.setIfInBounds_toArray, List.set_cons_zero, List.set_cons_succ])
      refine wpAnyH_take (i := 6) (oi := ?oi6_42x4) (v := ?v6_42x4) ?hi6_42x4 (by kernel_rfl) (by kernel_rfl) (by kernel_rfl) ?hq6_42x4 (Or.inl ⟨?hw6_42x4, ?hy6_42x4⟩) (by assumption) ?rest6_42x4
      case hi6_42x4 => simp only [List.getElem?_toArray, List.getElem?_cons_succ, List.getElem?_cons_zero]; rfl
      case hq6_42x4 => exact fun _ _ _ h => h
      case hw6_42x4 => rfl
      case hy6_42x4 => (intro w hSw; (try dsimp only at hSw); obtain ⟨hs0, hs1⟩ := hSw; go_simp; (try (with_reducible rfl)))
      (try simp only [Act.put, List.setIfInBounds_toArray, List.set_cons_zero, List.set_cons_succ])
      refine wpAnyH_take (i := 7) (oi := ?oi7_42x4) (v := ?v7_42x4) ?hi7_42x4 (by kernel_rfl) (by kernel_rfl) (by kernel_rfl) ?hq7_42x4 (Or.inl ⟨?hw7_42x4, ?hy7_42x4⟩) (by assumption) ?rest7_42x4
      case hi7_42x4 => simp only [List.getElem?_toArray, List.getElem?_cons_succ, List.getElem?_cons_zero]; rfl
      case hq7_42x4 => exact fun _ _ _ h => h
      case hw7_42x4 => rfl
      case hy7_42x4 => (intro w hSw; (try dsimp only at hSw); obtain ⟨hs0, hs1⟩ := hSw; go_simp; (try (with_reducible rfl)))
      (try simp only [Act.put, List.setIfInBounds_toArray, List.set_cons_zero, List.set_cons_succ])
      refine wpAnyH_take (i := 8) (oi := ?oi8_42x4) (v := ?v8_42x4) ?hi8_42x4 (by kernel_rfl) (by kernel_rfl) (by kernel_rfl) ?hq8_42x4 (Or.inl ⟨?hw8_42x4, ?hy8_42x4⟩) (by assumption) ?rest8_42x4
      case hi8_42x4 => simp only [List.getElem?_toArray, List.getElem?_cons_succ, List.getElem?_cons_zero]; rfl
      case hq8_42x4 => exact fun _ _ _ h => h
      case hw8_42x4 => rfl
      case hy8_42x4 => (intro w hSw; (try dsimp only at hSw); obtain ⟨hs0, hs1⟩ := hSw; go_simp; (try (with_reducible rfl)))
      (try simp only [Act.put, List.setIfInBounds_toArray, List.set_cons_zero, List.set_cons_succ])
      refine wpAnyH_take (i := 14) (oi := ?oi14_42x4) (v := ?v14_42x4) ?hi14_42x4 (by kernel_rfl) (by kernel_rfl) (by kernel_rfl) ?hq14_42x4 (Or.inl ⟨?hw14_42x4, ?hy14_42x4⟩) (by assumption) ?rest14_42x4
      case hi14_42x4 => simp only [List.getElem?_toArray, List.getElem?_cons_succ, List.getElem?_cons_zero]; rfl
      case hq14_42x4 => exact fun _ _ _ h => h
      case hw14_42x4 => rfl
      case hy14_42x4 => (intro w hSw; (try dsimp only at hSw); obtain ⟨hs0, hs1⟩ := hSw; go_simp; (try (with_reducible rfl)))
      (try simp only [Act.put, List.setIfInBounds_toArray, List.set_cons_zero, List.set_cons_succ])
      refine wpAnyH_take (i := 15) (oi := ?oi15_42x4) (v := ?v15_42x4) ?hi15_42x4 (by kernel_rfl) (by kernel_rfl) (by kernel_rfl) ?hq15_42x4 (Or.inl ⟨?hw15_42x4, ?hy15_42x4⟩) (by assumption) ?rest15_42x4
      case hi15_42x4 => simp only [List.getElem?_toArray, List.getElem?_cons_succ, List.getElem?_cons_zero]; rfl
      case hq15_42x4 => exact fun _ _ _ h => h
      case hw15_42x4 => rfl
      case hy15_42x4 => (intro w hSw; (try dsimp only at hSw); obtain ⟨hs0, hs1⟩ := hSw; go_simp; (try (with_reducible rfl)))
      (try simp only [Act.put, List.setIfInBounds_toArray, List.set_cons_zero, List.set_cons_succ])
      refine wpAnyH_ready (rs := [9]) (by kernel_rfl) (by simp) ?_
      refine AllReadyH.cons rfl (fun K' hK' => ?_) AllReadyH.nil
      go_simp
      refine hK'.out _ _ (HS42.out _ (by assumption)) (fun hHeld => ?_)
      clear hK' K'
      (try simp only [Act.put, List.setIfInBounds_toArray, List.set_cons_zero, List.set_cons_succ])
      refine wpAnyH_take (i := 10) (oi := ?oi10_42x4) (v := ?v10_42x4) ?hi10_42x4 (by kernel_rfl) (by kernel_rfl) (by kernel_rfl) ?hq10_42x4 (Or.inl ⟨?hw10_42x4, ?hy10_42x4⟩) (by assumption) ?rest10_42x4
      case hi10_42x4 => simp only [List.getElem?_toArray, List.getElem?_cons_succ, List.getElem?_cons_zero]; rfl
      case hq10_42x4 => exact fun _ _ _ h => h
      case hw10_42x4 => rfl
      case hy10_42x4 => (intro w hSw; (try dsimp only at hSw); obtain ⟨hs0, hs1⟩ := hSw; go_simp; (try (with_reducible rfl)))
      (try simp only [Act.put, List.setIfInBounds_toArray, List.set_cons_zero, List.set_cons_succ])
      refine wpAnyH_take (i := 11) (oi := ?oi11_42x4) (v := undef) ?hi11_42x4 (by kernel_rfl) (by kernel_rfl) (by kernel_rfl) ?hq11_42x4 (Or.inr ⟨?hw11_42x4, rfl⟩) (by assumption) ?rest11_42x4
      case hi11_42x4 => simp only [List.getElem?_toArray, List.getElem?_cons_succ, List.getElem?_cons_zero]; rfl
      case hq11_42x4 => exact fun _ _ _ h => h
      case hw11_42x4 => rfl
      (try simp only [Act.put, List.setIfInBounds_toArray, List.set_cons_zero, List.set_cons_succ])
      refine wpAnyH_take (i := 12) (oi := ?oi12_42x4) (v := undef) ?hi12_42x4 (by kernel_rfl) (by kernel_rfl) (by kernel_rfl) ?hq12_42x4 (Or.inr ⟨?hw12_42x4, rfl⟩) (by assumption) ?rest12_42x4
      case hi12_42x4 => simp only [List.getElem?_toArray, List.getElem?_cons_succ, List.getElem?_cons_zero]; rfl
      case hq12_42x4 => exact fun _ _ _ h => h
      case hw12_42x4 => rfl
      (try simp only [Act.put, List.setIfInBounds_toArray, List.set_cons_zero, List.set_cons_succ])
      refine wpAnyH_take (i := 13) (oi := ?oi13_42x4) (v := ?v13_42x4) ?hi13_42x4 (by kernel_rfl) (by kernel_rfl) (by kernel_rfl) ?hq13_42x4 (Or.inl ⟨?hw13_42x4, ?hy13_42x4⟩) (by assumption) ?rest13_42x4
      case hi13_42x4 => simp only [List.getElem?_toArray, List.getElem?_cons_succ, List.getElem?_cons_zero]; rfl
      case hq13_42x4 => exact fun _ _ _ h => h
      case hw13_42x4 => rfl
      case hy13_42x4 => (intro w hSw; (try dsimp only at hSw); obtain ⟨hs0, hs1⟩ := hSw; go_simp; (try (with_reducible rfl)))
      (try simp only [Act.put, List.setIfInBounds_toArray, List.set_cons_zero, List.set_cons_succ])
      refine wpAnyH_take (i := 16) (oi := ?oi16_42x4) (v := ?v16_42x4) ?hi16_42x4 (by kernel_rfl) (by kernel_rfl) (by kernel_rfl) ?hq16_42x4 (Or.inl ⟨?hw16_42x4, ?hy16_42x4⟩) (by assumption) ?rest16_42x4
      case hi16_42x4 => simp only [List.getElem?_toArray, List.getElem?_cons_succ, List.getElem?_cons_zero]; rfl
      case hq16_42x4 => exact fun _ _ _ h => h
      case hw16_42x4 => rfl
      case hy16_42x4 => (intro w hSw; (try dsimp only at hSw); obtain ⟨hs0, hs1⟩ := hSw; go_simp; (try (with_reducible rfl)))
      (try simp only [Act.put, List.setIfInBounds_toArray, List.set_cons_zero, List.set_cons_succ])
      refine wpAnyH_ready (rs := [17]) (by kernel_rfl) (by simp) ?_
      refine AllReadyH.cons rfl (fun K' hK' => ?_) AllReadyH.nil
      go_simp
      refine hK'.out _ _ (HS42.out _ (by assumption)) (fun hHeld => ?_)
      clear hK' K'
      (try simp only [Act.put, List.setIfInBounds_toArray, List.set_cons_zero, List.set_cons_succ])
      refine wpAnyH_done (by kernel_rfl) (NoPanic.normal ?_) _
      clear T0 T1 y' f' hHeld
      have TA := Lib.hid (show Turn NoBlock w3 w3 ∧ Turn NoBlock (w3.setCell ⟨x, 4 + 0, none⟩ (.bool true)) ((w3.setCell ⟨x, 4, none⟩ (.bool true)).drew) from ⟨(Turn.refl _ _), ((Turn.refl _ _).drew)⟩)
      have TX := Lib.hid (show Turn (fun k => k = x) w3 ((w3.setCell ⟨x, 4, none⟩ (.bool true)).drew) from turn_one rfl TA.out.1 TA.out.2)
      have RA := Lib.hid (((K3.out.r.past TA.out.1).setM (e := 0) (by omega) true).past TA.out.2)
      generalize (w3.setCell ⟨x, 4, none⟩ (.bool true)).drew = wA at *
      have z1' := TX.out.cell z1 hne
      have zB' := TX.out.cell ZB.out hne
      have y2 := RA.out.cd 0 (by omega)
      have f2 := RA.out.f (6 + 0)
      clear z1 zA y f
      try clear HS42
      have z1 := z1'
      have zA := zB'
      have y := y2
      have f := f2
      clear z1' zB' y2 f2
      rw [HM2.out] at y
      simp only [Nat.reduceAdd] at y f
      go_wp2
      cases m2
      · have HS43 := Lib.hid (fun W (t : Turn (fun k => k = x) wA W) => show W.cell? ⟨B, 1, none⟩ = some (.int .i64 0) ∧ W.cell? ⟨B, 4, none⟩ = some (.bool b) from ⟨t.cell z1 hne, t.cell zA hne⟩)
        have T0 : Turn (fun k => k = x) wA wA.drew := (Turn.refl _ wA).drew
        have T1 := T0.setCell (p := ⟨x, 6, none⟩) (.inl rfl) (.bool b)
        have y' : wA.drew.cell? ⟨x, 6, none⟩ = some (.bool false) := y
        have f' : wA.drew.frozen? ⟨x, 6, none⟩ = false := f
        refine wp_region_noPanic ?_
        refine wp_region_held_drew (S := fun W => W.cell? ⟨B, 1, none⟩ = some (.int .i64 0) ∧ W.cell? ⟨B, 4, none⟩ = some (.bool b)) (by kernel_rfl) (HS43.out _ (by assumption)) (fun hHeld => ?_)
        refine wpAnyH_take (i := 0) (oi := ?oi0_43x5) (v := ?v0_43x5) ?hi0_43x5 (by kernel_rfl) (by kernel_rfl) (by kernel_rfl) ?hq0_43x5 (Or.inl ⟨?hw0_43x5, ?hy0_43x5⟩) (by assumption) ?rest0_43x5
        case hi0_43x5 => simp only [List.getElem?_toArray, List.getElem?_cons_zero]; rfl
        case hq0_43x5 => exact fun _ _ _ h => h
        case hw0_43x5 => rfl
        case hy0_43x5 => (intro w hSw; (try dsimp only at hSw); obtain ⟨hs0, hs1⟩ := hSw; go_simp; (try (with_reducible rfl)))
        (try simp only [Act.put, List.setIfInBounds_toArray, List.set_cons_zero, List.set_cons_succ])
        refine wpAnyH_take (i := 1) (oi := ?oi1_43x5) (v := ?v1_43x5) ?hi1_43x5 (by kernel_rfl) (by kernel_rfl) (by kernel_rfl) ?hq1_43x5 (Or.inl ⟨?hw1_43x5, ?hy1_43x5⟩) (by assumption) ?rest1_43x5
        case hi1_43x5 => simp only [List.getElem?_toArray, List.getElem?_cons_succ, List.getElem?_cons_zero]; rfl
        case hq1_43x5 => exact fun _ _ _ h => h
        case hw1_43x5 => rfl
        case hy1_43x5 => (intro w hSw; (try dsimp only at hSw); obtain ⟨hs0, hs1⟩ := hSw; go_simp; (try (with_reducible rfl)))
        (try simp only [Act.put, List.setIfInBounds_toArray, List.set_cons_zero, List.set_cons_succ])
        refine wpAnyH_take (i := 2) (oi := ?oi2_43x5) (v := ?v2_43x5) ?hi2_43x5 (by kernel_rfl) (by kernel_rfl) (by kernel_rfl) ?hq2_43x5 (Or.inl ⟨?hw2_43x5, ?hy2_43x5⟩) (by assumption) ?rest2_43x5
        case hi2_43x5 => simp only [List.getElem?_toArray, List.getElem?_cons_succ, List.getElem?_cons_zero]; rfl
        case hq2_43x5 => exact fun _ _ _ h => h
        case hw2_43x5 => rfl
        case hy2_43x5 => (intro w hSw; (try dsimp only at hSw); obtain ⟨hs0, hs1⟩ := hSw; go_simp; (try (with_reducible rfl)))
        (try simp only [Act.put, List.setIfInBounds_toArray, List.set_cons_zero, List.set_cons_succ])
        refine wpAnyH_take (i := 3) (oi := ?oi3_43x5) (v := ?v3_43x5) ?hi3_43x5 (by kernel_rfl) (by kernel_rfl) (by kernel_rfl) ?hq3_43x5 (Or.inl ⟨?hw3_43x5, ?hy3_43x5⟩) (by assumption) ?rest3_43x5
        case hi3_43x5 => simp only [List.getElem?_toArray, List.getElem?_cons_succ, List.getElem?_cons_zero]; rfl
        case hq3_43x5 => exact fun _ _ _ h => h
        case hw3_43x5 => rfl
        case hy3_43x5 => (intro w hSw; (try dsimp only at hSw); obtain ⟨hs0, hs1⟩ := hSw; go_simp; (try (with_reducible rfl)))
        (try simp only [Act.put, List.setIfInBounds_toArray, List.set_cons_zero, List.set_cons_succ])
        refine wpAnyH_take (i := 4) (oi := ?oi4_43x5) (v := ?v4_43x5) ?hi4_43x5 (by kernel_rfl) (by kernel_rfl) (by kernel_rfl) ?hq4_43x5 (Or.inl ⟨?hw4_43x5, ?hy4_43x5⟩) (by assumption) ?rest4_43x5
        case hi4_43x5 => simp only [List.getElem?_toArray, List.getElem?_cons_succ, List.getElem?_cons_zero]; rfl
        case hq4_43x5 => exact fun _ _ _ h => h
        case hw4_43x5 => rfl
        case hy4_43x5 => (intro w hSw; (try dsimp only at hSw); obtain ⟨hs0, hs1⟩ := hSw; go_simp; (try (with_reducible rfl)))
        (try simp only [Act.put, List.setIfInBounds_toArray, List.set_cons_zero, List.set_cons_succ])
        refine wpAnyH_take (i := 5) (oi := ?oi5_43x5) (v := ?v5_43x5) ?hi5_43x5 (by kernel_rfl) (by kernel_rfl) (by kernel_rfl) ?hq5_43x5 (Or.inl ⟨?hw5_43x5, ?hy5_43x5⟩) (by assumption) ?rest5_43x5
        case hi5_43x5 => simp only [List.getElem?_toArray, List.getElem?_cons_succ, List.getElem?_cons_zero]; rfl
        case hq5_43x5 => exact fun _ _ _ h => h
        case hw5_43x5 => rfl
        case hy5_43x5 => (intro w hSw; (try dsimp only at hSw); obtain ⟨hs0, hs1⟩ := hSw; go_simp; (try (with_reducible rfl)))
        (try simp only [Act.put, List.setIfInBounds_toArray, List.set_cons_zero, List.set_cons_succ])
        refine wpAnyH_take (i := 6) (oi := ?oi6_43x5) (v := ?v6_43x5) ?hi6_43x5 (by kernel_rfl) (by kernel_rfl) (by kernel_rfl) ?hq6_43x5 (Or.inl ⟨?hw6_43x5, ?hy6_43x5⟩) (by assumption) ?rest6_43x5
        case hi6_43x5 => simp only [List.getElem?_toArray, List.getElem?_cons_succ, List.getElem?_cons_zero]; rfl
        case hq6_43x5 => exact fun _ _ _ h => h
        case hw6_43x5 => rfl
        case hy6_43x5 => (intro w hSw; (try dsimp only at hSw); obtain ⟨hs0, hs1⟩ := hSw; go_simp; (try (with_reducible rfl)))
        (try simp only [Act.put, List.setIfInBounds_toArray, List.set_cons_zero, List.set_cons_succ])
        refine wpAnyH_take (i := 7) (oi := ?oi7_43x5) (v := ?v7_43x5) ?hi7_43x5 (by kernel_rfl) (by kernel_rfl) (by kernel_rfl) ?hq7_43x5 (Or.inl ⟨?hw7_43x5, ?hy7_43x5⟩) (by assumption) ?rest7_43x5
        case hi7_43x5 => simp only [List.getElem?_toArray, List.getElem?_cons_succ, List.getElem?_cons_zero]; rfl
        case hq7_43x5 => exact fun _ _ _ h => h
        case hw7_43x5 => rfl
        case hy7_43x5 => (intro w hSw; (try dsimp only at hSw); obtain ⟨hs0, hs1⟩ := hSw; go_simp; (try (with_reducible rfl)))
        (try simp only [Act.put, List.setIfInBounds_toArray, List.set_cons_zero, List.set_cons_succ])
        refine wpAnyH_take (i := 8) (oi := ?oi8_43x5) (v := ?v8_43x5) ?hi8_43x5 (by kernel_rfl) (by kernel_rfl) (by kernel_rfl) ?hq8_43x5 (Or.inl ⟨?hw8_43x5, ?hy8_43x5⟩) (by assumption) ?rest8_43x5
        case hi8_43x5 => simp only [List.getElem?_toArray, List.getElem?_cons_succ, List.getElem?_cons_zero]; rfl
        case hq8_43x5 => exact fun _ _ _ h => h
        case hw8_43x5 => rfl
        case hy8_43x5 => (intro w hSw; (try dsimp only at hSw); obtain ⟨hs0, hs1⟩ := hSw; go_simp; (try (with_reducible rfl)))
        (try simp only [Act.put, List.setIfInBounds_toArray, List.set_cons_zero, List.set_cons_succ])
        refine wpAnyH_take (i := 14) (oi := ?oi14_43x5) (v := ?v14_43x5) ?hi14_43x5 (by kernel_rfl) (by kernel_rfl) (by kernel_rfl) ?hq14_43x5 (Or.inl ⟨?hw14_43x5, ?hy14_43x5⟩) (by assumption) ?rest14_43x5
        case hi14_43x5 => simp only [List.getElem?_toArray, List.getElem?_cons_succ, List.getElem?_cons_zero]; rfl
        case hq14_43x5 => exact fun _ _ _ h => h
        case hw14_43x5 => rfl
        case hy14_43x5 => (intro w hSw; (try dsimp only at hSw); obtain ⟨hs0, hs1⟩ := hSw; go_simp; (try (with_reducible rfl)))
        (try simp only [Act.put, List.setIfInBounds_toArray, List.set_cons_zero, List.set_cons_succ])
        refine wpAnyH_take (i := 15) (oi := ?oi15_43x5) (v := ?v15_43x5) ?hi15_43x5 (by kernel_rfl) (by kernel_rfl) (by kernel_rfl) ?hq15_43x5 (Or.inl ⟨?hw15_43x5, ?hy15_43x5⟩) (by assumption) ?rest15_43x5
        case hi15_43x5 => simp only [List.getElem?_toArray, List.getElem?_cons_succ, List.getElem?_cons_zero]; rfl
        case hq15_43x5 => exact fun _ _ _ h => h
        case hw15_43x5 => rfl
        case hy15_43x5 => (intro w hSw; (try dsimp only at hSw); obtain ⟨hs0, hs1⟩ := hSw; go_simp; (try (with_reducible rfl)))
        (try simp only [Act.put, List.setIfInBounds_toArray, List.set_cons_zero, List.set_cons_succ])
        refine wpAnyH_ready (rs := [9]) (by kernel_rfl) (by simp) ?_
        refine AllReadyH.cons rfl (fun K' hK' => ?_) AllReadyH.nil
        go_simp
        refine hK'.out _ _ (HS43.out _ (by assumption)) (fun hHeld => ?_)
        clear hK' K'
        (try simp only [Act.put, List.setIfInBounds_toArray, List.set_cons_zero, List.set_cons_succ])
        refine wpAnyH_take (i := 10) (oi := ?oi10_43x5) (v := ?v10_43x5) ?hi10_43x5 (by kernel_rfl) (by kernel_rfl) (by kernel_rfl) ?hq10_43x5 (Or.inl ⟨?hw10_43x5, ?hy10_43x5⟩) (by assumption) ?rest10_43x5
        case hi10_43x5 => simp only [List.getElem?_toArray, List.getElem?_cons_succ, List.getElem?_cons_zero]; rfl
        case hq10_43x5 => exact fun _ _ _ h => h
        case hw10_43x5 => rfl
        case hy10_43x5 => (intro w hSw; (try dsimp only at hSw); obtain ⟨hs0, hs1⟩ := hSw; go_simp; (try (with_reducible rfl)))
        (try simp only [Act.put, List.setIfInBounds_toArray, List.set_cons_zero, List.set_cons_succ])
        refine wpAnyH_take (i := 11) (oi := ?oi11_43x5) (v := ?v11_43x5) ?hi11_43x5 (by kernel_rfl) (by kernel_rfl) (by kernel_rfl) ?hq11_43x5 (Or.inl ⟨?hw11_43x5, ?hy11_43x5⟩) (by assumption) ?rest11_43x5
        case hi11_43x5 => simp only [List.getElem?_toArray, List.getElem?_cons_succ, List.getElem?_cons_zero]; rfl
        case hq11_43x5 => exact fun _ _ _ h => h
        case hw11_43x5 => rfl
        case hy11_43x5 => (intro w hSw; (try dsimp only at hSw); obtain ⟨hs0, hs1⟩ := hSw; go_simp; (try (with_reducible rfl)))
        (try simp only [Act.put, List.setIfInBounds_toArray, List.set_cons_zero, List.set_cons_succ])
        refine wpAnyH_take (i := 12) (oi := ?oi12_43x5) (v := ?v12_43x5) ?hi12_43x5 (by kernel_rfl) (by kernel_rfl) (by kernel_rfl) ?hq12_43x5 (Or.inl ⟨?hw12_43x5, ?hy12_43x5⟩) (by assumption) ?rest12_43x5
        case hi12_43x5 => simp only [List.getElem?_toArray, List.getElem?_cons_succ, List.getElem?_cons_zero]; rfl
        case hq12_43x5 => exact fun _ _ _ h => h
        case hw12_43x5 => rfl
        case hy12_43x5 => (intro w hSw; (try dsimp only at hSw); obtain ⟨hs0, hs1⟩ := hSw; go_simp; (try (with_reducible rfl)))
        (try simp only [Act.put, List.setIfInBounds_toArray, List.set_cons_zero, List.set_cons_succ])
        refine wpAnyH_take (i := 13) (oi := ?oi13_43x5) (v := ?v13_43x5) ?hi13_43x5 (by kernel_rfl) (by kernel_rfl) (by kernel_rfl) ?hq13_43x5 (Or.inl ⟨?hw13_43x5, ?hy13_43x5⟩) (by assumption) ?rest13_43x5
        case hi13_43x5 => simp only [List.getElem?_toArray, List.getElem?_cons_succ, List.getElem?_cons_zero]; rfl
        case hq13_43x5 => exact fun _ _ _ h => h
        case hw13_43x5 => rfl
        case hy13_43x5 => (intro w hSw; (try dsimp only at hSw); obtain ⟨hs0, hs1⟩ := hSw; go_simp; (try (with_reducible rfl)))
        (try simp only [Act.put, List.setIfInBounds_toArray, List.set_cons_zero, List.set_cons_succ])
        refine wpAnyH_take (i := 16) (oi := ?oi16_43x5) (v := ?v16_43x5) ?hi16_43x5 (by kernel_rfl) (by kernel_rfl) (by kernel_rfl) ?hq16_43x5 (Or.inl ⟨?hw16_43x5, ?hy16_43x5⟩) (by assumption) ?rest16_43x5
        case hi16_43x5 => simp only [List.getElem?_toArray, List.getElem?_cons_succ, List.getElem?_cons_zero]; rfl
        case hq16_43x5 => exact fun _ _ _ h => h
        case hw16_43x5 => rfl
        case hy16_43x5 => (intro w hSw; (try dsimp only at hSw); obtain ⟨hs0, hs1⟩ := hSw; go_simp; (try (with_reducible rfl)))
        (try simp only [Act.put, List.setIfInBounds_toArray, List.set_cons_zero, List.set_cons_succ])
        refine wpAnyH_ready (rs := [17]) (by kernel_rfl) (by simp) ?_
        refine AllReadyH.cons rfl (fun K' hK' => ?_) AllReadyH.nil
        go_simp
        refine hK'.out _ _ (HS43.out _ (by assumption)) (fun hHeld => ?_)
        clear hK' K'
        (try simp only [Act.put, List.setIfInBounds_toArray, List.set_cons_zero, List.set_cons_succ])
        refine wpAnyH_done (by kernel_rfl) (NoPanic.normal ?_) _
        clear T0 T1 y' f' hHeld
        go_wp2
        exact HD.out _ _ (fin_shut0 K3.out O1.out true b (by rw [HM.out]; rfl) (by rw [HM2.out]; rfl) TA.out.1 TA.out.2 ((Turn.refl _ _).drew)) _ _ _ _ _ _ _ _ _ _ _ _ _ _ _ _ _ _ _ _ _ _ _ _ _ _ _ _ _ _ _ _ _ _ _ _ _ _ _ _ _ _ _ _ _ _ _ _ _ _ _ _ _ _ _ _ _ _ _ _ _ _ _ _ _ _ _ _ _ _ _ _ _ _ _ _ _ _ _ _ _ _ _ _ _ _ _ _ _ _ _ _ _ _ _ _ _ _ _ _ _ _ _ _ _ _ _ _ _ _ _ _ _ _ _ _ _ _ _ _ _ _ _ _ _ _ _ _ _ _ _ _ _ _ _ _ _ _ _ _ _ _ _ _ _ _ _ _ _ _ _ _ _ _ _ _ _ _ _ _ _ _ _ _ _ _ _ _ _ _ _ _ _ _
      · have HS43 := Lib.hid (fun W (t : Turn (fun k => k = x) wA W) => show W.cell? ⟨B, 1, none⟩ = some (.int .i64 0) ∧ W.cell? ⟨B, 4, none⟩ = some (.bool b) from ⟨t.cell z1 hne, t.cell zA hne⟩)
        have T0 : Turn (fun k => k = x) wA wA.drew := (Turn.refl _ wA).drew
        have T1 := T0.setCell (p := ⟨x, 6, none⟩) (.inl rfl) (.bool true)
        have y' : wA.drew.cell? ⟨x, 6, none⟩ = some (.bool true) := y
        have f' : wA.drew.frozen? ⟨x, 6, none⟩ = false := f
        refine wp_region_noPanic ?_
        refine wp_region_held_drew (S := fun W => W.cell? ⟨B, 1, none⟩ = some (.int .i64 0) ∧ W.cell? ⟨B, 4, none⟩ = some (.bool b)) (by kernel_rfl) (HS43.out _ (by assumption)) (fun hHeld => ?_)
        refine wpAnyH_take (i := 0) (oi := ?oi0_43x6) (v := ?v0_43x6) ?hi0_43x6 (by kernel_rfl) (by kernel_rfl) (by kernel_rfl) ?hq0_43x6 (Or.inl ⟨?hw0_43x6, ?hy0_43x6⟩) (by assumption) ?rest0_43x6
        case hi0_43x6 => simp only [List.getElem?_toArray, List.getElem?_cons_zero]; rfl
        case hq0_43x6 => exact fun _ _ _ h => h
        case hw0_43x6 => rfl
        case hy0_43x6 => (intro w hSw; (try dsimp only at hSw); obtain ⟨hs0, hs1⟩ := hSw; go_simp; (try (with_reducible rfl)))
        (try simp only [Act.put, List.setIfInBounds_toArray, List.set_cons_zero, List.set_cons_succ])
        refine wpAnyH_take (i := 1) (oi := ?oi1_43x6) (v := ?v1_43x6) ?hi1_43x6 (by kernel_rfl) (by kernel_rfl) (by kernel_rfl) ?hq1_43x6 (Or.inl ⟨?hw1_43x6, ?hy1_43x6⟩) (by assumption) ?rest1_43x6
        case hi1_43x6 => simp only [List.getElem?_toArray, List.getElem?_cons_succ, List.getElem?_cons_zero]; rfl
        case hq1_43x6 => exact fun _ _ _ h => h
        case hw1_43x6 => rfl
        case hy1_43x6 => (intro w hSw; (try dsimp only at hSw); obtain ⟨hs0, hs1⟩ := hSw; go_simp; (try (with_reducible rfl)))
        (try simp only [Act.put, List.setIfInBounds_toArray, List.set_cons_zero, List.set_cons_succ])
        refine wpAnyH_take (i := 2) (oi := ?oi2_43x6) (v := ?v2_43x6) ?hi2_43x6 (by kernel_rfl) (by kernel_rfl) (by kernel_rfl) ?hq2_43x6 (Or.inl ⟨?hw2_43x6, ?hy2_43x6⟩) (by assumption) ?rest2_43x6
        case hi2_43x6 => simp only [List.getElem?_toArray, List.getElem?_cons_succ, List.getElem?_cons_zero]; rfl
        case hq2_43x6 => exact fun _ _ _ h => h
        case hw2_43x6 => rfl
        case hy2_43x6 => (intro w hSw; (try dsimp only at hSw); obtain ⟨hs0, hs1⟩ := hSw; go_simp; (try (with_reducible rfl)))
        (try simp only [Act.put, List.setIfInBounds_toArray, List.set_cons_zero, List.set_cons_succ])
        refine wpAnyH_take (i := 3) (oi := ?oi3_43x6) (v := ?v3_43x6) ?hi3_43x6 (by kernel_rfl) (by kernel_rfl) (by kernel_rfl) ?hq3_43x6 (Or.inl ⟨?hw3_43x6, ?hy3_43x6⟩) (by assumption) ?rest3_43x6
        case hi3_43x6 => simp only [List.getElem?_toArray, List.getElem?_cons_succ, List.getElem?_cons_zero]; rfl
        case hq3_43x6 => exact fun _ _ _ h => h
        case hw3_43x6 => rfl
        case hy3_43x6 => (intro w hSw; (try dsimp only at hSw); obtain ⟨hs0, hs1⟩ := hSw; go_simp; (try (with_reducible rfl)))
        (try simp only [Act.put, List.setIfInBounds_toArray, List.set_cons_zero, List.set_cons_succ])
        refine wpAnyH_take (i := 4) (oi := ?oi4_43x6) (v := ?v4_43x6) ?hi4_43x6 (by kernel_rfl) (by kernel_rfl) (by kernel_rfl) ?hq4_43x6 (Or.inl ⟨?hw4_43x6, ?hy4_43x6⟩) (by assumption) ?rest4_43x6
        case hi4_43x6 => simp only [List.getElem?_toArray, List.getElem?_cons_succ, List.getElem?_cons_zero]; rfl
        case hq4_43x6 => exact fun _ _ _ h => h
        case hw4_43x6 => rfl
        case hy4_43x6 => (intro w hSw; (try dsimp only at hSw); obtain ⟨hs0, hs1⟩ := hSw; go_simp; (try (with_reducible rfl)))
        (try simp only [Act.put, List.setIfInBounds_toArray, List.set_cons_zero, List.set_cons_succ])
        refine wpAnyH_take (i := 5) (oi := ?oi5_43x6) (v := ?v5_43x6) ?hi5_43x6 (by kernel_rfl) (by kernel_rfl) (by kernel_rfl) ?hq5_43x6 (Or.inl ⟨?hw5_43x6, ?hy5_43x6⟩) (by assumption) ?rest5_43x6
        case hi5_43x6 => simp only [List.getElem?_toArray, List.getElem?_cons_succ, List.getElem?_cons_zero]; rfl
        case hq5_43x6 => exact fun _ _ _ h => h
        case hw5_43x6 => rfl
        case hy5_43x6 => (intro w hSw; (try dsimp only at hSw); obtain ⟨hs0, hs1⟩ := hSw; go_simp; (try (with_reducible rfl)))
        (try simp only [Act.put, List.setIfInBounds_toArray, List.set_cons_zero, List.set_cons_succ])
        refine wpAnyH_take (i := 6) (oi := ?oi6_43x6) (v := ?v6_43x6) ?hi6_43x6 (by kernel_rfl) (by kernel_rfl) (by kernel_rfl) ?hq6_43x6 (Or.inl ⟨?hw6_43x6, ?hy6_43x6⟩) (by assumption) ?rest6_43x6
        case hi6_43x6 => simp only [List.getElem?_toArray, List.getElem?_cons_succ, List.getElem?_cons_zero]; rfl
        case hq6_43x6 => exact fun _ _ _ h => h
        case hw6_43x6 => rfl
        case hy6_43x6 => (intro w hSw; (try dsimp only at hSw); obtain ⟨hs0, hs1⟩ := hSw; go_simp; (try (with_reducible rfl)))
        (try simp only [Act.put, List.setIfInBounds_toArray, List.set_cons_zero, List.set_cons_succ])
        refine wpAnyH_take (i := 7) (oi := ?oi7_43x6) (v := ?v7_43x6) ?hi7_43x6 (by kernel_rfl) (by kernel_rfl) (by kernel_rfl) ?hq7_43x6 (Or.inl ⟨?hw7_43x6, ?hy7_43x6⟩) (by assumption) ?rest7_43x6
        case hi7_43x6 => simp only [List.getElem?_toArray, List.getElem?_cons_succ, List.getElem?_cons_zero]; rfl
        case hq7_43x6 => exact fun _ _ _ h => h
        case hw7_43x6 => rfl
        case hy7_43x6 => (intro w hSw; (try dsimp only at hSw); obtain ⟨hs0, hs1⟩ := hSw; go_simp; (try (with_reducible rfl)))
        (try simp only [Act.put, List.setIfInBounds_toArray, List.set_cons_zero, List.set_cons_succ])
        refine wpAnyH_take (i := 8) (oi := ?oi8_43x6) (v := ?v8_43x6) ?hi8_43x6 (by kernel_rfl) (by kernel_rfl) (by kernel_rfl) ?hq8_43x6 (Or.inl ⟨?hw8_43x6, ?hy8_43x6⟩) (by assumption) ?rest8_43x6
        case hi8_43x6 => simp only [List.getElem?_toArray, List.getElem?_cons_succ, List.getElem?_cons_zero]; rfl
        case hq8_43x6 => exact fun _ _ _ h => h
        case hw8_43x6 => rfl
        case hy8_43x6 => (intro w hSw; (try dsimp only at hSw); obtain ⟨hs0, hs1⟩ := hSw; go_simp; (try (with_reducible rfl)))
        (try simp only [Act.put, List.setIfInBounds_toArray, List.set_cons_zero, List.set_cons_succ])
        refine wpAnyH_take (i := 14) (oi := ?oi14_43x6) (v := ?v14_43x6) ?hi14_43x6 (by kernel_rfl) (by kernel_rfl) (by kernel_rfl) ?hq14_43x6 (Or.inl ⟨?hw14_43x6, ?hy14_43x6⟩) (by assumption) ?rest14_43x6
        case hi14_43x6 => simp only [List.getElem?_toArray, List.getElem?_cons_succ, List.getElem?_cons_zero]; rfl
        case hq14_43x6 => exact fun _ _ _ h => h
        case hw14_43x6 => rfl
        case hy14_43x6 => (intro w hSw; (try dsimp only at hSw); obtain ⟨hs0, hs1⟩ := hSw; go_simp; (try (with_reducible rfl)))
        (try simp only [Act.put, List.setIfInBounds_toArray, List.set_cons_zero, List.set_cons_succ])
        refine wpAnyH_take (i := 15) (oi := ?oi15_43x6) (v := ?v15_43x6) ?hi15_43x6 (by kernel_rfl) (by kernel_rfl) (by kernel_rfl) ?hq15_43x6 (Or.inl ⟨?hw15_43x6, ?hy15_43x6⟩) (by assumption) ?rest15_43x6
        case hi15_43x6 => simp only [List.getElem?_toArray, List.getElem?_cons_succ, List.getElem?_cons_zero]; rfl
        case hq15_43x6 => exact fun _ _ _ h => h
        case hw15_43x6 => rfl
        case hy15_43x6 => (intro w hSw; (try dsimp only at hSw); obtain ⟨hs0, hs1⟩ := hSw; go_simp; (try (with_reducible rfl)))
        (try simp only [Act.put, List.setIfInBounds_toArray, List.set_cons_zero, List.set_cons_succ])
        refine wpAnyH_ready (rs := [9]) (by kernel_rfl) (by simp) ?_
        refine AllReadyH.cons rfl (fun K' hK' => ?_) AllReadyH.nil
        go_simp
        refine hK'.out _ _ (HS43.out _ (by assumption)) (fun hHeld => ?_)
        clear hK' K'
        (try simp only [Act.put, List.setIfInBounds_toArray, List.set_cons_zero, List.set_cons_succ])
        refine wpAnyH_take (i := 10) (oi := ?oi10_43x6) (v := ?v10_43x6) ?hi10_43x6 (by kernel_rfl) (by kernel_rfl) (by kernel_rfl) ?hq10_43x6 (Or.inl ⟨?hw10_43x6, ?hy10_43x6⟩) (by assumption) ?rest10_43x6
        case hi10_43x6 => simp only [List.getElem?_toArray, List.getElem?_cons_succ, List.getElem?_cons_zero]; rfl
        case hq10_43x6 => exact fun _ _ _ h => h
        case hw10_43x6 => rfl
        case hy10_43x6 => (intro w hSw; (try dsimp only at hSw); obtain ⟨hs0, hs1⟩ := hSw; go_simp; (try (with_reducible rfl)))
        (try simp only [Act.put, List.setIfInBounds_toArray, List.set_cons_zero, List.set_cons_succ])
        refine wpAnyH_take (i := 11) (oi := ?oi11_43x6) (v := undef) ?hi11_43x6 (by kernel_rfl) (by kernel_rfl) (by kernel_rfl) ?hq11_43x6 (Or.inr ⟨?hw11_43x6, rfl⟩) (by assumption) ?rest11_43x6
        case hi11_43x6 => simp only [List.getElem?_toArray, List.getElem?_cons_succ, List.getElem?_cons_zero]; rfl
        case hq11_43x6 => exact fun _ _ _ h => h
        case hw11_43x6 => rfl
        (try simp only [Act.put, List.setIfInBounds_toArray, List.set_cons_zero, List.set_cons_succ])
        refine wpAnyH_take (i := 12) (oi := ?oi12_43x6) (v := undef) ?hi12_43x6 (by kernel_rfl) (by kernel_rfl) (by kernel_rfl) ?hq12_43x6 (Or.inr ⟨?hw12_43x6, rfl⟩) (by assumption) ?rest12_43x6
        case hi12_43x6 => simp only [List.getElem?_toArray, List.getElem?_cons_succ, List.getElem?_cons_zero]; rfl
        case hq12_43x6 => exact fun _ _ _ h => h
        case hw12_43x6 => rfl
        (try simp only [Act.put, List.setIfInBounds_toArray, List.set_cons_zero, List.set_cons_succ])
        refine wpAnyH_take (i := 13) (oi := ?oi13_43x6) (v := ?v13_43x6) ?hi13_43x6 (by kernel_rfl) (by kernel_rfl) (by kernel_rfl) ?hq13_43x6 (Or.inl ⟨?hw13_43x6, ?hy13_43x6⟩) (by assumption) ?rest13_43x6
        case hi13_43x6 => simp only [List.getElem?_toArray, List.getElem?_cons_succ, List.getElem?_cons_zero]; rfl
        case hq13_43x6 => exact fun _ _ _ h => h
        case hw13_43x6 => rfl
        case hy13_43x6 => (intro w hSw; (try dsimp only at hSw); obtain ⟨hs0, hs1⟩ := hSw; go_simp; (try (with_reducible rfl)))
        (try simp only [Act.put, List.setIfInBounds_toArray, List.set_cons_zero, List.set_cons_succ])
        refine wpAnyH_take (i := 16) (oi := ?oi16_43x6) (v := ?v16_43x6) ?hi16_43x6 (by kernel_rfl) (by kernel_rfl) (by kernel_rfl) ?hq16_43x6 (Or.inl ⟨?hw16_43x6, ?hy16_43x6⟩) (by assumption) ?rest16_43x6
        case hi16_43x6 => simp only [List.getElem?_toArray, List.getElem?_cons_succ, List.getElem?_cons_zero]; rfl
        case hq16_43x6 => exact fun _ _ _ h => h
        case hw16_43x6 => rfl
        case hy16_43x6 => (intro w hSw; (try dsimp only at hSw); obtain ⟨hs0, hs1⟩ := hSw; go_simp; (try (with_reducible rfl)))
        (try simp only [Act.put, List.setIfInBounds_toArray, List.set_cons_zero, List.set_cons_succ])
        refine wpAnyH_ready (rs := [17]) (by kernel_rfl) (by simp) ?_
        refine AllReadyH.cons rfl (fun K' hK' => ?_) AllReadyH.nil
        go_simp
        refine hK'.out _ _ (HS43.out _ (by assumption)) (fun hHeld => ?_)
        clear hK' K'
        (try simp only [Act.put, List.setIfInBounds_toArray, List.set_cons_zero, List.set_cons_succ])
        refine wpAnyH_done (by kernel_rfl) (NoPanic.normal ?_) _
        clear T0 T1 y' f' hHeld
        go_wp2
        exact HD.out _ _ (fin_shut0 K3.out O1.out true true (by rw [HM.out]; rfl) (by rw [HM2.out]; rfl) TA.out.1 TA.out.2 ((Turn.refl _ _).drew)) _ _ _ _ _ _ _ _ _ _ _ _ _ _ _ _ _ _ _ _ _ _ _ _ _ _ _ _ _ _ _ _ _ _ _ _ _ _ _ _ _ _ _ _ _ _ _ _ _ _ _ _ _ _ _ _ _ _ _ _ _ _ _ _ _ _ _ _ _ _ _ _ _ _ _ _ _ _ _ _ _ _ _ _ _ _ _ _ _ _ _ _ _ _ _ _ _ _ _ _ _ _ _ _ _ _ _ _ _ _ _ _ _ _ _ _ _ _ _ _ _ _ _ _ _ _ _ _ _ _ _ _ _ _ _ _ _ _ _ _ _ _ _ _ _ _ _ _ _ _ _ _ _ _ _ _ _ _ _ _ _ _ _ _ _ _ _ _ _ _ _ _ _ _
  · rw [HCL2.out (by rw [s1]; decide)] at cC
    rw [s1] at cC HD ⊢
    have CC := Lib.hid cC
    clear s1 cC
    clear e0 o1
    go_wp2_with (go_at_call 30; (with_reducible refine CC.out.mono ?_); rintro e w3 ⟨rfl, k3, kp3⟩; have K3 := Lib.hid k3; have B3 := Lib.hid (kp3.heap HS.out.2 rfl); clear k3 kp3)
    exact HD.out _ _ ((pst_x K3.out).fewer (fun _ h => h.elim)) _ _ _ _ _ _ _ _ _ _ _ _ _ _ _ _ _ _ _ _ _ _ _ _ _ _ _ _ _ _ _ _ _ _ _ _ _ _ _ _ _ _ _ _ _ _ _ _ _ _ _ _ _ _ _ _ _ _ _ _ _ _ _ _ _ _ _ _ _ _ _ _ _ _ _ _ _ _ _ _ _ _ _ _ _ _ _ _ _ _ _ _ _ _ _ _ _ _ _ _ _ _ _ _ _ _ _ _ _ _ _ _ _ _ _ _ _ _ _ _ _ _ _ _ _ _ _ _ _ _ _ _ _ _ _ _ _ _ _ _ _ _ _ _ _ _ _ _ _ _ _ _ _ _ _ _ _ _ _ _ _ _ _ _ _ _ _ _ _ _ _ _ _ _
  · rw [s1] at cC HD ⊢
    have O1 := Lib.hid o1
    have CC := Lib.hid cC
    clear o1 s1 cC
    go_upto_region 42 with (go_at_call 30; (with_reducible refine CC.out.mono ?_); rintro e w3 ⟨rfl, k3, kp3⟩; have K3 := Lib.hid k3; have B3 := Lib.hid (kp3.heap HS.out.2 rfl); clear k3 kp3)
    clear x0 x1 x2 x3 x4 x5
    obtain ⟨-, z1, -, zA, zB, -⟩ := box_cells B3.out
    have y := K3.out.r.cm 1 (by omega)
    have f := K3.out.r.f (4 + 1)
    simp only [Nat.reduceAdd] at y f
    obtain ⟨m, hm⟩ : ∃ m, M 1 = m := ⟨_, rfl⟩
    rw [hm] at y
    have HM := Lib.hid hm
    obtain ⟨m2, hm2⟩ : ∃ m2, D 1 = m2 := ⟨_, rfl⟩
    have HM2 := Lib.hid hm2
    have hne : B ≠ x := fun e => K3.out.ap B rfl (.inl e)
    have ZB := Lib.hid zB
    clear hm hm2 zB
    cases m
    · have HS42 := Lib.hid (fun W (t : Turn (fun k => k = x) w3 W) => show W.cell? ⟨B, 1, none⟩ = some (.int .i64 1) ∧ W.cell? ⟨B, 3, none⟩ = some (.bool a) from ⟨t.cell z1 hne, t.cell zA hne⟩)
      have T0 : Turn (fun k => k = x) w3 w3.drew := (Turn.refl _ w3).drew
      have T1 := T0.setCell (p := ⟨x, 5, none⟩) (.inl rfl) (.bool a)
      have y' : w3.drew.cell? ⟨x, 5, none⟩ = some (.bool false) := y
      have f' : w3.drew.frozen? ⟨x, 5, none⟩ = false := f
      refine wp_region_noPanic ?_
      refine wp_region_held_drew (S := fun W => W.cell? ⟨B, 1, none⟩ = some (.int .i64 1) ∧ W.cell? ⟨B, 3, none⟩ = some (.bool a)) (by kernel_rfl) (HS42.out _ (by assumption)) (fun hHeld => ?_)
      refine wpAnyH_take (i := 0) (oi := ?oi0_42x7) (v := ?v0_42x7) ?hi0_42x7 (by kernel_rfl) (by kernel_rfl) (by kernel_rfl) ?hq0_42x7 (Or.inl ⟨?hw0_42x7, ?hy0_42x7⟩) (by assumption) ?rest0_42x7
      case hi0_42x7 => simp only [List.getElem?_toArray, List.getElem?_cons_zero]; rfl
      case hq0_42x7 => exact fun _ _ _ h => h
      case hw0_42x7 => rfl
      case hy0_42x7 => (intro w hSw; (try dsimp only at hSw); obtain ⟨hs0, hs1⟩ := hSw; go_simp; (try (with_reducible rfl)))
      (try simp only [Act.put, List.setIfInBounds_toArray, List.set_cons_zero, List.set_cons_succ])
      refine wpAnyH_take (i := 1) (oi := ?oi1_42x7) (v := ?v1_42x7) ?hi1_42x7 (by kernel_rfl) (by kernel_rfl) (by kernel_rfl) ?hq1_42x7 (Or.inl ⟨?hw1_42x7, ?hy1_42x7⟩) (by assumption) ?rest1_42x7
      case hi1_42x7 => simp only [List.getElem?_toArray, List.getElem?_cons_succ, List.getElem?_cons_zero]; rfl
      case hq1_42x7 => exact fun _ _ _ h => h
      case hw1_42x7 => rfl
      case hy1_42x7 => (intro w hSw; (try dsimp only at hSw); obtain ⟨hs0, hs1⟩ := hSw; go_simp; (try (with_reducible rfl)))
      (try simp only [Act.put, List.setIfInBounds_toArray, List.set_cons_zero, List.set_cons_succ])
      refine wpAnyH_take (i := 2) (oi := ?oi2_42x7) (v := ?v2_42x7) ?hi2_42x7 (by kernel_rfl) (by kernel_rfl) (by kernel_rfl) ?hq2_42x7 (Or.inl ⟨?hw2_42x7, ?hy2_42x7⟩) (by assumption) ?rest2_42x7
      case hi2_42x7 => simp only [List.getElem?_toArray, List.getElem?_cons_succ, List.getElem?_cons_zero]; rfl
      case hq2_42x7 => exact fun _ _ _ h => h
      case hw2_42x7 => rfl
      case hy2_42x7 => (intro w hSw; (try dsimp only at hSw); obtain ⟨hs0, hs1⟩ := hSw; go_simp; (try (with_reducible rfl)))
      (try simp only [Act.put, List.setIfInBounds_toArray, List.set_cons_zero, List.set_cons_succ])
      refine wpAnyH_take (i := 3) (oi := ?oi3_42x7) (v := ?v3_42x7) ?hi3_42x7 (by kernel_rfl) (by kernel_rfl) (by kernel_rfl) ?hq3_42x7 (Or.inl ⟨?hw3_42x7, ?hy3_42x7⟩) (by assumption) ?rest3_42x7
      case hi3_42x7 => simp only [List.getElem?_toArray, List.getElem?_cons_succ, List.getElem?_cons_zero]; rfl
      case hq3_42x7 => exact fun _ _ _ h => h
      case hw3_42x7 => rfl
      case hy3_42x7 => (intro w hSw; (try dsimp only at hSw); obtain ⟨hs0, hs1⟩ := hSw; go_simp; (try (with_reducible rfl)))
      (try simp only [Act.put, List.setIfInBounds_toArray, List.set_cons_zero, List.set_cons_succ])
      refine wpAnyH_take (i := 4) (oi := ?oi4_42x7) (v := ?v4_42x7) ?hi4_42x7 (by kernel_rfl) (by kernel_rfl) (by kernel_rfl) ?hq4_42x7 (Or.inl ⟨?hw4_42x7, ?hy4_42x7⟩) (by assumption) ?rest4_42x7
      case hi4_42x7 => simp only [List.getElem?_toArray, List.getElem?_cons_succ, List.getElem?_cons_zero]; rfl
      case hq4_42x7 => exact fun _ _ _ h => h
      case hw4_42x7 => rfl
      case hy4_42x7 => (intro w hSw; (try dsimp only at hSw); obtain ⟨hs0, hs1⟩ := hSw; go_simp; (try (with_reducible rfl)))
      (try simp only [Act.put, List.setIfInBounds_toArray, List.set_cons_zero, List.set_cons_succ])
      refine wpAnyH_take (i := 5) (oi := ?oi5_42x7) (v := ?v5_42x7) ?hi5_42x7 (by kernel_rfl) (by kernel_rfl) (by kernel_rfl) ?hq5_42x7 (Or.inl ⟨?hw5_42x7, ?hy5_42x7⟩) (by assumption) ?rest5_42x7
      case hi5_42x7 => simp only [List.getElem?_toArray, List.getElem?_cons_succ, List.getElem?_cons_zero]; rfl
      case hq5_42x7 => exact fun _ _ _ h => h
      case hw5_42x7 => rfl
      case hy5_42x7 => (intro w hSw; (try dsimp only at hSw); obtain ⟨hs0, hs1⟩ := hSw; go_simp; (try (with_reducible rfl)))
      (try simp only [Act.put, List.setIfInBounds_toArray, List.set_cons_zero, List.set_cons_succ])
      refine wpAnyH_take (i := 6) (oi := ?oi6_42x7) (v := ?v6_42x7) ?hi6_42x7 (by kernel_rfl) (by kernel_rfl) (by kernel_rfl) ?hq6_42x7 (Or.inl ⟨?hw6_42x7, ?hy6_42x7⟩) (by assumption) ?rest6_42x7
      case hi6_42x7 => simp only [List.getElem?_toArray, List.getElem?_cons_succ, List.getElem?_cons_zero]; rfl
      case hq6_42x7 => exact fun _ _ _ h => h
      case hw6_42x7 => rfl
      case hy6_42x7 => (intro w hSw; (try dsimp only at hSw); obtain ⟨hs0, hs1⟩ := hSw; go_simp; (try (with_reducible rfl)))
      (try simp only [Act.put, List.setIfInBounds_toArray, List.set_cons_zero, List.set_cons_succ])
      refine wpAnyH_take (i := 7) (oi := ?oi7_42x7) (v := ?v7_42x7) ?hi7_42x7 (by kernel_rfl) (by kernel_rfl) (by kernel_rfl) ?hq7_42x7 (Or.inl ⟨?hw7_42x7, ?hy7_42x7⟩) (by assumption) ?rest7_42x7
      case hi7_42x7 => simp only [List.getElem?_toArray, List.getElem?_cons_succ, List.getElem?_cons_zero]; rfl
      case hq7_42x7 => exact fun _ _ _ h => h
      case hw7_42x7 => rfl
      case hy7_42x7 => (intro w hSw; (try dsimp only at hSw); obtain ⟨hs0, hs1⟩ := hSw; go_simp; (try (with_reducible rfl)))
      (try simp only [Act.put, List.setIfInBounds_toArray, List.set_cons_zero, List.set_cons_succ])
      refine wpAnyH_take (i := 8) (oi := ?oi8_42x7) (v := ?v8_42x7) ?hi8_42x7 (by kernel_rfl) (by kernel_rfl) (by kernel_rfl) ?hq8_42x7 (Or.inl ⟨?hw8_42x7, ?hy8_42x7⟩) (by assumption) ?rest8_42x7
      case hi8_42x7 => simp only [List.getElem?_toArray, List.getElem?_cons_succ, List.getElem?_cons_zero]; rfl
      case hq8_42x7 => exact fun _ _ _ h => h
      case hw8_42x7 => rfl
      case hy8_42x7 => (intro w hSw; (try dsimp only at hSw); obtain ⟨hs0, hs1⟩ := hSw; go_simp; (try (with_reducible rfl)))
      (try simp only [Act.put, List.setIfInBounds_toArray, List.set_cons_zero, List.set_cons_succ])
      refine wpAnyH_take (i := 14) (oi := ?oi14_42x7) (v := ?v14_42x7) ?hi14_42x7 (by kernel_rfl) (by kernel_rfl) (by kernel_rfl) ?hq14_42x7 (Or.inl ⟨?hw14_42x7, ?hy14_42x7⟩) (by assumption) ?rest14_42x7
      case hi14_42x7 => simp only [List.getElem?_toArray, List.getElem?_cons_succ, List.getElem?_cons_zero]; rfl
      case hq14_42x7 => exact fun _ _ _ h => h
      case hw14_42x7 => rfl
      case hy14_42x7 => (intro w hSw; (try dsimp only at hSw); obtain ⟨hs0, hs1⟩ := hSw; go_simp; (try (with_reducible rfl)))
      (try simp only [Act.put, List.setIfInBounds_toArray, List.set_cons_zero, List.set_cons_succ])
      refine wpAnyH_take (i := 15) (oi := ?oi15_42x7) (v := ?v15_42x7) ?hi15_42x7 (by kernel_rfl) (by kernel_rfl) (by kernel_rfl) ?hq15_42x7 (Or.inl ⟨?hw15_42x7, ?hy15_42x7⟩) (by assumption) ?rest15_42x7
      case hi15_42x7 => simp only [List.getElem?_toArray, List.getElem?_cons_succ, List.getElem?_cons_zero]; rfl
      case hq15_42x7 => exact fun _ _ _ h => h
      case hw15_42x7 => rfl
      case hy15_42x7 => (intro w hSw; (try dsimp only at hSw); obtain ⟨hs0, hs1⟩ := hSw; go_simp; (try (with_reducible rfl)))
      (try simp only [Act.put, List.setIfInBounds_toArray, List.set_cons_zero, List.set_cons_succ])
      refine wpAnyH_ready (rs := [9]) (by kernel_rfl) (by simp) ?_
      refine AllReadyH.cons rfl (fun K' hK' => ?_) AllReadyH.nil
      go_simp
      refine hK'.out _ _ (HS42.out _ (by assumption)) (fun hHeld => ?_)
      clear hK' K'
      (try simp only [Act.put, List.setIfInBounds_toArray, List.set_cons_zero, List.set_cons_succ])
      refine wpAnyH_take (i := 10) (oi := ?oi10_42x7) (v := ?v10_42x7) ?hi10_42x7 (by kernel_rfl) (by kernel_rfl) (by kernel_rfl) ?hq10_42x7 (Or.inl ⟨?hw10_42x7, ?hy10_42x7⟩) (by assumption) ?rest10_42x7
      case hi10_42x7 => simp only [List.getElem?_toArray, List.getElem?_cons_succ, List.getElem?_cons_zero]; rfl
      case hq10_42x7 => exact fun _ _ _ h => h
      case hw10_42x7 => rfl
      case hy10_42x7 => (intro w hSw; (try dsimp only at hSw); obtain ⟨hs0, hs1⟩ := hSw; go_simp; (try (with_reducible rfl)))
      (try simp only [Act.put, List.setIfInBounds_toArray, List.set_cons_zero, List.set_cons_succ])
      refine wpAnyH_take (i := 11) (oi := ?oi11_42x7) (v := ?v11_42x7) ?hi11_42x7 (by kernel_rfl) (by kernel_rfl) (by kernel_rfl) ?hq11_42x7 (Or.inl ⟨?hw11_42x7, ?hy11_42x7⟩) (by assumption) ?rest11_42x7
      case hi11_42x7 => simp only [List.getElem?_toArray, List.getElem?_cons_succ, List.getElem?_cons_zero]; rfl
      case hq11_42x7 => exact fun _ _ _ h => h
      case hw11_42x7 => rfl
      case hy11_42x7 => (intro w hSw; (try dsimp only at hSw); obtain ⟨hs0, hs1⟩ := hSw; go_simp; (try (with_reducible rfl)))
      (try simp only [Act.put, List.setIfInBounds_toArray, List.set_cons_zero, List.set_cons_succ])
      refine wpAnyH_take (i := 12) (oi := ?oi12_42x7) (v := ?v12_42x7) ?hi12_42x7 (by kernel_rfl) (by kernel_rfl) (by kernel_rfl) ?hq12_42x7 (Or.inl ⟨?hw12_42x7, ?hy12_42x7⟩) (by assumption) ?rest12_42x7
      case hi12_42x7 => simp only [List.getElem?_toArray, List.getElem?_cons_succ, List.getElem?_cons_zero]; rfl
      case hq12_42x7 => exact fun _ _ _ h => h
      case hw12_42x7 => rfl
      case hy12_42x7 => (intro w hSw; (try dsimp only at hSw); obtain ⟨hs0, hs1⟩ := hSw; go_simp; (try (with_reducible rfl)))
      (try simp only [Act.put, List.setIfInBounds_toArray, List.set_cons_zero, List.set_cons_succ])
      refine wpAnyH_take (i := 13) (oi := ?oi13_42x7) (v := ?v13_42x7) ?hi13_42x7 (by kernel_rfl) (by kernel_rfl) (by kernel_rfl) ?hq13_42x7 (Or.inl ⟨?hw13_42x7, ?hy13_42x7⟩) (by assumption) ?rest13_42x7
      case hi13_42x7 => simp only [List.getElem?_toArray, List.getElem?_cons_succ, List.getElem?_cons_zero]; rfl
      case hq13_42x7 => exact fun _ _ _ h => h
      case hw13_42x7 => rfl
      case hy13_42x7 => (intro w hSw; (try dsimp only at hSw); obtain ⟨hs0, hs1⟩ := hSw; go_simp; (try (with_reducible rfl)))
      (try simp only [Act.put, List.setIfInBounds_toArray, List.set_cons_zero, List.set_cons_succ])
      refine wpAnyH_take (i := 16) (oi := ?oi16_42x7) (v := ?v16_42x7) ?hi16_42x7 (by kernel_rfl) (by kernel_rfl) (by kernel_rfl) ?hq16_42x7 (Or.inl ⟨?hw16_42x7, ?hy16_42x7⟩) (by assumption) ?rest16_42x7
      case hi16_42x7 => simp only [List.getElem?_toArray, List.getElem?_cons_succ, List.getElem?_cons_zero]; rfl
      case hq16_42x7 => exact fun _ _ _ h => h
      case hw16_42x7 => rfl
      case hy16_42x7 => (intro w hSw; (try dsimp only at hSw); obtain ⟨hs0, hs1⟩ := hSw; go_simp; (try (with_reducible rfl)))
      (try simp only [Act.put, List.setIfInBounds_toArray, List.set_cons_zero, List.set_cons_succ])
      refine wpAnyH_ready (rs := [17]) (by kernel_rfl) (by simp) ?_
      refine AllReadyH.cons rfl (fun K' hK' => ?_) AllReadyH.nil
      go_simp
      refine hK'.out _ _ (HS42.out _ (by assumption)) (fun hHeld => ?_)
      clear hK' K'
      (try simp only [Act.put, List.setIfInBounds_toArray, List.set_cons_zero, List.set_cons_succ])
      refine wpAnyH_done (by kernel_rfl) (NoPanic.normal ?_) _
      clear T0 T1 y' f' hHeld
      have TA := Lib.hid (show Turn NoBlock w3 w3 ∧ Turn NoBlock (w3.setCell ⟨x, 4 + 1, none⟩ (.bool a)) ((w3.setCell ⟨x, 5, none⟩ (.bool a)).drew) from ⟨(Turn.refl _ _), ((Turn.refl _ _).drew)⟩)
      have TX := Lib.hid (show Turn (fun k => k = x) w3 ((w3.setCell ⟨x, 5, none⟩ (.bool a)).drew) from turn_one rfl TA.out.1 TA.out.2)
      have RA := Lib.hid (((K3.out.r.past TA.out.1).setM (e := 1) (by omega) a).past TA.out.2)
      generalize (w3.setCell ⟨x, 5, none⟩ (.bool a)).drew = wA at *
      have z1' := TX.out.cell z1 hne
      have zB' := TX.out.cell ZB.out hne
      have y2 := RA.out.cd 1 (by omega)
      have f2 := RA.out.f (6 + 1)
      clear z1 zA y f
      try clear HS42
      have z1 := z1'
      have zA := zB'
      have y := y2
      have f := f2
      clear z1' zB' y2 f2
      rw [HM2.out] at y
      simp only [Nat.reduceAdd] at y f
      go_wp2
      cases m2
      · have HS43 := Lib.hid (fun W (t : Turn (fun k => k = x) wA W) => show W.cell? ⟨B, 1, none⟩ = some (.int .i64 1) ∧ W.cell? ⟨B, 4, none⟩ = some (.bool b) from ⟨t.cell z1 hne, t.cell zA hne⟩)
        have T0 : Turn (fun k => k = x) wA wA.drew := (Turn.refl _ wA).drew
        have T1 := T0.setCell (p := ⟨x, 7, none⟩) (.inl rfl) (.bool b)
        have y' : wA.drew.cell? ⟨x, 7, none⟩ = some (.bool false) := y
        have f' : wA.drew.frozen? ⟨x, 7, none⟩ = false := f
        refine wp_region_noPanic ?_
        refine wp_region_held_drew (S := fun W => W.cell? ⟨B, 1, none⟩ = some (.int .i64 1) ∧ W.cell? ⟨B, 4, none⟩ = some (.bool b)) (by kernel_rfl) (HS43.out _ (by assumption)) (fun hHeld => ?_)
        refine wpAnyH_take (i := 0) (oi := ?oi0_43x8) (v := ?v0_43x8) ?hi0_43x8 (by kernel_rfl) (by kernel_rfl) (by kernel_rfl) ?hq0_43x8 (Or.inl ⟨?hw0_43x8, ?hy0_43x8⟩) (by assumption) ?rest0_43x8
        case hi0_43x8 => simp only [List.getElem?_toArray, List.getElem?_cons_zero]; rfl
        case hq0_43x8 => exact fun _ _ _ h => h
        case hw0_43x8 => rfl
        case hy0_43x8 => (intro w hSw; (try dsimp only at hSw); obtain ⟨hs0, hs1⟩ := hSw; go_simp; (try (with_reducible rfl)))
        (try simp only [Act.put, List.setIfInBounds_toArray, List.set_cons_zero, List.set_cons_succ])
        refine wpAnyH_take (i := 1) (oi := ?oi1_43x8) (v := ?v1_43x8) ?hi1_43x8 (by kernel_rfl) (by kernel_rfl) (by kernel_rfl) ?hq1_43x8 (Or.inl ⟨?hw1_43x8, ?hy1_43x8⟩) (by assumption) ?rest1_43x8
        case hi1_43x8 => simp only [List.getElem?_toArray, List.getElem?_cons_succ, List.getElem?_cons_zero]; rfl
        case hq1_43x8 => exact fun _ _ _ h => h
        case hw1_43x8 => rfl
        case hy1_43x8 => (intro w hSw; (try dsimp only at hSw); obtain ⟨hs0, hs1⟩ := hSw; go_simp; (try (with_reducible rfl)))
        (try simp only [Act.put, List.setIfInBounds_toArray, List.set_cons_zero, List.set_cons_succ])
        refine wpAnyH_take (i := 2) (oi := ?oi2_43x8) (v := ?v2_43x8) ?hi2_43x8 (by kernel_rfl) (by kernel_rfl) (by kernel_rfl) ?hq2_43x8 (Or.inl ⟨?hw2_43x8, ?hy2_43x8⟩) (by assumption) ?rest2_43x8
        case hi2_43x8 => simp only [List.getElem?_toArray, List.getElem?_cons_succ, List.getElem?_cons_zero]; rfl
        case hq2_43x8 => exact fun _ _ _ h => h
        case hw2_43x8 => rfl
        case hy2_43x8 => (intro w hSw; (try dsimp only at hSw); obtain ⟨hs0, hs1⟩ := hSw; go_simp; (try (with_reducible rfl)))
        (try simp only [Act.put, List.setIfInBounds_toArray, List.set_cons_zero, List.set_cons_succ])
        refine wpAnyH_take (i := 3) (oi := ?oi3_43x8) (v := ?v3_43x8) ?hi3_43x8 (by kernel_rfl) (by kernel_rfl) (by kernel_rfl) ?hq3_43x8 (Or.inl ⟨?hw3_43x8, ?hy3_43x8⟩) (by assumption) ?rest3_43x8
        case hi3_43x8 => simp only [List.getElem?_toArray, List.getElem?_cons_succ, List.getElem?_cons_zero]; rfl
        case hq3_43x8 => exact fun _ _ _ h => h
        case hw3_43x8 => rfl
        case hy3_43x8 => (intro w hSw; (try dsimp only at hSw); obtain ⟨hs0, hs1⟩ := hSw; go_simp; (try (with_reducible rfl)))
        (try simp only [Act.put, List.setIfInBounds_toArray, List.set_cons_zero, List.set_cons_succ])
        refine wpAnyH_take (i := 4) (oi := ?oi4_43x8) (v := ?v4_43x8) ?hi4_43x8 (by kernel_rfl) (by kernel_rfl) (by kernel_rfl) ?hq4_43x8 (Or.inl ⟨?hw4_43x8, ?hy4_43x8⟩) (by assumption) ?rest4_43x8
        case hi4_43x8 => simp only [List.getElem?_toArray, List.getElem?_cons_succ, List.getElem?_cons_zero]; rfl
        case hq4_43x8 => exact fun _ _ _ h => h
        case hw4_43x8 => rfl
        case hy4_43x8 => (intro w hSw; (try dsimp only at hSw); obtain ⟨hs0, hs1⟩ := hSw; go_simp; (try (with_reducible rfl)))
        (try simp only [Act.put, List.setIfInBounds_toArray, List.set_cons_zero, List.set_cons_succ])
        refine wpAnyH_take (i := 5) (oi := ?oi5_43x8) (v := ?v5_43x8) ?hi5_43x8 (by kernel_rfl) (by kernel_rfl) (by kernel_rfl) ?hq5_43x8 (Or.inl ⟨?hw5_43x8, ?hy5_43x8⟩) (by assumption) ?rest5_43x8
        case hi5_43x8 => simp only [List.getElem?_toArray, List.getElem?_cons_succ, List.getElem?_cons_zero]; rfl
        case hq5_43x8 => exact fun _ _ _ h => h
        case hw5_43x8 => rfl
        case hy5_43x8 => (intro w hSw; (try dsimp only at hSw); obtain ⟨hs0, hs1⟩ := hSw; go_simp; (try (with_reducible rfl)))
        (try simp only [Act.put, List.setIfInBounds_toArray, List.set_cons_zero, List.set_cons_succ])
        refine wpAnyH_take (i := 6) (oi := ?oi6_43x8) (v := ?v6_43x8) ?hi6_43x8 (by kernel_rfl) (by kernel_rfl) (by kernel_rfl) ?hq6_43x8 (Or.inl ⟨?hw6_43x8, ?hy6_43x8⟩) (by assumption) ?rest6_43x8
        case hi6_43x8 => simp only [List.getElem?_toArray, List.getElem?_cons_succ, List.getElem?_cons_zero]; rfl
        case hq6_43x8 => exact fun _ _ _ h => h
        case hw6_43x8 => rfl
        case hy6_43x8 => (intro w hSw; (try dsimp only at hSw); obtain ⟨hs0, hs1⟩ := hSw; go_simp; (try (with_reducible rfl)))
        (try simp only [Act.put, List.setIfInBounds_toArray, List.set_cons_zero, List.set_cons_succ])
        refine wpAnyH_take (i := 7) (oi := ?oi7_43x8) (v := ?v7_43x8) ?hi7_43x8 (by kernel_rfl) (by kernel_rfl) (by kernel_rfl) ?hq7_43x8 (Or.inl ⟨?hw7_43x8, ?hy7_43x8⟩) (by assumption) ?rest7_43x8
        case hi7_43x8 => simp only [List.getElem?_toArray, List.getElem?_cons_succ, List.getElem?_cons_zero]; rfl
        case hq7_43x8 => exact fun _ _ _ h => h
        case hw7_43x8 => rfl
        case hy7_43x8 => (intro w hSw; (try dsimp only at hSw); obtain ⟨hs0, hs1⟩ := hSw; go_simp; (try (with_reducible rfl)))
        (try simp only [Act.put, List.setIfInBounds_toArray, List.set_cons_zero, List.set_cons_succ])
        refine wpAnyH_take (i := 8) (oi := ?oi8_43x8) (v := ?v8_43x8) ?hi8_43x8 (by kernel_rfl) (by kernel_rfl) (by kernel_rfl) ?hq8_43x8 (Or.inl ⟨?hw8_43x8, ?hy8_43x8⟩) (by assumption) ?rest8_43x8
        case hi8_43x8 => simp only [List.getElem?_toArray, List.getElem?_cons_succ, List.getElem?_cons_zero]; rfl
        case hq8_43x8 => exact fun _ _ _ h => h
        case hw8_43x8 => rfl
        case hy8_43x8 => (intro w hSw; (try dsimp only at hSw); obtain ⟨hs0, hs1⟩ := hSw; go_simp; (try (with_reducible rfl)))
        (try simp only [Act.put, List.setIfInBounds_toArray, List.set_cons_zero, List.set_cons_succ])
        refine wpAnyH_take (i := 14) (oi := ?oi14_43x8) (v := ?v14_43x8) ?hi14_43x8 (by kernel_rfl) (by kernel_rfl) (by kernel_rfl) ?hq14_43x8 (Or.inl ⟨?hw14_43x8, ?hy14_43x8⟩) (by assumption) ?rest14_43x8
        case hi14_43x8 => simp only [List.getElem?_toArray, List.getElem?_cons_succ, List.getElem?_cons_zero]; rfl
        case hq14_43x8 => exact fun _ _ _ h => h
        case hw14_43x8 => rfl
        case hy14_43x8 => (intro w hSw; (try dsimp only at hSw); obtain ⟨hs0, hs1⟩ := hSw; go_simp; (try (with_reducible rfl)))
        (try simp only [Act.put, List.setIfInBounds_toArray, List.set_cons_zero, List.set_cons_succ])
        refine wpAnyH_take (i := 15) (oi := ?oi15_43x8) (v := ?v15_43x8) ?hi15_43x8 (by kernel_rfl) (by kernel_rfl) (by kernel_rfl) ?hq15_43x8 (Or.inl ⟨?hw15_43x8, ?hy15_43x8⟩) (by assumption) ?rest15_43x8
        case hi15_43x8 => simp only [List.getElem?_toArray, List.getElem?_cons_succ, List.getElem?_cons_zero]; rfl
        case hq15_43x8 => exact fun _ _ _ h => h
        case hw15_43x8 => rfl
        case hy15_43x8 => (intro w hSw; (try dsimp only at hSw); obtain ⟨hs0, hs1⟩ := hSw; go_simp; (try (with_reducible rfl)))
        (try simp only [Act.put, List.setIfInBounds_toArray, List.set_cons_zero, List.set_cons_succ])
        refine wpAnyH_ready (rs := [9]) (by kernel_rfl) (by simp) ?_
        refine AllReadyH.cons rfl (fun K' hK' => ?_) AllReadyH.nil
        go_simp
        refine hK'.out _ _ (HS43.out _ (by assumption)) (fun hHeld => ?_)
        clear hK' K'
        (try simp only [Act.put, List.setIfInBounds_toArray, List.set_cons_zero, List.set_cons_succ])
        refine wpAnyH_take (i := 10) (oi := ?oi10_43x8) (v := ?v10_43x8) ?hi10_43x8 (by kernel_rfl) (by kernel_rfl) (by kernel_rfl) ?hq10_43x8 (Or.inl ⟨?hw10_43x8, ?hy10_43x8⟩) (by assumption) ?rest10_43x8
        case hi10_43x8 => simp only [List.getElem?_toArray, List.getElem?_cons_succ, List.getElem?_cons_zero]; rfl
        case hq10_43x8 => exact fun _ _ _ h => h
        case hw10_43x8 => rfl
        case hy10_43x8 => (intro w hSw; (try dsimp only at hSw); obtain ⟨hs0, hs1⟩ := hSw; go_simp; (try (with_reducible rfl)))
        (try simp only [Act.put, List.setIfInBounds_toArray, List.set_cons_zero, List.set_cons_succ])
        refine wpAnyH_take (i := 11) (oi := ?oi11_43x8) (v := ?v11_43x8) ?hi11_43x8 (by kernel_rfl) (by kernel_rfl) (by kernel_rfl) ?hq11_43x8 (Or.inl ⟨?hw11_43x8, ?hy11_43x8⟩) (by assumption) ?rest11_43x8
        case hi11_43x8 => simp only [List.getElem?_toArray, List.getElem?_cons_succ, List.getElem?_cons_zero]; rfl
        case hq11_43x8 => exact fun _ _ _ h => h
        case hw11_43x8 => rfl
        case hy11_43x8 => (intro w hSw; (try dsimp only at hSw); obtain ⟨hs0, hs1⟩ := hSw; go_simp; (try (with_reducible rfl)))
        (try simp only [Act.put, List.setIfInBounds_toArray, List.set_cons_zero, List.set_cons_succ])
        refine wpAnyH_take (i := 12) (oi := ?oi12_43x8) (v := ?v12_43x8) ?hi12_43x8 (by kernel_rfl) (by kernel_rfl) (by kernel_rfl) ?hq12_43x8 (Or.inl ⟨?hw12_43x8, ?hy12_43x8⟩) (by assumption) ?rest12_43x8
        case hi12_43x8 => simp only [List.getElem?_toArray, List.getElem?_cons_succ, List.getElem?_cons_zero]; rfl
        case hq12_43x8 => exact fun _ _ _ h => h
        case hw12_43x8 => rfl
        case hy12_43x8 => (intro w hSw; (try dsimp only at hSw); obtain ⟨hs0, hs1⟩ := hSw; go_simp; (try (with_reducible rfl)))
        (try simp only [Act.put, List.setIfInBounds_toArray, List.set_cons_zero, List.set_cons_succ])
        refine wpAnyH_take (i := 13) (oi := ?oi13_43x8) (v := ?v13_43x8) ?hi13_43x8 (by kernel_rfl) (by kernel_rfl) (by kernel_rfl) ?hq13_43x8 (Or.inl ⟨?hw13_43x8, ?hy13_43x8⟩) (by assumption) ?rest13_43x8
        case hi13_43x8 => simp only [List.getElem?_toArray, List.getElem?_cons_succ, List.getElem?_cons_zero]; rfl
        case hq13_43x8 => exact fun _ _ _ h => h
        case hw13_43x8 => rfl
        case hy13_43x8 => (intro w hSw; (try dsimp only at hSw); obtain ⟨hs0, hs1⟩ := hSw; go_simp; (try (with_reducible rfl)))
        (try simp only [Act.put, List.setIfInBounds_toArray, List.set_cons_zero, List.set_cons_succ])
        refine wpAnyH_take (i := 16) (oi := ?oi16_43x8) (v := ?v16_43x8) ?hi16_43x8 (by kernel_rfl) (by kernel_rfl) (by kernel_rfl) ?hq16_43x8 (Or.inl ⟨?hw16_43x8, ?hy16_43x8⟩) (by assumption) ?rest16_43x8
        case hi16_43x8 => simp only [List.getElem?_toArray, List.getElem?_cons_succ, List.getElem?_cons_zero]; rfl
        case hq16_43x8 => exact fun _ _ _ h => h
        case hw16_43x8 => rfl
        case hy16_43x8 => (intro w hSw; (try dsimp only at hSw); obtain ⟨hs0, hs1⟩ := hSw; go_simp; (try (with_reducible rfl)))
        (try simp only [Act.put, List.setIfInBounds_toArray, List.set_cons_zero, List.set_cons_succ])
        refine wpAnyH_ready (rs := [17]) (by kernel_rfl) (by simp) ?_
        refine AllReadyH.cons rfl (fun K' hK' => ?_) AllReadyH.nil
        go_simp
        refine hK'.out _ _ (HS43.out _ (by assumption)) (fun hHeld => ?_)
        clear hK' K'
        (try simp only [Act.put, List.setIfInBounds_toArray, List.set_cons_zero, List.set_cons_succ])
        refine wpAnyH_done (by kernel_rfl) (NoPanic.normal ?_) _
        clear T0 T1 y' f' hHeld
        go_wp2
        exact HD.out _ _ (fin_shut1 K3.out O1.out a b (by rw [HM.out]; rfl) (by rw [HM2.out]; rfl) TA.out.1 TA.out.2 ((Turn.refl _ _).drew)) _ _ _ _ _ _ _ _ _ _ _ _ _ _ _ _ _ _ _ _ _ _ _ _ _ _ _ _ _ _ _ _ _ _ _ _ _ _ _ _ _ _ _ _ _ _ _ _ _ _ _ _ _ _ _ _ _ _ _ _ _ _ _ _ _ _ _ _ _ _ _ _ _ _ _ _ _ _ _ _ _ _ _ _ _ _ _ _ _ _ _ _ _ _ _ _ _ _ _ _ _ _ _ _ _ _ _ _ _ _ _ _ _ _ _ _ _ _ _ _ _ _ _ _ _ _ _ _ _ _ _ _ _ _ _ _ _ _ _ _ _ _ _ _ _ _ _ _ _ _ _ _ _ _ _ _ _ _ _ _ _ _ _ _ _ _ _ _ _ _ _ _ _ _
      · have HS43 := Lib.hid (fun W (t : Turn (fun k => k = x) wA W) => show W.cell? ⟨B, 1, none⟩ = some (.int .i64 1) ∧ W.cell? ⟨B, 4, none⟩ = some (.bool b) from ⟨t.cell z1 hne, t.cell zA hne⟩)
        have T0 : Turn (fun k => k = x) wA wA.drew := (Turn.refl _ wA).drew
        have T1 := T0.setCell (p := ⟨x, 7, none⟩) (.inl rfl) (.bool true)
        have y' : wA.drew.cell? ⟨x, 7, none⟩ = some (.bool true) := y
        have f' : wA.drew.frozen? ⟨x, 7, none⟩ = false := f
        refine wp_region_noPanic ?_
        refine wp_region_held_drew (S := fun W => W.cell? ⟨B, 1, none⟩ = some (.int .i64 1) ∧ W.cell? ⟨B, 4, none⟩ = some (.bool b)) (by kernel_rfl) (HS43.out _ (by assumption)) (fun hHeld => ?_)
        refine wpAnyH_take (i := 0) (oi := ?oi0_43x9) (v := ?v0_43x9) ?hi0_43x9 (by kernel_rfl) (by kernel_rfl) (by kernel_rfl) ?hq0_43x9 (Or.inl ⟨?hw0_43x9, ?hy0_43x9⟩) (by assumption) ?rest0_43x9
        case hi0_43x9 => simp only [List.getElem?_toArray, List.getElem?_cons_zero]; rfl
        case hq0_43x9 => exact fun _ _ _ h => h
        case hw0_43x9 => rfl
        case hy0_43x9 => (intro w hSw; (try dsimp only at hSw); obtain ⟨hs0, hs1⟩ := hSw; go_simp; (try (with_reducible rfl)))
        (try simp only [Act.put, List.setIfInBounds_toArray, List.set_cons_zero, List.set_cons_succ])
        refine wpAnyH_take (i := 1) (oi := ?oi1_43x9) (v := ?v1_43x9) ?hi1_43x9 (by kernel_rfl) (by kernel_rfl) (by kernel_rfl) ?hq1_43x9 (Or.inl ⟨?hw1_43x9, ?hy1_43x9⟩) (by assumption) ?rest1_43x9
        case hi1_43x9 => simp only [List.getElem?_toArray, List.getElem?_cons_succ, List.getElem?_cons_zero]; rfl
        case hq1_43x9 => exact fun _ _ _ h => h
        case hw1_43x9 => rfl
        case hy1_43x9 => (intro w hSw; (try dsimp only at hSw); obtain ⟨hs0, hs1⟩ := hSw; go_simp; (try (with_reducible rfl)))
        (try simp only [Act.put, List.setIfInBounds_toArray, List.set_cons_zero, List.set_cons_succ])
        refine wpAnyH_take (i := 2) (oi := ?oi2_43x9) (v := ?v2_43x9) ?hi2_43x9 (by kernel_rfl) (by kernel_rfl) (by kernel_rfl) ?hq2_43x9 (Or.inl ⟨?hw2_43x9, ?hy2_43x9⟩) (by assumption) ?rest2_43x9
        case hi2_43x9 => simp only [List.getElem?_toArray, List.getElem?_cons_succ, List.getElem?_cons_zero]; rfl
        case hq2_43x9 => exact fun _ _ _ h => h
        case hw2_43x9 => rfl
        case hy2_43x9 => (intro w hSw; (try dsimp only at hSw); obtain ⟨hs0, hs1⟩ := hSw; go_simp; (try (with_reducible rfl)))
        (try simp only [Act.put, List.setIfInBounds_toArray, List.set_cons_zero, List.set_cons_succ])
        refine wpAnyH_take (i := 3) (oi := ?oi3_43x9) (v := ?v3_43x9) ?hi3_43x9 (by kernel_rfl) (by kernel_rfl) (by kernel_rfl) ?hq3_43x9 (Or.inl ⟨?hw3_43x9, ?hy3_43x9⟩) (by assumption) ?rest3_43x9
        case hi3_43x9 => simp only [List.getElem?_toArray, List.getElem?_cons_succ, List.getElem?_cons_zero]; rfl
        case hq3_43x9 => exact fun _ _ _ h => h
        case hw3_43x9 => rfl
        case hy3_43x9 => (intro w hSw; (try dsimp only at hSw); obtain ⟨hs0, hs1⟩ := hSw; go_simp; (try (with_reducible rfl)))
        (try simp only [Act.put, List.setIfInBounds_toArray, List.set_cons_zero, List.set_cons_succ])
        refine wpAnyH_take (i := 4) (oi := ?oi4_43x9) (v := ?v4_43x9) ?hi4_43x9 (by kernel_rfl) (by kernel_rfl) (by kernel_rfl) ?hq4_43x9 (Or.inl ⟨?hw4_43x9, ?hy4_43x9⟩) (by assumption) ?rest4_43x9
        case hi4_43x9 => simp only [List.getElem?_toArray, List.getElem?_cons_succ, List.getElem?_cons_zero]; rfl
        case hq4_43x9 => exact fun _ _ _ h => h
        case hw4_43x9 => rfl
        case hy4_43x9 => (intro w hSw; (try dsimp only at hSw); obtain ⟨hs0, hs1⟩ := hSw; go_simp; (try (with_reducible rfl)))
        (try simp only [Act.put, List.setIfInBounds_toArray, List.set_cons_zero, List.set_cons_succ])
        refine wpAnyH_take (i := 5) (oi := ?oi5_43x9) (v := ?v5_43x9) ?hi5_43x9 (by kernel_rfl) (by kernel_rfl) (by kernel_rfl) ?hq5_43x9 (Or.inl ⟨?hw5_43x9, ?hy5_43x9⟩) (by assumption) ?rest5_43x9
        case hi5_43x9 => simp only [List.getElem?_toArray, List.getElem?_cons_succ, List.getElem?_cons_zero]; rfl
        case hq5_43x9 => exact fun _ _ _ h => h
        case hw5_43x9 => rfl
        case hy5_43x9 => (intro w hSw; (try dsimp only at hSw); obtain ⟨hs0, hs1⟩ := hSw; go_simp; (try (with_reducible rfl)))
        (try simp only [Act.put, List.setIfInBounds_toArray, List.set_cons_zero, List.set_cons_succ])
        refine wpAnyH_take (i := 6) (oi := ?oi6_43x9) (v := ?v6_43x9) ?hi6_43x9 (by kernel_rfl) (by kernel_rfl) (by kernel_rfl) ?hq6_43x9 (Or.inl ⟨?hw6_43x9, ?hy6_43x9⟩) (by assumption) ?rest6_43x9
        case hi6_43x9 => simp only [List.getElem?_toArray, List.getElem?_cons_succ, List.getElem?_cons_zero]; rfl
        case hq6_43x9 => exact fun _ _ _ h => h
        case hw6_43x9 => rfl
        case hy6_43x9 => (intro w hSw; (try dsimp only at hSw); obtain ⟨hs0, hs1⟩ := hSw; go_simp; (try (with_reducible rfl)))
        (try simp only [Act.put, List.setIfInBounds_toArray, List.set_cons_zero, List.set_cons_succ])
        refine wpAnyH_take (i := 7) (oi := ?oi7_43x9) (v := ?v7_43x9) ?hi7_43x9 (by kernel_rfl) (by kernel_rfl) (by kernel_rfl) ?hq7_43x9 (Or.inl ⟨?hw7_43x9, ?hy7_43x9⟩) (by assumption) ?rest7_43x9
        case hi7_43x9 => simp only [List.getElem?_toArray, List.getElem?_cons_succ, List.getElem?_cons_zero]; rfl
        case hq7_43x9 => exact fun _ _ _ h => h
        case hw7_43x9 => rfl
        case hy7_43x9 => (intro w hSw; (try dsimp only at hSw); obtain ⟨hs0, hs1⟩ := hSw; go_simp; (try (with_reducible rfl)))
        (try simp only [Act.put, List.setIfInBounds_toArray, List.set_cons_zero, List.set_cons_succ])
        refine wpAnyH_take (i := 8) (oi := ?oi8_43x9) (v := ?v8_43x9) ?hi8_43x9 (by kernel_rfl) (by kernel_rfl) (by kernel_rfl) ?hq8_43x9 (Or.inl ⟨?hw8_43x9, ?hy8_43x9⟩) (by assumption) ?rest8_43x9
        case hi8_43x9 => simp only [List.getElem?_toArray, List.getElem?_cons_succ, List.getElem?_cons_zero]; rfl
        case hq8_43x9 => exact fun _ _ _ h => h
        case hw8_43x9 => rfl
        case hy8_43x9 => (intro w hSw; (try dsimp only at hSw); obtain ⟨hs0, hs1⟩ := hSw; go_simp; (try (with_reducible rfl)))
        (try simp only [Act.put, List.setIfInBounds_toArray, List.set_cons_zero, List.set_cons_succ])
        refine wpAnyH_take (i := 14) (oi := ?oi14_43x9) (v := ?v14_43x9) ?hi14_43x9 (by kernel_rfl) (by kernel_rfl) (by kernel_rfl) ?hq14_43x9 (Or.inl ⟨?hw14_43x9, ?hy14_43x9⟩) (by assumption) ?rest14_43x9
        case hi14_43x9 => simp only [List.getElem?_toArray, List.getElem?_cons_succ, List.getElem?_cons_zero]; rfl
        case hq14_43x9 => exact fun _ _ _ h => h
        case hw14_43x9 => rfl
        case hy14_43x9 => (intro w hSw; (try dsimp only at hSw); obtain ⟨hs0, hs1⟩ := hSw; go_simp; (try (with_reducible rfl)))
        (try simp only [Act.put, List.setIfInBounds_toArray, List.set_cons_zero, List.set_cons_succ])
        refine wpAnyH_take (i := 15) (oi := ?oi15_43x9) (v := ?v15_43x9) ?hi15_43x9 (by kernel_rfl) (by kernel_rfl) (by kernel_rfl) ?hq15_43x9 (Or.inl ⟨?hw15_43x9, ?hy15_43x9⟩) (by assumption) ?rest15_43x9
        case hi15_43x9 => simp only [List.getElem?_toArray, List.getElem?_cons_succ, List.getElem?_cons_zero]; rfl
        case hq15_43x9 => exact fun _ _ _ h => h
        case hw15_43x9 => rfl
        case hy15_43x9 => (intro w hSw; (try dsimp only at hSw); obtain ⟨hs0, hs1⟩ := hSw; go_simp; (try (with_reducible rfl)))
        (try simp only [Act.put, List.setIfInBounds_toArray, List.set_cons_zero, List.set_cons_succ])
        refine wpAnyH_ready (rs := [9]) (by kernel_rfl) (by simp) ?_
        refine AllReadyH.cons rfl (fun K' hK' => ?_) AllReadyH.nil
        go_simp
        refine hK'.out _ _ (HS43.out _ (by assumption)) (fun hHeld => ?_)
        clear hK' K'
        (try simp only [Act.put, List.setIfInBounds_toArray, List.set_cons_zero, List.set_cons_succ])
        refine wpAnyH_take (i := 10) (oi := ?oi10_43x9) (v := ?v10_43x9) ?hi10_43x9 (by kernel_rfl) (by kernel_rfl) (by kernel_rfl) ?hq10_43x9 (Or.inl ⟨?hw10_43x9, ?hy10_43x9⟩) (by assumption) ?rest10_43x9
        case hi10_43x9 => simp only [List.getElem?_toArray, List.getElem?_cons_succ, List.getElem?_cons_zero]; rfl
        case hq10_43x9 => exact fun _ _ _ h => h
        case hw10_43x9 => rfl
        case hy10_43x9 => (intro w hSw; (try dsimp only at hSw); obtain ⟨hs0, hs1⟩ := hSw; go_simp; (try (with_reducible rfl)))
        (try simp only [Act.put, List.setIfInBounds_toArray, List.set_cons_zero, List.set_cons_succ])
        refine wpAnyH_take (i := 11) (oi := ?oi11_43x9) (v := undef) ?hi11_43x9 (by kernel_rfl) (by kernel_rfl) (by kernel_rfl) ?hq11_43x9 (Or.inr ⟨?hw11_43x9, rfl⟩) (by assumption) ?rest11_43x9
        case hi11_43x9 => simp only [List.getElem?_toArray, List.getElem?_cons_succ, List.getElem?_cons_zero]; rfl
        case hq11_43x9 => exact fun _ _ _ h => h
        case hw11_43x9 => rfl
        (try simp only [Act.put, List.setIfInBounds_toArray, List.set_cons_zero, List.set_cons_succ])
        refine wpAnyH_take (i := 12) (oi := ?oi12_43x9) (v := undef) ?hi12_43x9 (by kernel_rfl) (by kernel_rfl) (by kernel_rfl) ?hq12_43x9 (Or.inr ⟨?hw12_43x9, rfl⟩) (by assumption) ?rest12_43x9
        case hi12_43x9 => simp only [List.getElem?_toArray, List.getElem?_cons_succ, List.getElem?_cons_zero]; rfl
        case hq12_43x9 => exact fun _ _ _ h => h
        case hw12_43x9 => rfl
        (try simp only [Act.put, List.setIfInBounds_toArray, List.set_cons_zero, List.set_cons_succ])
        refine wpAnyH_take (i := 13) (oi := ?oi13_43x9) (v := ?v13_43x9) ?hi13_43x9 (by kernel_rfl) (by kernel_rfl) (by kernel_rfl) ?hq13_43x9 (Or.inl ⟨?hw13_43x9, ?hy13_43x9⟩) (by assumption) ?rest13_43x9
        case hi13_43x9 => simp only [List.getElem?_toArray, List.getElem?_cons_succ, List.getElem?_cons_zero]; rfl
        case hq13_43x9 => exact fun _ _ _ h => h
        case hw13_43x9 => rfl
        case hy13_43x9 => (intro w hSw; (try dsimp only at hSw); obtain ⟨hs0, hs1⟩ := hSw; go_simp; (try (with_reducible rfl)))
        (try simp only [Act.put, List.setIfInBounds_toArray, List.set_cons_zero, List.set_cons_succ])
        refine wpAnyH_take (i := 16) (oi := ?oi16_43x9) (v := ?v16_43x9) ?hi16_43x9 (by kernel_rfl) (by kernel_rfl) (by kernel_rfl) ?hq16_43x9 (Or.inl ⟨?hw16_43x9, ?hy16_43x9⟩) (by assumption) ?rest16_43x9
        case hi16_43x9 => simp only [List.getElem?_toArray, List.getElem?_cons_succ, List.getElem?_cons_zero]; rfl
        case hq16_43x9 => exact fun _ _ _ h => h
        case hw16_43x9 => rfl
        case hy16_43x9 => (intro w hSw; (try dsimp only at hSw); obtain ⟨hs0, hs1⟩ := hSw; go_simp; (try (with_reducible rfl)))
        (try simp only [Act.put, List.setIfInBounds_toArray, List.set_cons_zero, List.set_cons_succ])
        refine wpAnyH_ready (rs := [17]) (by kernel_rfl) (by simp) ?_
        refine AllReadyH.cons rfl (fun K' hK' => ?_) AllReadyH.nil
        go_simp
        refine hK'.out _ _ (HS43.out _ (by assumption)) (fun hHeld => ?_)
        clear hK' K'
        (try simp only [Act.put, List.setIfInBounds_toArray, List.set_cons_zero, List.set_cons_succ])
        refine wpAnyH_done (by kernel_rfl) (NoPanic.normal ?_) _
        clear T0 T1 y' f' hHeld
        go_wp2
        exact HD.out _ _ (fin_shut1 K3.out O1.out a true (by rw [HM.out]; rfl) (by rw [HM2.out]; rfl) TA.out.1 TA.out.2 ((Turn.refl _ _).drew)) _ _ _ _ _ _ _ _ _ _ _ _ _ _ _ _ _ _ _ _ _ _ _ _ _ _ _ _ _ _ _ _ _ _ _ _ _ _ _ _ _ _ _ _ _ _ _ _ _ _ _ _ _ _ _ _ _ _ _ _ _ _ _ _ _ _ _ _ _ _ _ _ _ _ _ _ _ _ _ _ _ _ _ _ _ _ _ _ _ _ _ _ _ _ _ _ _ _ _ _ _ _ _ _ _ _ _ _ _ _ _ _ _ _ _ _ _ _ _ _ _ _ _ _ _ _ _ _ _ _ _ _ _ _ _ _ _ _ _ _ _ _ _ _ _ _ _ _ _ _ _ _ _ _ _ _ _ _ _ _ _ _ _ _ _ _ _ _ _ _ _ _ _ _
    · have HS42 := Lib.hid (fun W (t : Turn (fun k => k = x) w3 W) => show W.cell? ⟨B, 1, none⟩ = some (.int .i64 1) ∧ W.cell? ⟨B, 3, none⟩ = some (.bool a) from ⟨t.cell z1 hne, t.cell zA hne⟩)
      have T0 : Turn (fun k => k = x) w3 w3.drew := (Turn.refl _ w3).drew
      have T1 := T0.setCell (p := ⟨x, 5, none⟩) (.inl rfl) (.bool true)
      have y' : w3.drew.cell? ⟨x, 5, none⟩ = some (.bool true) := y
      have f' : w3.drew.frozen? ⟨x, 5, none⟩ = false := f
      refine wp_region_noPanic ?_
      refine wp_region_held_drew (S := fun W => W.cell? ⟨B, 1, none⟩ = some (.int .i64 1) ∧ W.cell? ⟨B, 3, none⟩ = some (.bool a)) (by kernel_rfl) (HS42.out _ (by assumption)) (fun hHeld => ?_)
      refine wpAnyH_take (i := 0) (oi := ?oi0_42x10) (v := ?v0_42x10) ?hi0_42x10 (by kernel_rfl) (by kernel_rfl) (by kernel_rfl) ?hq0_42x10 (Or.inl ⟨?hw0_42x10, ?hy0_42x10⟩) (by assumption) ?rest0_42x10
      case hi0_42x10 => simp only [List.getElem?_toArray, List.getElem?_cons_zero]; rfl
      case hq0_42x10 => exact fun _ _ _ h => h
      case hw0_42x10 => rfl
      case hy0_42x10 => (intro w hSw; (try dsimp only at hSw); obtain ⟨hs0, hs1⟩ := hSw; go_simp; (try (with_reducible rfl)))
      (try simp only [Act.put, List.setIfInBounds_toArray, List.set_cons_zero, List.set_cons_succ])
      refine wpAnyH_take (i := 1) (oi := ?oi1_42x10) (v := ?v1_42x10) ?hi1_42x10 (by kernel_rfl) (by kernel_rfl) (by kernel_rfl) ?hq1_42x10 (Or.inl ⟨?hw1_42x10, ?hy1_42x10⟩) (by assumption) ?rest1_42x10
      case hi1_42x10 => simp only [List.getElem?_toArray, List.getElem?_cons_succ, List.getElem?_cons_zero]; rfl
      case hq1_42x10 => exact fun _ _ _ h => h
      case hw1_42x10 => rfl
      case hy1_42x10 => (intro w hSw; (try dsimp only at hSw); obtain ⟨hs0, hs1⟩ := hSw; go_simp; (try (with_reducible rfl)))
      (try simp only [Act.put, List.setIfInBounds_toArray, List.set_cons_zero, List.set_cons_succ])
      refine wpAnyH_take (i := 2) (oi := ?oi2_42x10) (v := ?v2_42x10) ?hi2_42x10 (by kernel_rfl) (by kernel_rfl) (by kernel_rfl) ?hq2_42x10 (Or.inl ⟨?hw2_42x10, ?hy2_42x10⟩) (by assumption) ?rest2_42x10
      case hi2_42x10 => simp only [List.getElem?_toArray, List.getElem?_cons_succ, List.getElem?_cons_zero]; rfl
      case hq2_42x10 => exact fun _ _ _ h => h
      case hw2_42x10 => rfl
      case hy2_42x10 => (intro w hSw; (try dsimp only at hSw); obtain ⟨hs0, hs1⟩ := hSw; go_simp; (try (with_reducible rfl)))
      (try simp only [Act.put, List.setIfInBounds_toArray, List.set_cons_zero, List.set_cons_succ])
      refine wpAnyH_take (i := 3) (oi := ?oi3_42x10) (v := ?v3_42x10) ?hi3_42x10 (by kernel_rfl) (by kernel_rfl) (by kernel_rfl) ?hq3_42x10 (Or.inl ⟨?hw3_42x10, ?hy3_42x10⟩) (by assumption) ?rest3_42x10
      case hi3_42x10 => simp only [List.getElem?_toArray, List.getElem?_cons_succ, List.getElem?_cons_zero]; rfl
      case hq3_42x10 => exact fun _ _ _ h => h
      case hw3_42x10 => rfl
      case hy3_42x10 => (intro w hSw; (try dsimp only at hSw); obtain ⟨hs0, hs1⟩ := hSw; go_simp; (try (with_reducible rfl)))
      (try simp only [Act.put, List.setIfInBounds_toArray, List.set_cons_zero, List.set_cons_succ])
      refine wpAnyH_take (i := 4) (oi := ?oi4_42x10) (v := ?v4_42x10) ?hi4_42x10 (by kernel_rfl) (by kernel_rfl) (by kernel_rfl) ?hq4_42x10 (Or.inl ⟨?hw4_42x10, ?hy4_42x10⟩) (by assumption) ?rest4_42x10
      case hi4_42x10 => simp only [List.getElem?_toArray, List.getElem?_cons_succ, List.getElem?_cons_zero]; rfl
      case hq4_42x10 => exact fun _ _ _ h => h
      case hw4_42x10 => rfl
      case hy4_42x10 => (intro w hSw; (try dsimp only at hSw); obtain ⟨hs0, hs1⟩ := hSw; go_simp; (try (with_reducible rfl)))
      (try simp only [Act.put, List.setIfInBounds_toArray, List.set_cons_zero, List.set_cons_succ])
      refine wpAnyH_take (i := 5) (oi := ?oi5_42x10) (v := ?v5_42x10) ?hi5_42x10 (by kernel_rfl) (by kernel_rfl) (by kernel_rfl) ?hq5_42x10 (Or.inl ⟨?hw5_42x10, ?hy5_42x10⟩) (by assumption) ?rest5_42x10
      case hi5_42x10 => simp only [List.getElem?_toArray, List.getElem?_cons_succ, List.getElem?_cons_zero]; rfl
      case hq5_42x10 => exact fun _ _ _ h => h
      case hw5_42x10 => rfl
      case hy5_42x10 => (intro w hSw; (try dsimp only at hSw); obtain ⟨hs0, hs1⟩ := hSw; go_simp; (try (with_reducible rfl)))
      (try simp only [Act.put, List.setIfInBounds_toArray, List.set_cons_zero, List.set_cons_succ])
      refine wpAnyH_take (i := 6) (oi := ?oi6_42x10) (v := ?v6_42x10) ?hi6_42x10 (by kernel_rfl) (by kernel_rfl) (by kernel_rfl) ?hq6_42x10 (Or.inl ⟨?hw6_42x10, ?hy6_42x10⟩) (by assumption) ?rest6_42x10
      case hi6_42x10 => simp only [List.getElem?_toArray, List.getElem?_cons_succ, List.getElem?_cons_zero]; rfl
      case hq6_42x10 => exact fun _ _ _ h => h
      case hw6_42x10 => rfl
      case hy6_42x10 => (intro w hSw; (try dsimp only at hSw); obtain ⟨hs0, hs1⟩ := hSw; go_simp; (try (with_reducible rfl)))
      (try simp only [Act.put, List.setIfInBounds_toArray, List.set_cons_zero, List.set_cons_succ])
      refine wpAnyH_take (i := 7) (oi := ?oi7_42x10) (v := ?v7_42x10) ?hi7_42x10 (by kernel_rfl) (by kernel_rfl) (by kernel_rfl) ?hq7_42x10 (Or.inl ⟨?hw7_42x10, ?hy7_42x10⟩) (by assumption) ?rest7_42x10
      case hi7_42x10 => simp only [List.getElem?_toArray, List.getElem?_cons_succ, List.getElem?_cons_zero]; rfl
      case hq7_42x10 => exact fun _ _ _ h => h
      case hw7_42x10 => rfl
      case hy7_42x10 => (intro w hSw; (try dsimp only at hSw); obtain ⟨hs0, hs1⟩ := hSw; go_simp; (try (with_reducible rfl)))
      (try simp only [Act.put, List.setIfInBounds_toArray, List.set_cons_zero, List.set_cons_succ])
      refine wpAnyH_take (i := 8) (oi := ?oi8_42x10) (v := ?v8_42x10) ?hi8_42x10 (by kernel_rfl) (by kernel_rfl) (by kernel_rfl) ?hq8_42x10 (Or.inl ⟨?hw8_42x10, ?hy8_42x10⟩) (by assumption) ?rest8_42x10
      case hi8_42x10 => simp only [List.getElem?_toArray, List.getElem?_cons_succ, List.getElem?_cons_zero]; rfl
      case hq8_42x10 => exact fun _ _ _ h => h
      case hw8_42x10 => rfl
      case hy8_42x10 => (intro w hSw; (try dsimp only at hSw); obtain ⟨hs0, hs1⟩ := hSw; go_simp; (try (with_reducible rfl)))
      (try simp only [Act.put, List.setIfInBounds_toArray, List.set_cons_zero, List.set_cons_succ])
      refine wpAnyH_take (i := 14) (oi := ?oi14_42x10) (v := ?v14_42x10) ?hi14_42x10 (by kernel_rfl) (by kernel_rfl) (by kernel_rfl) ?hq14_42x10 (Or.inl ⟨?hw14_42x10, ?hy14_42x10⟩) (by assumption) ?rest14_42x10
      case hi14_42x10 => simp only [List.getElem?_toArray, List.getElem?_cons_succ, List.getElem?_cons_zero]; rfl
      case hq14_42x10 => exact fun _ _ _ h => h
      case hw14_42x10 => rfl
      case hy14_42x10 => (intro w hSw; (try dsimp only at hSw); obtain ⟨hs0, hs1⟩ := hSw; go_simp; (try (with_reducible rfl)))
      (try simp only [Act.put, List.setIfInBounds_toArray, List.set_cons_zero, List.set_cons_succ])
      refine wpAnyH_take (i := 15) (oi := ?oi15_42x10) (v := ?v15_42x10) ?hi15_42x10 (by kernel_rfl) (by kernel_rfl) (by kernel_rfl) ?hq15_42x10 (Or.inl ⟨?hw15_42x10, ?hy15_42x10⟩) (by assumption) ?rest15_42x10
      case hi15_42x10 => simp only [List.getElem?_toArray, List.getElem?_cons_succ, List.getElem?_cons_zero]; rfl
      case hq15_42x10 => exact fun _ _ _ h => h
      case hw15_42x10 => rfl
      case hy15_42x10 => (intro w hSw; (try dsimp only at hSw); obtain ⟨hs0, hs1⟩ := hSw; go_simp; (try (with_reducible rfl)))
      (try simp only [Act.put, List.setIfInBounds_toArray, List.set_cons_zero, List.set_cons_succ])
      refine wpAnyH_ready (rs := [9]) (by kernel_rfl) (by simp) ?_
      refine AllReadyH.cons rfl (fun K' hK' => ?_) AllReadyH.nil
      go_simp
      refine hK'.out _ _ (HS42.out _ (by assumption)) (fun hHeld => ?_)
      clear hK' K'
      (try simp only [Act.put, List.setIfInBounds_toArray, List.set_cons_zero, List.set_cons_succ])
      refine wpAnyH_take (i := 10) (oi := ?oi10_42x10) (v := ?v10_42x10) ?hi10_42x10 (by kernel_rfl) (by kernel_rfl) (by kernel_rfl) ?hq10_42x10 (Or.inl ⟨?hw10_42x10, ?hy10_42x10⟩) (by assumption) ?rest10_42x10
      case hi10_42x10 => simp only [List.getElem?_toArray, List.getElem?_cons_succ, List.getElem?_cons_zero]; rfl
      case hq10_42x10 => exact fun _ _ _ h => h
      case hw10_42x10 => rfl
      case hy10_42x10 => (intro w hSw; (try dsimp only at hSw); obtain ⟨hs0, hs1⟩ := hSw; go_simp; (try (with_reducible rfl)))
      (try simp only [Act.put, List.setIfInBounds_toArray, List.set_cons_zero, List.set_cons_succ])
      refine wpAnyH_take (i := 11) (oi := ?oi11_42x10) (v := undef) ?hi11_42x10 (by kernel_rfl) (by kernel_rfl) (by kernel_rfl) ?hq11_42x10 (Or.inr ⟨?hw11_42x10, rfl⟩) (by assumption) ?rest11_42x10
      case hi11_42x10 => simp only [List.getElem?_toArray, List.getElem?_cons_succ, List.getElem?_cons_zero]; rfl
      case hq11_42x10 => exact fun _ _ _ h => h
      case hw11_42x10 => rfl
      (try simp only [Act.put, List.setIfInBounds_toArray, List.set_cons_zero, List.set_cons_succ])
      refine wpAnyH_take (i := 12) (oi := ?oi12_42x10) (v := undef) ?hi12_42x10 (by kernel_rfl) (by kernel_rfl) (by kernel_rfl) ?hq12_42x10 (Or.inr ⟨?hw12_42x10, rfl⟩) (by assumption) ?rest12_42x10
      case hi12_42x10 => simp only [List.getElem?_toArray, List.getElem?_cons_succ, List.getElem?_cons_zero]; rfl
      case hq12_42x10 => exact fun _ _ _ h => h
      case hw12_42x10 => rfl
      (try simp only [Act.put, List.setIfInBounds_toArray, List.set_cons_zero, List.set_cons_succ])
      refine wpAnyH_take (i := 13) (oi := ?oi13_42x10) (v := ?v13_42x10) ?hi13_42x10 (by kernel_rfl) (by kernel_rfl) (by kernel_rfl) ?hq13_42x10 (Or.inl ⟨?hw13_42x10, ?hy13_42x10⟩) (by assumption) ?rest13_42x10
      case hi13_42x10 => simp only [List.getElem?_toArray, List.getElem?_cons_succ, List.getElem?_cons_zero]; rfl
      case hq13_42x10 => exact fun _ _ _ h => h
      case hw13_42x10 => rfl
      case hy13_42x10 => (intro w hSw; (try dsimp only at hSw); obtain ⟨hs0, hs1⟩ := hSw; go_simp; (try (with_reducible rfl)))
      (try simp only [Act.put, List.setIfInBounds_toArray, List.set_cons_zero, List.set_cons_succ])
      refine wpAnyH_take (i := 16) (oi := ?oi16_42x10) (v := ?v16_42x10) ?hi16_42x10 (by kernel_rfl) (by kernel_rfl) (by kernel_rfl) ?hq16_42x10 (Or.inl ⟨?hw16_42x10, ?hy16_42x10⟩) (by assumption) ?rest16_42x10
      case hi16_42x10 => simp only [List.getElem?_toArray, List.getElem?_cons_succ, List.getElem?_cons_zero]; rfl
      case hq16_42x10 => exact fun _ _ _ h => h
      case hw16_42x10 => rfl
      case hy16_42x10 => (intro w hSw; (try dsimp only at hSw); obtain ⟨hs0, hs1⟩ := hSw; go_simp; (try (with_reducible rfl)))
      (try simp only [Act.put, List.setIfInBounds_toArray, List.set_cons_zero, List.set_cons_succ])
      refine wpAnyH_ready (rs := [17]) (by kernel_rfl) (by simp) ?_
      refine AllReadyH.cons rfl (fun K' hK' => ?_) AllReadyH.nil
      go_simp
      refine hK'.out _ _ (HS42.out _ (by assumption)) (fun hHeld => ?_)
      clear hK' K'
      (try simp only [Act.put, List.setIfInBounds_toArray, List.set_cons_zero, List.set_cons_succ])
      refine wpAnyH_done (by kernel_rfl) (NoPanic.normal ?_) _
      clear T0 T1 y' f' hHeld
      have TA := Lib.hid (show Turn NoBlock w3 w3 ∧ Turn NoBlock (w3.setCell ⟨x, 4 + 1, none⟩ (.bool true)) ((w3.setCell ⟨x, 5, none⟩ (.bool true)).drew) from ⟨(Turn.refl _ _), ((Turn.refl _ _).drew)⟩)
      have TX := Lib.hid (show Turn (fun k => k = x) w3 ((w3.setCell ⟨x, 5, none⟩ (.bool true)).drew) from turn_one rfl TA.out.1 TA.out.2)
      have RA := Lib.hid (((K3.out.r.past TA.out.1).setM (e := 1) (by omega) true).past TA.out.2)
      generalize (w3.setCell ⟨x, 5, none⟩ (.bool true)).drew = wA at *
      have z1' := TX.out.cell z1 hne
      have zB' := TX.out.cell ZB.out hne
      have y2 := RA.out.cd 1 (by omega)
      have f2 := RA.out.f (6 + 1)
      clear z1 zA y f
      try clear HS42
      have z1 := z1'
      have zA := zB'
      have y := y2
      have f := f2
      clear z1' zB' y2 f2
      rw [HM2.out] at y
      simp only [Nat.reduceAdd] at y f
      go_wp2
      cases m2
      · have HS43 := Lib.hid (fun W (t : Turn (fun k => k = x) wA W) => show W.cell? ⟨B, 1, none⟩ = some (.int .i64 1) ∧ W.cell? ⟨B, 4, none⟩ = some (.bool b) from ⟨t.cell z1 hne, t.cell zA hne⟩)
        have T0 : Turn (fun k => k = x) wA wA.drew := (Turn.refl _ wA).drew
        have T1 := T0.setCell (p := ⟨x, 7, none⟩) (.inl rfl) (.bool b)
        have y' : wA.drew.cell? ⟨x, 7, none⟩ = some (.bool false) := y
        have f' : wA.drew.frozen? ⟨x, 7, none⟩ = false := f
        refine wp_region_noPanic ?_
        refine wp_region_held_drew (S := fun W => W.cell? ⟨B, 1, none⟩ = some (.int .i64 1) ∧ W.cell? ⟨B, 4, none⟩ = some (.bool b)) (by kernel_rfl) (HS43.out _ (by assumption)) (fun hHeld => ?_)
        refine wpAnyH_take (i := 0) (oi := ?oi0_43x11) (v := ?v0_43x11) ?hi0_43x11 (by kernel_rfl) (by kernel_rfl) (by kernel_rfl) ?hq0_43x11 (Or.inl ⟨?hw0_43x11, ?hy0_43x11⟩) (by assumption) ?rest0_43x11
        case hi0_43x11 => simp only [List.getElem?_toArray, List.getElem?_cons_zero]; rfl
        case hq0_43x11 => exact fun _ _ _ h => h
        case hw0_43x11 => rfl
        case hy0_43x11 => (intro w hSw; (try dsimp only at hSw); obtain ⟨hs0, hs1⟩ := hSw; go_simp; (try (with_reducible rfl)))
        (try simp only [Act.put, List.setIfInBounds_toArray, List.set_cons_zero, List.set_cons_succ])
        refine wpAnyH_take (i := 1) (oi := ?oi1_43x11) (v := ?v1_43x11) ?hi1_43x11 (by kernel_rfl) (by kernel_rfl) (by kernel_rfl) ?hq1_43x11 (Or.inl ⟨?hw1_43x11, ?hy1_43x11⟩) (by assumption) ?rest1_43x11
        case hi1_43x11 => simp only [List.getElem?_toArray, List.getElem?_cons_succ, List.getElem?_cons_zero]; rfl
        case hq1_43x11 => exact fun _ _ _ h => h
        case hw1_43x11 => rfl
        case hy1_43x11 => (intro w hSw; (try dsimp only at hSw); obtain ⟨hs0, hs1⟩ := hSw; go_simp; (try (with_reducible rfl)))
        (try simp only [Act.put, List.setIfInBounds_toArray, List.set_cons_zero, List.set_cons_succ])
        refine wpAnyH_take (i := 2) (oi := ?oi2_43x11) (v := ?v2_43x11) ?hi2_43x11 (by kernel_rfl) (by kernel_rfl) (by kernel_rfl) ?hq2_43x11 (Or.inl ⟨?hw2_43x11, ?hy2_43x11⟩) (by assumption) ?rest2_43x11
        case hi2_43x11 => simp only [List.getElem?_toArray, List.getElem?_cons_succ, List.getElem?_cons_zero]; rfl
        case hq2_43x11 => exact fun _ _ _ h => h
        case hw2_43x11 => rfl
        case hy2_43x11 => (intro w hSw; (try dsimp only at hSw); obtain ⟨hs0, hs1⟩ := hSw; go_simp; (try (with_reducible rfl)))
        (try simp only [Act.put, List.setIfInBounds_toArray, List.set_cons_zero, List.set_cons_succ])
        refine wpAnyH_take (i := 3) (oi := ?oi3_43x11) (v := ?v3_43x11) ?hi3_43x11 (by kernel_rfl) (by kernel_rfl) (by kernel_rfl) ?hq3_43x11 (Or.inl ⟨?hw3_43x11, ?hy3_43x11⟩) (by assumption) ?rest3_43x11
        case hi3_43x11 => simp only [List.getElem?_toArray, List.getElem?_cons_succ, List.getElem?_cons_zero]; rfl
        case hq3_43x11 => exact fun _ _ _ h => h
        case hw3_43x11 => rfl
        case hy3_43x11 => (intro w hSw; (try dsimp only at hSw); obtain ⟨hs0, hs1⟩ := hSw; go_simp; (try (with_reducible rfl)))
        (try simp only [Act.put, List.setIfInBounds_toArray, List.set_cons_zero, List.set_cons_succ])
        refine wpAnyH_take (i := 4) (oi := ?oi4_43x11) (v := ?v4_43x11) ?hi4_43x11 (by kernel_rfl) (by kernel_rfl) (by kernel_rfl) ?hq4_43x11 (Or.inl ⟨?hw4_43x11, ?hy4_43x11⟩) (by assumption) ?rest4_43x11
        case hi4_43x11 => simp only [List.getElem?_toArray, List.getElem?_cons_succ, List.getElem?_cons_zero]; rfl
        case hq4_43x11 => exact fun _ _ _ h => h
        case hw4_43x11 => rfl
        case hy4_43x11 => (intro w hSw; (try dsimp only at hSw); obtain ⟨hs0, hs1⟩ := hSw; go_simp; (try (with_reducible rfl)))
        (try simp only [Act.put, List.setIfInBounds_toArray, List.set_cons_zero, List.set_cons_succ])
        refine wpAnyH_take (i := 5) (oi := ?oi5_43x11) (v := ?v5_43x11) ?hi5_43x11 (by kernel_rfl) (by kernel_rfl) (by kernel_rfl) ?hq5_43x11 (Or.inl ⟨?hw5_43x11, ?hy5_43x11⟩) (by assumption) ?rest5_43x11
        case hi5_43x11 => simp only [List.getElem?_toArray, List.getElem?_cons_succ, List.getElem?_cons_zero]; rfl
        case hq5_43x11 => exact fun _ _ _ h => h
        case hw5_43x11 => rfl
        case hy5_43x11 => (intro w hSw; (try dsimp only at hSw); obtain ⟨hs0, hs1⟩ := hSw; go_simp; (try (with_reducible rfl)))
        (try simp only [Act.put, List.setIfInBounds_toArray, List.set_cons_zero, List.set_cons_succ])
        refine wpAnyH_take (i := 6) (oi := ?oi6_43x11) (v := ?v6_43x11) ?hi6_43x11 (by kernel_rfl) (by kernel_rfl) (by kernel_rfl) ?hq6_43x11 (Or.inl ⟨?hw6_43x11, ?hy6_43x11⟩) (by assumption) ?rest6_43x11
        case hi6_43x11 => simp only [List.getElem?_toArray, List.getElem?_cons_succ, List.getElem?_cons_zero]; rfl
        case hq6_43x11 => exact fun _ _ _ h => h
        case hw6_43x11 => rfl
        case hy6_43x11 => (intro w hSw; (try dsimp only at hSw); obtain ⟨hs0, hs1⟩ := hSw; go_simp; (try (with_reducible rfl)))
        (try simp only [Act.put, List.setIfInBounds_toArray, List.set_cons_zero, List.set_cons_succ])
        refine wpAnyH_take (i := 7) (oi := ?oi7_43x11) (v := ?v7_43x11) ?hi7_43x11 (by kernel_rfl) (by kernel_rfl) (by kernel_rfl) ?hq7_43x11 (Or.inl ⟨?hw7_43x11, ?hy7_43x11⟩) (by assumption) ?rest7_43x11
        case hi7_43x11 => simp only [List.getElem?_toArray, List.getElem?_cons_succ, List.getElem?_cons_zero]; rfl
        case hq7_43x11 => exact fun _ _ _ h => h
        case hw7_43x11 => rfl
        case hy7_43x11 => (intro w hSw; (try dsimp only at hSw); obtain ⟨hs0, hs1⟩ := hSw; go_simp; (try (with_reducible rfl)))
        (try simp only [Act.put, List.setIfInBounds_toArray, List.set_cons_zero, List.set_cons_succ])
        refine wpAnyH_take (i := 8) (oi := ?oi8_43x11) (v := ?v8_43x11) ?hi8_43x11 (by kernel_rfl) (by kernel_rfl) (by kernel_rfl) ?hq8_43x11 (Or.inl ⟨?hw8_43x11, ?hy8_43x11⟩) (by assumption) ?rest8_43x11
        case hi8_43x11 => simp only [List.getElem?_toArray, List.getElem?_cons_succ, List.getElem?_cons_zero]; rfl
        case hq8_43x11 => exact fun _ _ _ h => h
        case hw8_43x11 => rfl
        case hy8_43x11 => (intro w hSw; (try dsimp only at hSw); obtain ⟨hs0, hs1⟩ := hSw; go_simp; (try (with_reducible rfl)))
        (try simp only [Act.put, List.setIfInBounds_toArray, List.set_cons_zero, List.set_cons_succ])
        refine wpAnyH_take (i := 14) (oi := ?oi14_43x11) (v := ?v14_43x11) ?hi14_43x11 (by kernel_rfl) (by kernel_rfl) (by kernel_rfl) ?hq14_43x11 (Or.inl ⟨?hw14_43x11, ?hy14_43x11⟩) (by assumption) ?rest14_43x11
        case hi14_43x11 => simp only [List.getElem?_toArray, List.getElem?_cons_succ, List.getElem?_cons_zero]; rfl
        case hq14_43x11 => exact fun _ _ _ h => h
        case hw14_43x11 => rfl
        case hy14_43x11 => (intro w hSw; (try dsimp only at hSw); obtain ⟨hs0, hs1⟩ := hSw; go_simp; (try (with_reducible rfl)))
        (try simp only [Act.put, List.setIfInBounds_toArray, List.set_cons_zero, List.set_cons_succ])
        refine wpAnyH_take (i := 15) (oi := ?oi15_43x11) (v := ?v15_43x11) ?hi15_43x11 (by kernel_rfl) (by kernel_rfl) (by kernel_rfl) ?hq15_43x11 (Or.inl ⟨?hw15_43x11, ?hy15_43x11⟩) (by assumption) ?rest15_43x11
        case hi15_43x11 => simp only [List.getElem?_toArray, List.getElem?_cons_succ, List.getElem?_cons_zero]; rfl
        case hq15_43x11 => exact fun _ _ _ h => h
        case hw15_43x11 => rfl
        case hy15_43x11 => (intro w hSw; (try dsimp only at hSw); obtain ⟨hs0, hs1⟩ := hSw; go_simp; (try (with_reducible rfl)))
        (try simp only [Act.put, List.setIfInBounds_toArray, List.set_cons_zero, List.set_cons_succ])
        refine wpAnyH_ready (rs := [9]) (by kernel_rfl) (by simp) ?_
        refine AllReadyH.cons rfl (fun K' hK' => ?_) AllReadyH.nil
        go_simp
        refine hK'.out _ _ (HS43.out _ (by assumption)) (fun hHeld => ?_)
        clear hK' K'
        (try simp only [Act.put, List.setIfInBounds_toArray, List.set_cons_zero, List.set_cons_succ])
        refine wpAnyH_take (i := 10) (oi := ?oi10_43x11) (v := ?v10_43x11) ?hi10_43x11 (by kernel_rfl) (by kernel_rfl) (by kernel_rfl) ?hq10_43x11 (Or.inl ⟨?hw10_43x11, ?hy10_43x11⟩) (by assumption) ?rest10_43x11
        case hi10_43x11 => simp only [List.getElem?_toArray, List.getElem?_cons_succ, List.getElem?_cons_zero]; rfl
        case hq10_43x11 => exact fun _ _ _ h => h
        case hw10_43x11 => rfl
        case hy10_43x11 => (intro w hSw; (try dsimp only at hSw); obtain ⟨hs0, hs1⟩ := hSw; go_simp; (try (with_reducible rfl)))
        (try simp only [Act.put, List.setIfInBounds_toArray, List.set_cons_zero, List.set_cons_succ])
        refine wpAnyH_take (i := 11) (oi := ?oi11_43x11) (v := ?v11_43x11) ?hi11_43x11 (by kernel_rfl) (by kernel_rfl) (by kernel_rfl) ?hq11_43x11 (Or.inl ⟨?hw11_43x11, ?hy11_43x11⟩) (by assumption) ?rest11_43x11
        case hi11_43x11 => simp only [List.getElem?_toArray, List.getElem?_cons_succ, List.getElem?_cons_zero]; rfl
        case hq11_43x11 => exact fun _ _ _ h => h
        case hw11_43x11 => rfl
        case hy11_43x11 => (intro w hSw; (try dsimp only at hSw); obtain ⟨hs0, hs1⟩ := hSw; go_simp; (try (with_reducible rfl)))
        (try simp only [Act.put, List.setIfInBounds_toArray, List.set_cons_zero, List.set_cons_succ])
        refine wpAnyH_take (i := 12) (oi := ?oi12_43x11) (v := ?v12_43x11) ?hi12_43x11 (by kernel_rfl) (by kernel_rfl) (by kernel_rfl) ?hq12_43x11 (Or.inl ⟨?hw12_43x11, ?hy12_43x11⟩) (by assumption) ?rest12_43x11
        case hi12_43x11 => simp only [List.getElem?_toArray, List.getElem?_cons_succ, List.getElem?_cons_zero]; rfl
        case hq12_43x11 => exact fun _ _ _ h => h
        case hw12_43x11 => rfl
        case hy12_43x11 => (intro w hSw; (try dsimp only at hSw); obtain ⟨hs0, hs1⟩ := hSw; go_simp; (try (with_reducible rfl)))
        (try simp only [Act.put, List.setIfInBounds_toArray, List.set_cons_zero, List.set_cons_succ])
        refine wpAnyH_take (i := 13) (oi := ?oi13_43x11) (v := ?v13_43x11) ?hi13_43x11 (by kernel_rfl) (by kernel_rfl) (by kernel_rfl) ?hq13_43x11 (Or.inl ⟨?hw13_43x11, ?hy13_43x11⟩) (by assumption) ?rest13_43x11
        case hi13_43x11 => simp only [List.getElem?_toArray, List.getElem?_cons_succ, List.getElem?_cons_zero]; rfl
        case hq13_43x11 => exact fun _ _ _ h => h
        case hw13_43x11 => rfl
        case hy13_43x11 => (intro w hSw; (try dsimp only at hSw); obtain ⟨hs0, hs1⟩ := hSw; go_simp; (try (with_reducible rfl)))
        (try simp only [Act.put, List.setIfInBounds_toArray, List.set_cons_zero, List.set_cons_succ])
        refine wpAnyH_take (i := 16) (oi := ?oi16_43x11) (v := ?v16_43x11) ?hi16_43x11 (by kernel_rfl) (by kernel_rfl) (by kernel_rfl) ?hq16_43x11 (Or.inl ⟨?hw16_43x11, ?hy16_43x11⟩) (by assumption) ?rest16_43x11
        case hi16_43x11 => simp only [List.getElem?_toArray, List.getElem?_cons_succ, List.getElem?_cons_zero]; rfl
        case hq16_43x11 => exact fun _ _ _ h => h
        case hw16_43x11 => rfl
        case hy16_43x11 => (intro w hSw; (try dsimp only at hSw); obtain ⟨hs0, hs1⟩ := hSw; go_simp; (try (with_reducible rfl)))
        (try simp only [Act.put, List.setIfInBounds_toArray, List.set_cons_zero, List.set_cons_succ])
        refine wpAnyH_ready (rs := [17]) (by kernel_rfl) (by simp) ?_
        refine AllReadyH.cons rfl (fun K' hK' => ?_) AllReadyH.nil
        go_simp
        refine hK'.out _ _ (HS43.out _ (by assumption)) (fun hHeld => ?_)
        clear hK' K'
        (try simp only [Act.put, List.setIfInBounds_toArray, List.set_cons_zero, List.set_cons_succ])
        refine wpAnyH_done (by kernel_rfl) (NoPanic.normal ?_) _
        clear T0 T1 y' f' hHeld
        go_wp2
        exact HD.out _ _ (fin_shut1 K3.out O1.out true b (by rw [HM.out]; rfl) (by rw [HM2.out]; rfl) TA.out.1 TA.out.2 ((Turn.refl _ _).drew)) _ _ _ _ _ _ _ _ _ _ _ _ _ _ _ _ _ _ _ _ _ _ _ _ _ _ _ _ _ _ _ _ _ _ _ _ _ _ _ _ _ _ _ _ _ _ _ _ _ _ _ _ _ _ _ _ _ _ _ _ _ _ _ _ _ _ _ _ _ _ _ _ _ _ _ _ _ _ _ _ _ _ _ _ _ _ _ _ _ _ _ _ _ _ _ _ _ _ _ _ _ _ _ _ _ _ _ _ _ _ _ _ _ _ _ _ _ _ _ _ _ _ _ _ _ _ _ _ _ _ _ _ _ _ _ _ _ _ _ _ _ _ _ _ _ _ _ _ _ _ _ _ _ _ _ _ _ _ _ _ _ _ _ _ _ _ _ _ _ _ _ _ _ _
      · have HS43 := Lib.hid (fun W (t : Turn (fun k => k = x) wA W) => show W.cell? ⟨B, 1, none⟩ = some (.int .i64 1) ∧ W.cell? ⟨B, 4, none⟩ = some (.bool b) from ⟨t.cell z1 hne, t.cell zA hne⟩)
        have T0 : Turn (fun k => k = x) wA wA.drew := (Turn.refl _ wA).drew
        have T1 := T0.setCell (p := ⟨x, 7, none⟩) (.inl rfl) (.bool true)
        have y' : wA.drew.cell? ⟨x, 7, none⟩ = some (.bool true) := y
        have f' : wA.drew.frozen? ⟨x, 7, none⟩ = false := f
        refine wp_region_noPanic ?_
        refine wp_region_held_drew (S := fun W => W.cell? ⟨B, 1, none⟩ = some (.int .i64 1) ∧ W.cell? ⟨B, 4, none⟩ = some (.bool b)) (by kernel_rfl) (HS43.out _ (by assumption)) (fun hHeld => ?_)
        refine wpAnyH_take (i := 0) (oi := ?oi0_43x12) (v := ?v0_43x12) ?hi0_43x12 (by kernel_rfl) (by kernel_rfl) (by kernel_rfl) ?hq0_43x12 (Or.inl ⟨?hw0_43x12, ?hy0_43x12⟩) (by assumption) ?rest0_43x12
        case hi0_43x12 => simp only [List.getElem?_toArray, List.getElem?_cons_zero]; rfl
        case hq0_43x12 => exact fun _ _ _ h => h
        case hw0_43x12 => rfl
        case hy0_43x12 => (intro w hSw; (try dsimp only at hSw); obtain ⟨hs0, hs1⟩ := hSw; go_simp; (try (with_reducible rfl)))
        (try simp only [Act.put, List.setIfInBounds_toArray, List.set_cons_zero, List.set_cons_succ])
        refine wpAnyH_take (i := 1) (oi := ?oi1_43x12) (v := ?v1_43x12) ?hi1_43x12 (by kernel_rfl) (by kernel_rfl) (by kernel_rfl) ?hq1_43x12 (Or.inl ⟨?hw1_43x12, ?hy1_43x12⟩) (by assumption) ?rest1_43x12
        case hi1_43x12 => simp only [List.getElem?_toArray, List.getElem?_cons_succ, List.getElem?_cons_zero]; rfl
        case hq1_43x12 => exact fun _ _ _ h => h
        case hw1_43x12 => rfl
        case hy1_43x12 => (intro w hSw; (try dsimp only at hSw); obtain ⟨hs0, hs1⟩ := hSw; go_simp; (try (with_reducible rfl)))
        (try simp only [Act.put, List.setIfInBounds_toArray, List.set_cons_zero, List.set_cons_succ])
        refine wpAnyH_take (i := 2) (oi := ?oi2_43x12) (v := ?v2_43x12) ?hi2_43x12 (by kernel_rfl) (by kernel_rfl) (by kernel_rfl) ?hq2_43x12 (Or.inl ⟨?hw2_43x12, ?hy2_43x12⟩) (by assumption) ?rest2_43x12
        case hi2_43x12 => simp only [List.getElem?_toArray, List.getElem?_cons_succ, List.getElem?_cons_zero]; rfl
        case hq2_43x12 => exact fun _ _ _ h => h
        case hw2_43x12 => rfl
        case hy2_43x12 => (intro w hSw; (try dsimp only at hSw); obtain ⟨hs0, hs1⟩ := hSw; go_simp; (try (with_reducible rfl)))
        (try simp only [Act.put, List.setIfInBounds_toArray, List.set_cons_zero, List.set_cons_succ])
        refine wpAnyH_take (i := 3) (oi := ?oi3_43x12) (v := ?v3_43x12) ?hi3_43x12 (by kernel_rfl) (by kernel_rfl) (by kernel_rfl) ?hq3_43x12 (Or.inl ⟨?hw3_43x12, ?hy3_43x12⟩) (by assumption) ?rest3_43x12
        case hi3_43x12 => simp only [List.getElem?_toArray, List.getElem?_cons_succ, List.getElem?_cons_zero]; rfl
        case hq3_43x12 => exact fun _ _ _ h => h
        case hw3_43x12 => rfl
        case hy3_43x12 => (intro w hSw; (try dsimp only at hSw); obtain ⟨hs0, hs1⟩ := hSw; go_simp; (try (with_reducible rfl)))
        (try simp only [Act.put, List.setIfInBounds_toArray, List.set_cons_zero, List.set_cons_succ])
        refine wpAnyH_take (i := 4) (oi := ?oi4_43x12) (v := ?v4_43x12) ?hi4_43x12 (by kernel_rfl) (by kernel_rfl) (by kernel_rfl) ?hq4_43x12 (Or.inl ⟨?hw4_43x12, ?hy4_43x12⟩) (by assumption) ?rest4_43x12
        case hi4_43x12 => simp only [List.getElem?_toArray, List.getElem?_cons_succ, List.getElem?_cons_zero]; rfl
        case hq4_43x12 => exact fun _ _ _ h => h
        case hw4_43x12 => rfl
        case hy4_43x12 => (intro w hSw; (try dsimp only at hSw); obtain ⟨hs0, hs1⟩ := hSw; go_simp; (try (with_reducible rfl)))
        (try simp only [Act.put, List.setIfInBounds_toArray, List.set_cons_zero, List.set_cons_succ])
        refine wpAnyH_take (i := 5) (oi := ?oi5_43x12) (v := ?v5_43x12) ?hi5_43x12 (by kernel_rfl) (by kernel_rfl) (by kernel_rfl) ?hq5_43x12 (Or.inl ⟨?hw5_43x12, ?hy5_43x12⟩) (by assumption) ?rest5_43x12
        case hi5_43x12 => simp only [List.getElem?_toArray, List.getElem?_cons_succ, List.getElem?_cons_zero]; rfl
        case hq5_43x12 => exact fun _ _ _ h => h
        case hw5_43x12 => rfl
        case hy5_43x12 => (intro w hSw; (try dsimp only at hSw); obtain ⟨hs0, hs1⟩ := hSw; go_simp; (try (with_reducible rfl)))
        (try simp only [Act.put, List.setIfInBounds_toArray, List.set_cons_zero, List.set_cons_succ])
        refine wpAnyH_take (i := 6) (oi := ?oi6_43x12) (v := ?v6_43x12) ?hi6_43x12 (by kernel_rfl) (by kernel_rfl) (by kernel_rfl) ?hq6_43x12 (Or.inl ⟨?hw6_43x12, ?hy6_43x12⟩) (by assumption) ?rest6_43x12
        case hi6_43x12 => simp only [List.getElem?_toArray, List.getElem?_cons_succ, List.getElem?_cons_zero]; rfl
        case hq6_43x12 => exact fun _ _ _ h => h
        case hw6_43x12 => rfl
        case hy6_43x12 => (intro w hSw; (try dsimp only at hSw); obtain ⟨hs0, hs1⟩ := hSw; go_simp; (try (with_reducible rfl)))
        (try simp only [Act.put, List.setIfInBounds_toArray, List.set_cons_zero, List.set_cons_succ])
        refine wpAnyH_take (i := 7) (oi := ?oi7_43x12) (v := ?v7_43x12) ?hi7_43x12 (by kernel_rfl) (by kernel_rfl) (by kernel_rfl) ?hq7_43x12 (Or.inl ⟨?hw7_43x12, ?hy7_43x12⟩) (by assumption) ?rest7_43x12
        case hi7_43x12 => simp only [List.getElem?_toArray, List.getElem?_cons_succ, List.getElem?_cons_zero]; rfl
        case hq7_43x12 => exact fun _ _ _ h => h
        case hw7_43x12 => rfl
        case hy7_43x12 => (intro w hSw; (try dsimp only at hSw); obtain ⟨hs0, hs1⟩ := hSw; go_simp; (try (with_reducible rfl)))
        (try simp only [Act.put, List.setIfInBounds_toArray, List.set_cons_zero, List.set_cons_succ])
        refine wpAnyH_take (i := 8) (oi := ?oi8_43x12) (v := ?v8_43x12) ?hi8_43x12 (by kernel_rfl) (by kernel_rfl) (by kernel_rfl) ?hq8_43x12 (Or.inl ⟨?hw8_43x12, ?hy8_43x12⟩) (by assumption) ?rest8_43x12
        case hi8_43x12 => simp only [List.getElem?_toArray, List.getElem?_cons_succ, List.getElem?_cons_zero]; rfl
        case hq8_43x12 => exact fun _ _ _ h => h
        case hw8_43x12 => rfl
        case hy8_43x12 => (intro w hSw; (try dsimp only at hSw); obtain ⟨hs0, hs1⟩ := hSw; go_simp; (try (with_reducible rfl)))
        (try simp only [Act.put, List.setIfInBounds_toArray, List.set_cons_zero, List.set_cons_succ])
        refine wpAnyH_take (i := 14) (oi := ?oi14_43x12) (v := ?v14_43x12) ?hi14_43x12 (by kernel_rfl) (by kernel_rfl) (by kernel_rfl) ?hq14_43x12 (Or.inl ⟨?hw14_43x12, ?hy14_43x12⟩) (by assumption) ?rest14_43x12
        case hi14_43x12 => simp only [List.getElem?_toArray, List.getElem?_cons_succ, List.getElem?_cons_zero]; rfl
        case hq14_43x12 => exact fun _ _ _ h => h
        case hw14_43x12 => rfl
        case hy14_43x12 => (intro w hSw; (try dsimp only at hSw); obtain ⟨hs0, hs1⟩ := hSw; go_simp; (try (with_reducible rfl)))
        (try simp only [Act.put, List.setIfInBounds_toArray, List.set_cons_zero, List.set_cons_succ])
        refine wpAnyH_take (i := 15) (oi := ?oi15_43x12) (v := ?v15_43x12) ?hi15_43x12 (by kernel_rfl) (by kernel_rfl) (by kernel_rfl) ?hq15_43x12 (Or.inl ⟨?hw15_43x12, ?hy15_43x12⟩) (by assumption) ?rest15_43x12
        case hi15_43x12 => simp only [List.getElem?_toArray, List.getElem?_cons_succ, List.getElem?_cons_zero]; rfl
        case hq15_43x12 => exact fun _ _ _ h => h
        case hw15_43x12 => rfl
        case hy15_43x12 => (intro w hSw; (try dsimp only at hSw); obtain ⟨hs0, hs1⟩ := hSw; go_simp; (try (with_reducible rfl)))
        (try simp only [Act.put, List.setIfInBounds_toArray, List.set_cons_zero, List.set_cons_succ])
        refine wpAnyH_ready (rs := [9]) (by kernel_rfl) (by simp) ?_
        refine AllReadyH.cons rfl (fun K' hK' => ?_) AllReadyH.nil
        go_simp
        refine hK'.out _ _ (HS43.out _ (by assumption)) (fun hHeld => ?_)
        clear hK' K'
        (try simp only [Act.put, List.setIfInBounds_toArray, List.set_cons_zero, List.set_cons_succ])
        refine wpAnyH_take (i := 10) (oi := ?oi10_43x12) (v := ?v10_43x12) ?hi10_43x12 (by kernel_rfl) (by kernel_rfl) (by kernel_rfl) ?hq10_43x12 (Or.inl ⟨?hw10_43x12, ?hy10_43x12⟩) (by assumption) ?rest10_43x12
        case hi10_43x12 => simp only [List.getElem?_toArray, List.getElem?_cons_succ, List.getElem?_cons_zero]; rfl
        case hq10_43x12 => exact fun _ _ _ h => h
        case hw10_43x12 => rfl
        case hy10_43x12 => (intro w hSw; (try dsimp only at hSw); obtain ⟨hs0, hs1⟩ := hSw; go_simp; (try (with_reducible rfl)))
        (try simp only [Act.put, List.setIfInBounds_toArray, List.set_cons_zero, List.set_cons_succ])
        refine wpAnyH_take (i := 11) (oi := ?oi11_43x12) (v := undef) ?hi11_43x12 (by kernel_rfl) (by kernel_rfl) (by kernel_rfl) ?hq11_43x12 (Or.inr ⟨?hw11_43x12, rfl⟩) (by assumption) ?rest11_43x12
        case hi11_43x12 => simp only [List.getElem?_toArray, List.getElem?_cons_succ, List.getElem?_cons_zero]; rfl
        case hq11_43x12 => exact fun _ _ _ h => h
        case hw11_43x12 => rfl
        (try simp only [Act.put, List.setIfInBounds_toArray, List.set_cons_zero, List.set_cons_succ])
        refine wpAnyH_take (i := 12) (oi := ?oi12_43x12) (v := undef) ?hi12_43x12 (by kernel_rfl) (by kernel_rfl) (by kernel_rfl) ?hq12_43x12 (Or.inr ⟨?hw12_43x12, rfl⟩) (by assumption) ?rest12_43x12
        case hi12_43x12 => simp only [List.getElem?_toArray, List.getElem?_cons_succ, List.getElem?_cons_zero]; rfl
        case hq12_43x12 => exact fun _ _ _ h => h
        case hw12_43x12 => rfl
        (try simp only [Act.put, List.setIfInBounds_toArray, List.set_cons_zero, List.set_cons_succ])
        refine wpAnyH_take (i := 13) (oi := ?oi13_43x12) (v := ?v13_43x12) ?hi13_43x12 (by kernel_rfl) (by kernel_rfl) (by kernel_rfl) ?hq13_43x12 (Or.inl ⟨?hw13_43x12, ?hy13_43x12⟩) (by assumption) ?rest13_43x12
        case hi13_43x12 => simp only [List.getElem?_toArray, List.getElem?_cons_succ, List.getElem?_cons_zero]; rfl
        case hq13_43x12 => exact fun _ _ _ h => h
        case hw13_43x12 => rfl
        case hy13_43x12 => (intro w hSw; (try dsimp only at hSw); obtain ⟨hs0, hs1⟩ := hSw; go_simp; (try (with_reducible rfl)))
        (try simp only [Act.put, List.setIfInBounds_toArray, List.set_cons_zero, List.set_cons_succ])
        refine wpAnyH_take (i := 16) (oi := ?oi16_43x12) (v := ?v16_43x12) ?hi16_43x12 (by kernel_rfl) (by kernel_rfl) (by kernel_rfl) ?hq16_43x12 (Or.inl ⟨?hw16_43x12, ?hy16_43x12⟩) (by assumption) ?rest16_43x12
        case hi16_43x12 => simp only [List.getElem?_toArray, List.getElem?_cons_succ, List.getElem?_cons_zero]; rfl
        case hq16_43x12 => exact fun _ _ _ h => h
        case hw16_43x12 => rfl
        case hy16_43x12 => (intro w hSw; (try dsimp only at hSw); obtain ⟨hs0, hs1⟩ := hSw; go_simp; (try (with_reducible rfl)))
        (try simp only [Act.put, List.setIfInBounds_toArray, List.set_cons_zero, List.set_cons_succ])
        refine wpAnyH_ready (rs := [17]) (by kernel_rfl) (by simp) ?_
        refine AllReadyH.cons rfl (fun K' hK' => ?_) AllReadyH.nil
        go_simp
        refine hK'.out _ _ (HS43.out _ (by assumption)) (fun hHeld => ?_)
        clear hK' K'
        (try simp only [Act.put, List.setIfInBounds_toArray, List.set_cons_zero, List.set_cons_succ])
        refine wpAnyH_done (by kernel_rfl) (NoPanic.normal ?_) _
        clear T0 T1 y' f' hHeld
        go_wp2
        exact HD.out _ _ (fin_shut1 K3.out O1.out true true (by rw [HM.out]; rfl) (by rw [HM2.out]; rfl) TA.out.1 TA.out.2 ((Turn.refl _ _).drew)) _ _ _ _ _ _ _ _ _ _ _ _ _ _ _ _ _ _ _ _ _ _ _ _ _ _ _ _ _ _ _ _ _ _ _ _ _ _ _ _ _ _ _ _ _ _ _ _ _ _ _ _ _ _ _ _ _ _ _ _ _ _ _ _ _ _ _ _ _ _ _ _ _ _ _ _ _ _ _ _ _ _ _ _ _ _ _ _ _ _ _ _ _ _ _ _ _ _ _ _ _ _ _ _ _ _ _ _ _ _ _ _ _ _ _ _ _ _ _ _ _ _ _ _ _ _ _ _ _ _ _ _ _ _ _ _ _ _ _ _ _ _ _ _ _ _ _ _ _ _ _ _ _ _ _ _ _ _ _ _ _ _ _ _ _ _ _ _ _ _ _ _ _ _
  · rw [HCL2.out (by rw [s1]; decide)] at cC
    rw [s1] at cC HD ⊢
    have CC := Lib.hid cC
    clear s1 cC
    clear e0 o1
    go_wp2_with (go_at_call 30; (with_reducible refine CC.out.mono ?_); rintro e w3 ⟨rfl, k3, kp3⟩; have K3 := Lib.hid k3; have B3 := Lib.hid (kp3.heap HS.out.2 rfl); clear k3 kp3)
    exact HD.out _ _ ((pst_x K3.out).fewer (fun _ h => h.elim)) _ _ _ _ _ _ _ _ _ _ _ _ _ _ _ _ _ _ _ _ _ _ _ _ _ _ _ _ _ _ _ _ _ _ _ _ _ _ _ _ _ _ _ _ _ _ _ _ _ _ _ _ _ _ _ _ _ _ _ _ _ _ _ _ _ _ _ _ _ _ _ _ _ _ _ _ _ _ _ _ _ _ _ _ _ _ _ _ _ _ _ _ _ _ _ _ _ _ _ _ _ _ _ _ _ _ _ _ _ _ _ _ _ _ _ _ _ _ _ _ _ _ _ _ _ _ _ _ _ _ _ _ _ _ _ _ _ _ _ _ _ _ _ _ _ _ _ _ _ _ _ _ _ _ _ _ _ _ _ _ _ _ _ _ _ _ _ _ _ _ _ _ _ _
  · rw [HCL2.out (by rw [s1]; decide)] at cC
    rw [s1] at cC HD ⊢
    have CC := Lib.hid cC
    clear s1 cC
    clear e0 e1
    go_wp2_with (go_at_call 30; (with_reducible refine CC.out.mono ?_); rintro e w3 ⟨rfl, k3, kp3⟩; have K3 := Lib.hid k3; have B3 := Lib.hid (kp3.heap HS.out.2 rfl); clear k3 kp3)
    exact HD.out _ _ ((pst_x K3.out).fewer (fun _ h => h.elim)) _ _ _ _ _ _ _ _ _ _ _ _ _ _ _ _ _ _ _ _ _ _ _ _ _ _ _ _ _ _ _ _ _ _ _ _ _ _ _ _ _ _ _ _ _ _ _ _ _ _ _ _ _ _ _ _ _ _ _ _ _ _ _ _ _ _ _ _ _ _ _ _ _ _ _ _ _ _ _ _ _ _ _ _ _ _ _ _ _ _ _ _ _ _ _ _ _ _ _ _ _ _ _ _ _ _ _ _ _ _ _ _ _ _ _ _ _ _ _ _ _ _ _ _ _ _ _ _ _ _ _ _ _ _ _ _ _ _ _ _ _ _ _ _ _ _ _ _ _ _ _ _ _ _ _ _ _ _ _ _ _ _ _ _ _ _ _ _ _ _ _ _ _ _
end Go.Proofs.Ytocaebcbmfejbaa
