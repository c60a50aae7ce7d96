/-
  The switch of PagesPlays' loop: calls of kind 5. No conditions but what the loop lays.
-/
import Derived.Test.YtgcjjgljllephaaLPl
import Derived.Deep.DeepCutAuto
import Derived.Deep.LoopGhost
import Derived.Deep.RegionHeld3
import Derived.BigQuiet
namespace Go.Proofs.Ytgcjjgljllephaa
open Go.ChangeShapes Go.WideShapes Go.ChangeAt Go.RowKit

set_option linter.unusedVariables false
set_option maxRecDepth 100000 in
set_option maxHeartbeats 60000000 in
theorem pl5 {w W : World} {a x ob n i : Nat} {F G : Nat → Prop} {L : List Pg} {p lp : Option Addr} (len cap ll lc : Nat)  (kf ka kn : Int) (bs : List UInt8) (Q : Exit → Act → World → Prop)
    (u2 u3 u4 u7 u9 u10 u11 u12 u13 u14 u15 u16 u17 u18 u19 u20 u21 u22 u23 u24 u25 u26 u27 u28 u29 u30 u31 u32 u33 u34 u35 u36 u37 u38 u39 u40 u41 u42 u43 u44 u45 u46 u47 u48 u49 u50 u51 u52 u53 u54 u55 u56 u57 u58 u59 u63 u64 u65 u66 u67 u68 u69 u70 u71 u74 u75 u76 u77 u78 u79 u80 u81 u82 u83 u84 u85 u86 u87 u88 u89 u90 u91 u92 u93 u94 u95 u96 u97 u98 u99 u100 u101 u102 u103 u104 u105 u106 u107 u108 u109 u110 u111 u112 u113 u114 u115 u116 u117 u118 u119 u120 u121 u122 u123 u124 u125 u126 u127 u128 u129 u130 u131 u132 u133 u134 u135 u136 u137 u138 u139 u140 u141 u142 u143 u144 u145 u146 u147 u148 u149 u150 u151 u152 u153 u154 u155 u156 u157 u158 u159 u160 u161 u162 u163 u164 u165 u166 u167 u168 u169 u170 u171 u172 u173 u174 u175 u176 u177 u178 u179 u180 u181 u182 u183 u184 u185 u186 u187 u188 u189 u190 u191 u192 u193 u194 u195 u196 u197 u198 u199 u200 u201 u202 u203 u204 u205 u206 u207 u208 u209 u210 u211 u212 u213 u214 u215 u216 u217 u218 u219 u220 u221 u222 u223 u224 u225 u226 u227 u228 u229 u230 u231 u232 u233 u234 u235 u236 u237 u238 u239 u240 u241 u242 u243 u244 u245 u246 u247 u248 u249 u250 u251 u252 u253 u254 u255 u256 u257 u258 u259 u260 u261 u262 u263 u264 u265 u266 u267 u268 u269 u270 u271 u272 u273 u274 u275 u276 u277 u278 u279 u280 u281 u282 u283 u284 u285 u286 u287 u288 u289 u290 u291 u292 u293 u294 u295 u296 u297 u298 u299 u300 u301 u302 u303 u304 u305 : Value)
    (k0 : W.cell? ⟨ob, 0, none⟩ = some (.int .i64 5))
    (k1 : W.cell? ⟨ob, 1, none⟩ = some (.int .i64 kf))
    (k2 : W.cell? ⟨ob, 2, none⟩ = some (.int .i64 ka))
    (k3 : W.cell? ⟨ob, 3, none⟩ = some (.int .i64 kn))
    (k4 : W.cell? ⟨ob, 4, none⟩ = some (.slice lp ll lc))
    (hfit : fit kf ∧ fit ka ∧ fit kn) (hi : i < 120) (hll : (ll : Int) ≤ 200) (hbl : Hid (bs.length = ll)) (hsr : Hid (Src w (.slice lp ll lc) bs))
    (HB : Hid (BSt w W a x n i ob F G L))
    (HD : Hid (∀ (F' G' : Nat → Prop) (L' : List Pg) (w' : World), BSt w w' a x n (i + 1) ob F' G' L' → w'.cell? ⟨ob, 1, none⟩ = some (.int .i64 kf) → ∀ y9 y10 y11 y12 y13 y14 y15 y16 y17 y18 y19 y20 y21 y22 y23 y24 y25 y73 y74 y75 y76 y77 y78 y79 y80 y81 y82 y83 y84 y85 y86 y87 y88 y89 y90 y91 y92 y93 y94 y95 y96 y97 y98 y99 y100 y101 y102 y103 y104 y105 y106 y107 y108 y109 y110 y111 y112 y113 y114 y115 y116 y117 y118 y119 y120 y121 y122 y123 y124 y125 y126 y127 y128 y129 y130 y131 y132 y133 y134 y135 y136 y137 y138 y139 y140 y141 y142 y143 y144 y145 y146 y147 y148 y149 y150 y151 y152 y153 y154 y155 y156 y157 y158 y159 y160 y161 y162 y163 y164 y165 y166 y167 y168 y169 y170 y171 y172 y173 y174 y175 y176 y177 y178 y179 y180 y181 y182 y183 y184 y185 y186 y187 y188 y189 y190 y191 y192 y193 y194 y195 y196 y197 y198 y199 y200 y201 y202 y203 y204 y205 y206 y207 y208 y209 y210 y211 y212 y213 y214 y215 y216 y217 y218 y219 y220 y221 y222 y223 y224 y225 y226 y227 y228 y229 y230 y231 y232 y233 y234 y235 y236 y237 y238 y239 : Value, Q Exit.normal ⟨(.int .i64 (n : Int) :: .slice p len cap :: u2 :: u3 :: u4 :: .pointer (some ⟨a, 0, none⟩) :: .pointer (some ⟨x, 0, none⟩) :: u7 :: .pointer (some ⟨ob, 0, none⟩) :: y9 :: y10 :: y11 :: y12 :: y13 :: y14 :: y15 :: y16 :: y17 :: y18 :: y19 :: y20 :: y21 :: y22 :: y23 :: y24 :: y25 :: u26 :: u27 :: u28 :: u29 :: u30 :: u31 :: u32 :: u33 :: u34 :: u35 :: u36 :: u37 :: u38 :: u39 :: u40 :: u41 :: u42 :: u43 :: u44 :: u45 :: u46 :: u47 :: u48 :: u49 :: u50 :: u51 :: u52 :: u53 :: u54 :: u55 :: u56 :: u57 :: u58 :: u59 :: .slice p len cap :: .int .i64 (len : Int) :: .int .i64 (i : Int) :: u63 :: u64 :: u65 :: u66 :: u67 :: u68 :: u69 :: u70 :: u71 :: .int .i64 5 :: y73 :: y74 :: y75 :: y76 :: y77 :: y78 :: y79 :: y80 :: y81 :: y82 :: y83 :: y84 :: y85 :: y86 :: y87 :: y88 :: y89 :: y90 :: y91 :: y92 :: y93 :: y94 :: y95 :: y96 :: y97 :: y98 :: y99 :: y100 :: y101 :: y102 :: y103 :: y104 :: y105 :: y106 :: y107 :: y108 :: y109 :: y110 :: y111 :: y112 :: y113 :: y114 :: y115 :: y116 :: y117 :: y118 :: y119 :: y120 :: y121 :: y122 :: y123 :: y124 :: y125 :: y126 :: y127 :: y128 :: y129 :: y130 :: y131 :: y132 :: y133 :: y134 :: y135 :: y136 :: y137 :: y138 :: y139 :: y140 :: y141 :: y142 :: y143 :: y144 :: y145 :: y146 :: y147 :: y148 :: y149 :: y150 :: y151 :: y152 :: y153 :: y154 :: y155 :: y156 :: y157 :: y158 :: y159 :: y160 :: y161 :: y162 :: y163 :: y164 :: y165 :: y166 :: y167 :: y168 :: y169 :: y170 :: y171 :: y172 :: y173 :: y174 :: y175 :: y176 :: y177 :: y178 :: y179 :: y180 :: y181 :: y182 :: y183 :: y184 :: y185 :: y186 :: y187 :: y188 :: y189 :: y190 :: y191 :: y192 :: y193 :: y194 :: y195 :: y196 :: y197 :: y198 :: y199 :: y200 :: y201 :: y202 :: y203 :: y204 :: y205 :: y206 :: y207 :: y208 :: y209 :: y210 :: y211 :: y212 :: y213 :: y214 :: y215 :: y216 :: y217 :: y218 :: y219 :: y220 :: y221 :: y222 :: y223 :: y224 :: y225 :: y226 :: y227 :: y228 :: y229 :: y230 :: y231 :: y232 :: y233 :: y234 :: y235 :: y236 :: y237 :: y238 :: y239 :: u240 :: u241 :: u242 :: u243 :: u244 :: u245 :: u246 :: u247 :: u248 :: u249 :: u250 :: u251 :: u252 :: u253 :: u254 :: u255 :: u256 :: u257 :: u258 :: u259 :: u260 :: u261 :: u262 :: u263 :: u264 :: u265 :: u266 :: u267 :: u268 :: u269 :: u270 :: u271 :: u272 :: u273 :: u274 :: u275 :: u276 :: u277 :: u278 :: u279 :: u280 :: u281 :: u282 :: u283 :: u284 :: u285 :: u286 :: u287 :: u288 :: u289 :: u290 :: u291 :: u292 :: u293 :: u294 :: u295 :: u296 :: u297 :: u298 :: u299 :: u300 :: u301 :: u302 :: u303 :: u304 :: u305 :: [] : List Value).toArray, []⟩ w')) :
    Code.wp Try.prog (condP 73) Q ⟨(.int .i64 (n : Int) :: .slice p len cap :: u2 :: u3 :: u4 :: .pointer (some ⟨a, 0, none⟩) :: .pointer (some ⟨x, 0, none⟩) :: u7 :: .pointer (some ⟨ob, 0, none⟩) :: u9 :: u10 :: u11 :: u12 :: u13 :: u14 :: u15 :: u16 :: u17 :: u18 :: u19 :: u20 :: u21 :: u22 :: u23 :: u24 :: u25 :: u26 :: u27 :: u28 :: u29 :: u30 :: u31 :: u32 :: u33 :: u34 :: u35 :: u36 :: u37 :: u38 :: u39 :: u40 :: u41 :: u42 :: u43 :: u44 :: u45 :: u46 :: u47 :: u48 :: u49 :: u50 :: u51 :: u52 :: u53 :: u54 :: u55 :: u56 :: u57 :: u58 :: u59 :: .slice p len cap :: .int .i64 (len : Int) :: .int .i64 (i : Int) :: u63 :: u64 :: u65 :: u66 :: u67 :: u68 :: u69 :: u70 :: u71 :: .int .i64 5 :: .bool ((5 : Int) == 1) :: u74 :: u75 :: u76 :: u77 :: u78 :: u79 :: u80 :: u81 :: u82 :: u83 :: u84 :: u85 :: u86 :: u87 :: u88 :: u89 :: u90 :: u91 :: u92 :: u93 :: u94 :: u95 :: u96 :: u97 :: u98 :: u99 :: u100 :: u101 :: u102 :: u103 :: u104 :: u105 :: u106 :: u107 :: u108 :: u109 :: u110 :: u111 :: u112 :: u113 :: u114 :: u115 :: u116 :: u117 :: u118 :: u119 :: u120 :: u121 :: u122 :: u123 :: u124 :: u125 :: u126 :: u127 :: u128 :: u129 :: u130 :: u131 :: u132 :: u133 :: u134 :: u135 :: u136 :: u137 :: u138 :: u139 :: u140 :: u141 :: u142 :: u143 :: u144 :: u145 :: u146 :: u147 :: u148 :: u149 :: u150 :: u151 :: u152 :: u153 :: u154 :: u155 :: u156 :: u157 :: u158 :: u159 :: u160 :: u161 :: u162 :: u163 :: u164 :: u165 :: u166 :: u167 :: u168 :: u169 :: u170 :: u171 :: u172 :: u173 :: u174 :: u175 :: u176 :: u177 :: u178 :: u179 :: u180 :: u181 :: u182 :: u183 :: u184 :: u185 :: u186 :: u187 :: u188 :: u189 :: u190 :: u191 :: u192 :: u193 :: u194 :: u195 :: u196 :: u197 :: u198 :: u199 :: u200 :: u201 :: u202 :: u203 :: u204 :: u205 :: u206 :: u207 :: u208 :: u209 :: u210 :: u211 :: u212 :: u213 :: u214 :: u215 :: u216 :: u217 :: u218 :: u219 :: u220 :: u221 :: u222 :: u223 :: u224 :: u225 :: u226 :: u227 :: u228 :: u229 :: u230 :: u231 :: u232 :: u233 :: u234 :: u235 :: u236 :: u237 :: u238 :: u239 :: u240 :: u241 :: u242 :: u243 :: u244 :: u245 :: u246 :: u247 :: u248 :: u249 :: u250 :: u251 :: u252 :: u253 :: u254 :: u255 :: u256 :: u257 :: u258 :: u259 :: u260 :: u261 :: u262 :: u263 :: u264 :: u265 :: u266 :: u267 :: u268 :: u269 :: u270 :: u271 :: u272 :: u273 :: u274 :: u275 :: u276 :: u277 :: u278 :: u279 :: u280 :: u281 :: u282 :: u283 :: u284 :: u285 :: u286 :: u287 :: u288 :: u289 :: u290 :: u291 :: u292 :: u293 :: u294 :: u295 :: u296 :: u297 :: u298 :: u299 :: u300 :: u301 :: u302 :: u303 :: u304 :: u305 :: [] : List Value).toArray, []⟩ W := by
  conv => arg 2; whnf
  by_cases hs : withinS L kf ka kn = 0
  · have cP := read_any HB.out.d.st.pool kf ka kn hs
    have cR := Lib.hid (fun (w4 : World) (h : MSt w w4 a x ob F G L L) => rread_any h.st.ref kf ka kn hs)
    obtain ⟨rs, hrs⟩ : ∃ rs, readB L kf ka kn = rs := ⟨_, rfl⟩
    rw [hrs] at cP cR
    obtain ⟨m, hm⟩ : ∃ m, rs.length = m := ⟨_, rfl⟩
    have HM := Lib.hid hm
    have hm64 : m ≤ 64 := by
      have h1 : m ≤ kn.toNat := by rw [← hm, ← hrs]; unfold readB; rw [List.length_take]; omega
      rcases within_cases (L := L) (f := kf) (b := ka) (n := kn) with ⟨-, h2⟩ | ⟨-, h2, -⟩ | ⟨-, -, h2⟩
      · omega
      · unfold inB at h2
        rw [decide_eq_true_iff] at h2
        omega
      · omega
    clear hs hrs hm
    go_wp2_with (first
      | (go_at_call 21; (with_reducible refine cP.mono ?_); rintro y w4 ⟨v4, rfl, B4, f4, t4⟩; obtain ⟨p4, c4, hv4⟩ := own_slice B4; rw [HM.out] at hv4; subst hv4; have K4 := Lib.hid (HB.out.m.past t4); have k1' := kept1 t4 k1 (fun h => h); have k2' := kept1 t4 k2 (fun h => h); have k3' := kept1 t4 k3 (fun h => h); have B4' := Lib.hid (And.intro B4 f4); clear B4 f4 t4)
      | (go_at_call 22; (with_reducible refine (cR.out _ K4.out).mono ?_); rintro y w5 ⟨v5, rfl, B5, f5, t5⟩; obtain ⟨p5, c5, hv5⟩ := own_slice B5; rw [HM.out] at hv5; subst hv5; have K5 := Lib.hid (K4.out.past t5); have k1'' := kept1 t5 k1' (fun h => h); have B5' := Lib.hid (And.intro B5 (show Byts (.slice p4 m c4) rs w5 from (own_byts _ _).kept _ _ _ B4'.out.1 t5 (fun _ _ h => h))); clear B5 f5 t5)
      | (go_at_call 23; (with_reducible refine (same_any _ _ _ _ B5'.out.2.src B5'.out.1.src).mono ?_); rintro y w6 ⟨rfl, rfl⟩))
    go_loopg [23, 197] m (fun g s23 s197 wx => ∃ j : Nat, j ≤ m ∧ g = m - j ∧ s197 = .int .i64 j ∧ Hid (∃ bs', bs'.length = m ∧ Byts (.slice p4 m c4) bs' wx) ∧ Hid (Turn (Blk (.slice p4 m c4)) w5 wx))
    case atStart => exact ⟨0, by omega, by omega, rfl, Lib.hid ⟨rs, HM.out, B5'.out.2⟩, Lib.hid (Turn.refl _ _)⟩
    case round =>
      obtain ⟨j, hj, hg, rfl, HX, HT⟩ := hrel
      by_cases hlt : j < m
      · obtain ⟨bs', hl, hB⟩ := HX.out
        obtain ⟨gb, cb, hv, -, -⟩ := own_shape hB (by rw [hl]; omega)
        rw [hl] at hv
        simp only [Value.slice.injEq, true_and] at hv
        obtain ⟨rfl, rfl⟩ := hv
        obtain ⟨y, y1, y2, y3, bs2, y4, y5⟩ := byts_up hB hl hlt
        have HY := Lib.hid (And.intro y4 y5)
        clear hB hl y4 y5
        go_wp2
        go_roundg (m - (j + 1))
        case measure => omega
        case rel => exact ⟨j + 1, by omega, by omega, by go_num, Lib.hid ⟨bs2, HY.out⟩, Lib.hid (HT.out.setCell (p := ⟨gb, j, none⟩) (.inl rfl) _)⟩
      · obtain rfl : j = m := by omega
        have K8 := K5.out.aside HT.out (fun q hq => HB.out.d.st.news (B4'.out.2 q hq))
        have k8 := kept1 HT.out k1'' (fun h => by have h1 := B4'.out.2 _ h; have h2 := HB.out.lt; omega)
        have K8 := Lib.hid K8
        go_wp2
        exact HD.out _ _ _ _ (K8.out.b HB.out.d.inv.mono HB.out.d.len) k8 _ _ _ _ _ _ _ _ _ _ _ _ _ _ _ _ _ _ _ _ _ _ _ _ _ _ _ _ _ _ _ _ _ _ _ _ _ _ _ _ _ _ _ _ _ _ _ _ _ _ _ _ _ _ _ _ _ _ _ _ _ _ _ _ _ _ _ _ _ _ _ _ _ _ _ _ _ _ _ _ _ _ _ _ _ _ _ _ _ _ _ _ _ _ _ _ _ _ _ _ _ _ _ _ _ _ _ _ _ _ _ _ _ _ _ _ _ _ _ _ _ _ _ _ _ _ _ _ _ _ _ _ _ _ _ _ _ _ _ _ _ _ _ _ _ _ _ _ _ _ _ _ _ _ _ _ _ _ _ _ _ _ _ _ _ _ _ _ _ _ _ _ _ _ _ _ _ _ _ _ _ _ _ _
  · have cP := read_no HB.out.d.st.pool kf ka kn hs
    have cR := rread_no HB.out.d.st.ref kf ka kn hs
    have hsn := Src.past (w := w) (w' := w) (v := .slice none 0 0) (bs := []) (.inl ⟨⟨_, _, rfl⟩, rfl⟩) (Turn.refl _ _)
    generalize withinS L kf ka kn = S at *
    have cS := same_any W (.slice none 0 0) (.slice none 0 0) [] (.inl ⟨⟨_, _, rfl⟩, rfl⟩) (.inl ⟨⟨_, _, rfl⟩, rfl⟩)
    clear hs hsn
    go_wp2_with (first
      | (go_at_call 21; (with_reducible refine cP.mono ?_); rintro y w4 ⟨rfl, rfl⟩)
      | (go_at_call 22; (with_reducible refine cR.mono ?_); rintro y w5 ⟨rfl, rfl⟩)
      | (go_at_call 23; (with_reducible refine cS.mono ?_); rintro y w6 ⟨rfl, rfl⟩))
    go_loopg [23, 197] 0 (fun g s23 s197 wx => s197 = .int .i64 0 ∧ W = wx)
    case atStart => exact ⟨rfl, rfl⟩
    case round =>
      obtain ⟨rfl, rfl⟩ := hrel
      go_wp2
      exact HD.out _ _ _ _ (HB.out.m.b HB.out.d.inv.mono HB.out.d.len) k1 _ _ _ _ _ _ _ _ _ _ _ _ _ _ _ _ _ _ _ _ _ _ _ _ _ _ _ _ _ _ _ _ _ _ _ _ _ _ _ _ _ _ _ _ _ _ _ _ _ _ _ _ _ _ _ _ _ _ _ _ _ _ _ _ _ _ _ _ _ _ _ _ _ _ _ _ _ _ _ _ _ _ _ _ _ _ _ _ _ _ _ _ _ _ _ _ _ _ _ _ _ _ _ _ _ _ _ _ _ _ _ _ _ _ _ _ _ _ _ _ _ _ _ _ _ _ _ _ _ _ _ _ _ _ _ _ _ _ _ _ _ _ _ _ _ _ _ _ _ _ _ _ _ _ _ _ _ _ _ _ _ _ _ _ _ _ _ _ _ _ _ _ _ _ _ _ _ _ _ _ _ _ _ _
end Go.Proofs.Ytgcjjgljllephaa
