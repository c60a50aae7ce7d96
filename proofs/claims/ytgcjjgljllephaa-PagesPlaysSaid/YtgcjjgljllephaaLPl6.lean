/-
  The switch of PagesPlays' loop: calls of kind 6. No conditions but what the loop lays.
-/
import Derived.Test.YtgcjjgljllephaaLPl
import Derived.Deep.DeepCutAuto
import Derived.Deep.LoopGhost
import Derived.Deep.RegionHeld3
import Derived.BigQuiet
namespace Go.Proofs.Ytgcjjgljllephaa
open Go.ChangeShapes Go.WideShapes Go.ChangeAt Go.RowKit

set_option linter.unusedVariables false
set_option maxRecDepth 100000 in
set_option maxHeartbeats 60000000 in
theorem pl6 {w W : World} {a x ob n i : Nat} {F G : Nat → Prop} {L : List Pg} {p lp : Option Addr} (len cap ll lc : Nat)  (kf ka kn : Int) (bs : List UInt8) (Q : Exit → Act → World → Prop)
    (u2 u3 u4 u7 u9 u10 u11 u12 u13 u14 u15 u16 u17 u18 u19 u20 u21 u22 u23 u24 u25 u26 u27 u28 u29 u30 u31 u32 u33 u34 u35 u36 u37 u38 u39 u40 u41 u42 u43 u44 u45 u46 u47 u48 u49 u50 u51 u52 u53 u54 u55 u56 u57 u58 u59 u63 u64 u65 u66 u67 u68 u69 u70 u71 u74 u75 u76 u77 u78 u79 u80 u81 u82 u83 u84 u85 u86 u87 u88 u89 u90 u91 u92 u93 u94 u95 u96 u97 u98 u99 u100 u101 u102 u103 u104 u105 u106 u107 u108 u109 u110 u111 u112 u113 u114 u115 u116 u117 u118 u119 u120 u121 u122 u123 u124 u125 u126 u127 u128 u129 u130 u131 u132 u133 u134 u135 u136 u137 u138 u139 u140 u141 u142 u143 u144 u145 u146 u147 u148 u149 u150 u151 u152 u153 u154 u155 u156 u157 u158 u159 u160 u161 u162 u163 u164 u165 u166 u167 u168 u169 u170 u171 u172 u173 u174 u175 u176 u177 u178 u179 u180 u181 u182 u183 u184 u185 u186 u187 u188 u189 u190 u191 u192 u193 u194 u195 u196 u197 u198 u199 u200 u201 u202 u203 u204 u205 u206 u207 u208 u209 u210 u211 u212 u213 u214 u215 u216 u217 u218 u219 u220 u221 u222 u223 u224 u225 u226 u227 u228 u229 u230 u231 u232 u233 u234 u235 u236 u237 u238 u239 u240 u241 u242 u243 u244 u245 u246 u247 u248 u249 u250 u251 u252 u253 u254 u255 u256 u257 u258 u259 u260 u261 u262 u263 u264 u265 u266 u267 u268 u269 u270 u271 u272 u273 u274 u275 u276 u277 u278 u279 u280 u281 u282 u283 u284 u285 u286 u287 u288 u289 u290 u291 u292 u293 u294 u295 u296 u297 u298 u299 u300 u301 u302 u303 u304 u305 : Value)
    (k0 : W.cell? ⟨ob, 0, none⟩ = some (.int .i64 6))
    (k1 : W.cell? ⟨ob, 1, none⟩ = some (.int .i64 kf))
    (k2 : W.cell? ⟨ob, 2, none⟩ = some (.int .i64 ka))
    (k3 : W.cell? ⟨ob, 3, none⟩ = some (.int .i64 kn))
    (k4 : W.cell? ⟨ob, 4, none⟩ = some (.slice lp ll lc))
    (hfit : fit kf ∧ fit ka ∧ fit kn) (hi : i < 120) (hll : (ll : Int) ≤ 200) (hbl : Hid (bs.length = ll)) (hsr : Hid (Src w (.slice lp ll lc) bs))
    (HB : Hid (BSt w W a x n i ob F G L))
    (HD : Hid (∀ (F' G' : Nat → Prop) (L' : List Pg) (w' : World), BSt w w' a x n (i + 1) ob F' G' L' → w'.cell? ⟨ob, 1, none⟩ = some (.int .i64 kf) → ∀ y9 y10 y11 y12 y13 y14 y15 y16 y17 y18 y19 y20 y21 y22 y23 y24 y25 y73 y74 y75 y76 y77 y78 y79 y80 y81 y82 y83 y84 y85 y86 y87 y88 y89 y90 y91 y92 y93 y94 y95 y96 y97 y98 y99 y100 y101 y102 y103 y104 y105 y106 y107 y108 y109 y110 y111 y112 y113 y114 y115 y116 y117 y118 y119 y120 y121 y122 y123 y124 y125 y126 y127 y128 y129 y130 y131 y132 y133 y134 y135 y136 y137 y138 y139 y140 y141 y142 y143 y144 y145 y146 y147 y148 y149 y150 y151 y152 y153 y154 y155 y156 y157 y158 y159 y160 y161 y162 y163 y164 y165 y166 y167 y168 y169 y170 y171 y172 y173 y174 y175 y176 y177 y178 y179 y180 y181 y182 y183 y184 y185 y186 y187 y188 y189 y190 y191 y192 y193 y194 y195 y196 y197 y198 y199 y200 y201 y202 y203 y204 y205 y206 y207 y208 y209 y210 y211 y212 y213 y214 y215 y216 y217 y218 y219 y220 y221 y222 y223 y224 y225 y226 y227 y228 y229 y230 y231 y232 y233 y234 y235 y236 y237 y238 y239 : Value, Q Exit.normal ⟨(.int .i64 (n : Int) :: .slice p len cap :: u2 :: u3 :: u4 :: .pointer (some ⟨a, 0, none⟩) :: .pointer (some ⟨x, 0, none⟩) :: u7 :: .pointer (some ⟨ob, 0, none⟩) :: y9 :: y10 :: y11 :: y12 :: y13 :: y14 :: y15 :: y16 :: y17 :: y18 :: y19 :: y20 :: y21 :: y22 :: y23 :: y24 :: y25 :: u26 :: u27 :: u28 :: u29 :: u30 :: u31 :: u32 :: u33 :: u34 :: u35 :: u36 :: u37 :: u38 :: u39 :: u40 :: u41 :: u42 :: u43 :: u44 :: u45 :: u46 :: u47 :: u48 :: u49 :: u50 :: u51 :: u52 :: u53 :: u54 :: u55 :: u56 :: u57 :: u58 :: u59 :: .slice p len cap :: .int .i64 (len : Int) :: .int .i64 (i : Int) :: u63 :: u64 :: u65 :: u66 :: u67 :: u68 :: u69 :: u70 :: u71 :: .int .i64 6 :: y73 :: y74 :: y75 :: y76 :: y77 :: y78 :: y79 :: y80 :: y81 :: y82 :: y83 :: y84 :: y85 :: y86 :: y87 :: y88 :: y89 :: y90 :: y91 :: y92 :: y93 :: y94 :: y95 :: y96 :: y97 :: y98 :: y99 :: y100 :: y101 :: y102 :: y103 :: y104 :: y105 :: y106 :: y107 :: y108 :: y109 :: y110 :: y111 :: y112 :: y113 :: y114 :: y115 :: y116 :: y117 :: y118 :: y119 :: y120 :: y121 :: y122 :: y123 :: y124 :: y125 :: y126 :: y127 :: y128 :: y129 :: y130 :: y131 :: y132 :: y133 :: y134 :: y135 :: y136 :: y137 :: y138 :: y139 :: y140 :: y141 :: y142 :: y143 :: y144 :: y145 :: y146 :: y147 :: y148 :: y149 :: y150 :: y151 :: y152 :: y153 :: y154 :: y155 :: y156 :: y157 :: y158 :: y159 :: y160 :: y161 :: y162 :: y163 :: y164 :: y165 :: y166 :: y167 :: y168 :: y169 :: y170 :: y171 :: y172 :: y173 :: y174 :: y175 :: y176 :: y177 :: y178 :: y179 :: y180 :: y181 :: y182 :: y183 :: y184 :: y185 :: y186 :: y187 :: y188 :: y189 :: y190 :: y191 :: y192 :: y193 :: y194 :: y195 :: y196 :: y197 :: y198 :: y199 :: y200 :: y201 :: y202 :: y203 :: y204 :: y205 :: y206 :: y207 :: y208 :: y209 :: y210 :: y211 :: y212 :: y213 :: y214 :: y215 :: y216 :: y217 :: y218 :: y219 :: y220 :: y221 :: y222 :: y223 :: y224 :: y225 :: y226 :: y227 :: y228 :: y229 :: y230 :: y231 :: y232 :: y233 :: y234 :: y235 :: y236 :: y237 :: y238 :: y239 :: u240 :: u241 :: u242 :: u243 :: u244 :: u245 :: u246 :: u247 :: u248 :: u249 :: u250 :: u251 :: u252 :: u253 :: u254 :: u255 :: u256 :: u257 :: u258 :: u259 :: u260 :: u261 :: u262 :: u263 :: u264 :: u265 :: u266 :: u267 :: u268 :: u269 :: u270 :: u271 :: u272 :: u273 :: u274 :: u275 :: u276 :: u277 :: u278 :: u279 :: u280 :: u281 :: u282 :: u283 :: u284 :: u285 :: u286 :: u287 :: u288 :: u289 :: u290 :: u291 :: u292 :: u293 :: u294 :: u295 :: u296 :: u297 :: u298 :: u299 :: u300 :: u301 :: u302 :: u303 :: u304 :: u305 :: [] : List Value).toArray, []⟩ w')) :
    Code.wp Try.prog (condP 73) Q ⟨(.int .i64 (n : Int) :: .slice p len cap :: u2 :: u3 :: u4 :: .pointer (some ⟨a, 0, none⟩) :: .pointer (some ⟨x, 0, none⟩) :: u7 :: .pointer (some ⟨ob, 0, none⟩) :: u9 :: u10 :: u11 :: u12 :: u13 :: u14 :: u15 :: u16 :: u17 :: u18 :: u19 :: u20 :: u21 :: u22 :: u23 :: u24 :: u25 :: u26 :: u27 :: u28 :: u29 :: u30 :: u31 :: u32 :: u33 :: u34 :: u35 :: u36 :: u37 :: u38 :: u39 :: u40 :: u41 :: u42 :: u43 :: u44 :: u45 :: u46 :: u47 :: u48 :: u49 :: u50 :: u51 :: u52 :: u53 :: u54 :: u55 :: u56 :: u57 :: u58 :: u59 :: .slice p len cap :: .int .i64 (len : Int) :: .int .i64 (i : Int) :: u63 :: u64 :: u65 :: u66 :: u67 :: u68 :: u69 :: u70 :: u71 :: .int .i64 6 :: .bool ((6 : Int) == 1) :: u74 :: u75 :: u76 :: u77 :: u78 :: u79 :: u80 :: u81 :: u82 :: u83 :: u84 :: u85 :: u86 :: u87 :: u88 :: u89 :: u90 :: u91 :: u92 :: u93 :: u94 :: u95 :: u96 :: u97 :: u98 :: u99 :: u100 :: u101 :: u102 :: u103 :: u104 :: u105 :: u106 :: u107 :: u108 :: u109 :: u110 :: u111 :: u112 :: u113 :: u114 :: u115 :: u116 :: u117 :: u118 :: u119 :: u120 :: u121 :: u122 :: u123 :: u124 :: u125 :: u126 :: u127 :: u128 :: u129 :: u130 :: u131 :: u132 :: u133 :: u134 :: u135 :: u136 :: u137 :: u138 :: u139 :: u140 :: u141 :: u142 :: u143 :: u144 :: u145 :: u146 :: u147 :: u148 :: u149 :: u150 :: u151 :: u152 :: u153 :: u154 :: u155 :: u156 :: u157 :: u158 :: u159 :: u160 :: u161 :: u162 :: u163 :: u164 :: u165 :: u166 :: u167 :: u168 :: u169 :: u170 :: u171 :: u172 :: u173 :: u174 :: u175 :: u176 :: u177 :: u178 :: u179 :: u180 :: u181 :: u182 :: u183 :: u184 :: u185 :: u186 :: u187 :: u188 :: u189 :: u190 :: u191 :: u192 :: u193 :: u194 :: u195 :: u196 :: u197 :: u198 :: u199 :: u200 :: u201 :: u202 :: u203 :: u204 :: u205 :: u206 :: u207 :: u208 :: u209 :: u210 :: u211 :: u212 :: u213 :: u214 :: u215 :: u216 :: u217 :: u218 :: u219 :: u220 :: u221 :: u222 :: u223 :: u224 :: u225 :: u226 :: u227 :: u228 :: u229 :: u230 :: u231 :: u232 :: u233 :: u234 :: u235 :: u236 :: u237 :: u238 :: u239 :: u240 :: u241 :: u242 :: u243 :: u244 :: u245 :: u246 :: u247 :: u248 :: u249 :: u250 :: u251 :: u252 :: u253 :: u254 :: u255 :: u256 :: u257 :: u258 :: u259 :: u260 :: u261 :: u262 :: u263 :: u264 :: u265 :: u266 :: u267 :: u268 :: u269 :: u270 :: u271 :: u272 :: u273 :: u274 :: u275 :: u276 :: u277 :: u278 :: u279 :: u280 :: u281 :: u282 :: u283 :: u284 :: u285 :: u286 :: u287 :: u288 :: u289 :: u290 :: u291 :: u292 :: u293 :: u294 :: u295 :: u296 :: u297 :: u298 :: u299 :: u300 :: u301 :: u302 :: u303 :: u304 :: u305 :: [] : List Value).toArray, []⟩ W := by
  conv => arg 2; whnf
  have hbb := hbl.out
  have cC := rcopy_any (w := W) (.slice lp ll lc) bs (hsr.out.past HB.out.d.st.turn) (by omega)
  have cW := Lib.hid (fun (w4 : World) (F4 G4 : Nat → Prop) (L4 : List Pg) (v : Value) (h : MSt w w4 a x ob F4 G4 L L4) (hv : Src w4 v bs) => write_any h.st.pool kf ka v bs hv)
  have cR := Lib.hid (fun (w4 : World) (F4 G4 : Nat → Prop) (L4 : List Pg) (h : MSt w w4 a x ob F4 G4 L4 L) => rwrite_any h.st.ref kf ka (.slice lp ll lc) bs (fun w' t => hsr.out.past (h.st.turn.trans t (fun j hj => .inr (h.st.lg j hj)))) (by omega))
  have hIv := Lib.hid (HB.out.d.inv.write kf ka bs)
  have hLn := Lib.hid (show (writeL L kf ka bs).length = n by rw [writeL_len]; exact HB.out.d.len)
  generalize writeL L kf ka bs = L2 at *
  rw [hbb] at cW cR
  generalize writeS L kf ka ll = S at *
  clear hbb
  have HLl := hbl
  go_upto_region 46 with (go_at_call 24; (with_reducible refine cC.mono ?_); rintro y w3 ⟨v3, rfl, B3, f3, t3⟩; obtain ⟨p3, c3, hv3⟩ := own_slice B3; rw [HLl.out] at hv3; subst hv3; have K3 := Lib.hid (HB.out.m.past t3); have k1a := kept1 t3 k1 (fun h => h); have k2a := kept1 t3 k2 (fun h => h); have k4a := kept1 t3 k4 (fun h => h); have B3' := Lib.hid (And.intro B3 (fun q hq => HB.out.d.st.news (f3 q hq))); have O3 := Lib.hid (show ¬ Blk (.slice p3 ll c3) ob from fun h => by have h1 := f3 _ h; have h2 := HB.out.lt; omega); clear B3 f3 t3)
  clear k0 k1 k2 k3 k4
  have K3 := Lib.hid (show MSt w w3.drew a x ob F G L L from K3.out.past (Turn.refl _ _).drew)
  have B3' := Lib.hid (show Byts (.slice p3 ll c3) bs w3.drew ∧ ∀ q, Blk (.slice p3 ll c3) q → w.heap.size ≤ q ∧ ¬ F q ∧ ¬ G q from ⟨(own_byts _ _).kept _ _ _ B3'.out.1 (Turn.refl NoBlock _).drew (fun _ _ h => h), B3'.out.2⟩)
  have k1d : w3.drew.cell? ⟨ob, 1, none⟩ = some (.int .i64 kf) := k1a
  have k2d : w3.drew.cell? ⟨ob, 2, none⟩ = some (.int .i64 ka) := k2a
  have k4d : w3.drew.cell? ⟨ob, 4, none⟩ = some (.slice lp ll lc) := k4a
  go_region_held3 (fun w' => w'.cell? ⟨ob, 1, none⟩ = some (.int .i64 kf) ∧ w'.cell? ⟨ob, 2, none⟩ = some (.int .i64 ka) ∧ w'.cell? ⟨ob, 4, none⟩ = some (.slice lp ll lc)) ((first | assumption | (refine ⟨?_, ?_, ?_⟩ <;> (first | assumption | exact k1d | exact k2d | exact k4d))))
    (first
      | (go_at_call 25; (with_reducible refine (cW.out _ _ _ _ _ K3.out B3'.out.1.src).mono ?_); rintro y w4 ⟨rfl, h4, t4⟩; have K4 := Lib.hid (And.intro (K3.out.step1 h4 t4 (fun j hj => .inl hj)) (show Byts (.slice p3 ll c3) bs w4 from (own_byts _ _).kept _ _ _ B3'.out.1 t4 (fun q hq hf => (B3'.out.2 q hq).2.1 hf))); have k1b := kept1 t4 k1d K3.out.nf; have k2b := kept1 t4 k2d K3.out.nf; have k4b := kept1 t4 k4d K3.out.nf; clear h4 t4)
      | (go_at_call 26; (with_reducible refine (cR.out _ _ _ _ K4.out.1).mono ?_); rintro y w5 ⟨rfl, h5, t5⟩; have K6 := Lib.hid (And.intro (K4.out.1.step2 h5 t5 (fun j hj => .inl hj)) (show Byts (.slice p3 ll c3) bs w5 from (own_byts _ _).kept _ _ _ K4.out.2 t5 (fun q hq hf => (B3'.out.2 q hq).2.2 hf))); have k1c := kept1 t5 k1b K4.out.1.ng; have k2c := kept1 t5 k2b K4.out.1.ng; have k4c := kept1 t5 k4b K4.out.1.ng; clear h5 t5)
      | (go_at_call 26; (with_reducible refine (cR.out _ _ _ _ K3.out).mono ?_); rintro y w5 ⟨rfl, h5, t5⟩; have K5 := Lib.hid (And.intro (K3.out.step2 h5 t5 (fun j hj => .inl hj)) (show Byts (.slice p3 ll c3) bs w5 from (own_byts _ _).kept _ _ _ B3'.out.1 t5 (fun q hq hf => (B3'.out.2 q hq).2.2 hf))); have k1b := kept1 t5 k1d K3.out.ng; have k2b := kept1 t5 k2d K3.out.ng; have k4b := kept1 t5 k4d K3.out.ng; clear h5 t5)
      | (go_at_call 25; (with_reducible refine (cW.out _ _ _ _ _ K5.out.1 K5.out.2.src).mono ?_); rintro y w4 ⟨rfl, h4, t4⟩; have K6 := Lib.hid (And.intro (K5.out.1.step1 h4 t4 (fun j hj => .inl hj)) (show Byts (.slice p3 ll c3) bs w4 from (own_byts _ _).kept _ _ _ K5.out.2 t4 (fun q hq hf => (B3'.out.2 q hq).2.1 hf))); have k1c := kept1 t4 k1b K5.out.1.nf; have k2c := kept1 t4 k2b K5.out.1.nf; have k4c := kept1 t4 k4b K5.out.1.nf; clear h4 t4))
  all_goals
    go_wp2
    go_loopg [25, 230] ll (fun g s25 s230 wx => ∃ j : Nat, j ≤ ll ∧ g = ll - j ∧ s230 = .int .i64 j ∧ Hid (∃ bs', bs'.length = ll ∧ Byts (.slice p3 ll c3) bs' wx) ∧ Hid (MSt w wx a x ob F G L2 L2) ∧ Hid (wx.cell? ⟨ob, 1, none⟩ = some (.int .i64 kf)))
    case atStart => exact ⟨0, by omega, by omega, rfl, Lib.hid ⟨bs, HLl.out, K6.out.2⟩, Lib.hid K6.out.1, Lib.hid k1c⟩
    case round =>
      obtain ⟨j, hj, hg, rfl, HX, HT, HC⟩ := hrel
      by_cases hlt : j < ll
      · obtain ⟨bs', hl, hB⟩ := HX.out
        obtain ⟨gb, cb, hv, -, -⟩ := own_shape hB (by rw [hl]; omega)
        rw [hl] at hv
        simp only [Value.slice.injEq, true_and] at hv
        obtain ⟨rfl, rfl⟩ := hv
        obtain ⟨y, y1, y2, y3, bs2, y4, y5⟩ := byts_up hB hl hlt
        have HY := Lib.hid (And.intro y4 y5)
        have hT : Turn (Blk (.slice (some ⟨gb, 0, none⟩) ll c3)) wr (wr.setCell ⟨gb, j, none⟩ (.int .u8 (((y + 1 : UInt8).toNat : Nat) : Int))) := (Turn.refl (Blk (.slice (some ⟨gb, 0, none⟩) ll c3)) wr).setCell (p := ⟨gb, j, none⟩) (.inl rfl) _
        have HT2 := Lib.hid (And.intro (HT.out.aside hT B3'.out.2) (kept1 hT HC.out O3.out))
        clear hB hl y4 y5 hT
        go_wp2
        go_roundg (ll - (j + 1))
        case measure => omega
        case rel => exact ⟨j + 1, by omega, by omega, by go_num, Lib.hid ⟨bs2, HY.out⟩, Lib.hid HT2.out.1, Lib.hid HT2.out.2⟩
      · obtain rfl : j = ll := by omega
        go_wp2
        exact HD.out _ _ _ _ (HT.out.b hIv.out hLn.out) HC.out _ _ _ _ _ _ _ _ _ _ _ _ _ _ _ _ _ _ _ _ _ _ _ _ _ _ _ _ _ _ _ _ _ _ _ _ _ _ _ _ _ _ _ _ _ _ _ _ _ _ _ _ _ _ _ _ _ _ _ _ _ _ _ _ _ _ _ _ _ _ _ _ _ _ _ _ _ _ _ _ _ _ _ _ _ _ _ _ _ _ _ _ _ _ _ _ _ _ _ _ _ _ _ _ _ _ _ _ _ _ _ _ _ _ _ _ _ _ _ _ _ _ _ _ _ _ _ _ _ _ _ _ _ _ _ _ _ _ _ _ _ _ _ _ _ _ _ _ _ _ _ _ _ _ _ _ _ _ _ _ _ _ _ _ _ _ _ _ _ _ _ _ _ _ _ _ _ _ _ _ _ _ _ _
end Go.Proofs.Ytgcjjgljllephaa
