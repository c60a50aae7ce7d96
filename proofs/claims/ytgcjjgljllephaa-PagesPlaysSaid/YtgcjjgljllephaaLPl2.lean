/-
  The switch of PagesPlays' loop: calls of kind 2. No conditions but what the loop lays.
-/
import Derived.Test.YtgcjjgljllephaaLPl
import Derived.Deep.DeepCutAuto
import Derived.Deep.LoopGhost
import Derived.Deep.RegionHeld3
import Derived.BigQuiet
namespace Go.Proofs.Ytgcjjgljllephaa
open Go.ChangeShapes Go.WideShapes Go.ChangeAt Go.RowKit

set_option linter.unusedVariables false
set_option maxRecDepth 100000 in
set_option maxHeartbeats 60000000 in
theorem pl2 {w W : World} {a x ob n i : Nat} {F G : Nat → Prop} {L : List Pg} {p lp : Option Addr} (len cap ll lc : Nat)  (kf ka kn : Int) (bs : List UInt8) (Q : Exit → Act → World → Prop)
    (u2 u3 u4 u7 u9 u10 u11 u12 u13 u14 u15 u16 u17 u18 u19 u20 u21 u22 u23 u24 u25 u26 u27 u28 u29 u30 u31 u32 u33 u34 u35 u36 u37 u38 u39 u40 u41 u42 u43 u44 u45 u46 u47 u48 u49 u50 u51 u52 u53 u54 u55 u56 u57 u58 u59 u63 u64 u65 u66 u67 u68 u69 u70 u71 u74 u75 u76 u77 u78 u79 u80 u81 u82 u83 u84 u85 u86 u87 u88 u89 u90 u91 u92 u93 u94 u95 u96 u97 u98 u99 u100 u101 u102 u103 u104 u105 u106 u107 u108 u109 u110 u111 u112 u113 u114 u115 u116 u117 u118 u119 u120 u121 u122 u123 u124 u125 u126 u127 u128 u129 u130 u131 u132 u133 u134 u135 u136 u137 u138 u139 u140 u141 u142 u143 u144 u145 u146 u147 u148 u149 u150 u151 u152 u153 u154 u155 u156 u157 u158 u159 u160 u161 u162 u163 u164 u165 u166 u167 u168 u169 u170 u171 u172 u173 u174 u175 u176 u177 u178 u179 u180 u181 u182 u183 u184 u185 u186 u187 u188 u189 u190 u191 u192 u193 u194 u195 u196 u197 u198 u199 u200 u201 u202 u203 u204 u205 u206 u207 u208 u209 u210 u211 u212 u213 u214 u215 u216 u217 u218 u219 u220 u221 u222 u223 u224 u225 u226 u227 u228 u229 u230 u231 u232 u233 u234 u235 u236 u237 u238 u239 u240 u241 u242 u243 u244 u245 u246 u247 u248 u249 u250 u251 u252 u253 u254 u255 u256 u257 u258 u259 u260 u261 u262 u263 u264 u265 u266 u267 u268 u269 u270 u271 u272 u273 u274 u275 u276 u277 u278 u279 u280 u281 u282 u283 u284 u285 u286 u287 u288 u289 u290 u291 u292 u293 u294 u295 u296 u297 u298 u299 u300 u301 u302 u303 u304 u305 : Value)
    (k0 : W.cell? ⟨ob, 0, none⟩ = some (.int .i64 2))
    (k1 : W.cell? ⟨ob, 1, none⟩ = some (.int .i64 kf))
    (k2 : W.cell? ⟨ob, 2, none⟩ = some (.int .i64 ka))
    (k3 : W.cell? ⟨ob, 3, none⟩ = some (.int .i64 kn))
    (k4 : W.cell? ⟨ob, 4, none⟩ = some (.slice lp ll lc))
    (hfit : fit kf ∧ fit ka ∧ fit kn) (hi : i < 120) (hll : (ll : Int) ≤ 200) (hbl : Hid (bs.length = ll)) (hsr : Hid (Src w (.slice lp ll lc) bs))
    (HB : Hid (BSt w W a x n i ob F G L))
    (HD : Hid (∀ (F' G' : Nat → Prop) (L' : List Pg) (w' : World), BSt w w' a x n (i + 1) ob F' G' L' → w'.cell? ⟨ob, 1, none⟩ = some (.int .i64 kf) → ∀ y9 y10 y11 y12 y13 y14 y15 y16 y17 y18 y19 y20 y21 y22 y23 y24 y25 y73 y74 y75 y76 y77 y78 y79 y80 y81 y82 y83 y84 y85 y86 y87 y88 y89 y90 y91 y92 y93 y94 y95 y96 y97 y98 y99 y100 y101 y102 y103 y104 y105 y106 y107 y108 y109 y110 y111 y112 y113 y114 y115 y116 y117 y118 y119 y120 y121 y122 y123 y124 y125 y126 y127 y128 y129 y130 y131 y132 y133 y134 y135 y136 y137 y138 y139 y140 y141 y142 y143 y144 y145 y146 y147 y148 y149 y150 y151 y152 y153 y154 y155 y156 y157 y158 y159 y160 y161 y162 y163 y164 y165 y166 y167 y168 y169 y170 y171 y172 y173 y174 y175 y176 y177 y178 y179 y180 y181 y182 y183 y184 y185 y186 y187 y188 y189 y190 y191 y192 y193 y194 y195 y196 y197 y198 y199 y200 y201 y202 y203 y204 y205 y206 y207 y208 y209 y210 y211 y212 y213 y214 y215 y216 y217 y218 y219 y220 y221 y222 y223 y224 y225 y226 y227 y228 y229 y230 y231 y232 y233 y234 y235 y236 y237 y238 y239 : Value, Q Exit.normal ⟨(.int .i64 (n : Int) :: .slice p len cap :: u2 :: u3 :: u4 :: .pointer (some ⟨a, 0, none⟩) :: .pointer (some ⟨x, 0, none⟩) :: u7 :: .pointer (some ⟨ob, 0, none⟩) :: y9 :: y10 :: y11 :: y12 :: y13 :: y14 :: y15 :: y16 :: y17 :: y18 :: y19 :: y20 :: y21 :: y22 :: y23 :: y24 :: y25 :: u26 :: u27 :: u28 :: u29 :: u30 :: u31 :: u32 :: u33 :: u34 :: u35 :: u36 :: u37 :: u38 :: u39 :: u40 :: u41 :: u42 :: u43 :: u44 :: u45 :: u46 :: u47 :: u48 :: u49 :: u50 :: u51 :: u52 :: u53 :: u54 :: u55 :: u56 :: u57 :: u58 :: u59 :: .slice p len cap :: .int .i64 (len : Int) :: .int .i64 (i : Int) :: u63 :: u64 :: u65 :: u66 :: u67 :: u68 :: u69 :: u70 :: u71 :: .int .i64 2 :: y73 :: y74 :: y75 :: y76 :: y77 :: y78 :: y79 :: y80 :: y81 :: y82 :: y83 :: y84 :: y85 :: y86 :: y87 :: y88 :: y89 :: y90 :: y91 :: y92 :: y93 :: y94 :: y95 :: y96 :: y97 :: y98 :: y99 :: y100 :: y101 :: y102 :: y103 :: y104 :: y105 :: y106 :: y107 :: y108 :: y109 :: y110 :: y111 :: y112 :: y113 :: y114 :: y115 :: y116 :: y117 :: y118 :: y119 :: y120 :: y121 :: y122 :: y123 :: y124 :: y125 :: y126 :: y127 :: y128 :: y129 :: y130 :: y131 :: y132 :: y133 :: y134 :: y135 :: y136 :: y137 :: y138 :: y139 :: y140 :: y141 :: y142 :: y143 :: y144 :: y145 :: y146 :: y147 :: y148 :: y149 :: y150 :: y151 :: y152 :: y153 :: y154 :: y155 :: y156 :: y157 :: y158 :: y159 :: y160 :: y161 :: y162 :: y163 :: y164 :: y165 :: y166 :: y167 :: y168 :: y169 :: y170 :: y171 :: y172 :: y173 :: y174 :: y175 :: y176 :: y177 :: y178 :: y179 :: y180 :: y181 :: y182 :: y183 :: y184 :: y185 :: y186 :: y187 :: y188 :: y189 :: y190 :: y191 :: y192 :: y193 :: y194 :: y195 :: y196 :: y197 :: y198 :: y199 :: y200 :: y201 :: y202 :: y203 :: y204 :: y205 :: y206 :: y207 :: y208 :: y209 :: y210 :: y211 :: y212 :: y213 :: y214 :: y215 :: y216 :: y217 :: y218 :: y219 :: y220 :: y221 :: y222 :: y223 :: y224 :: y225 :: y226 :: y227 :: y228 :: y229 :: y230 :: y231 :: y232 :: y233 :: y234 :: y235 :: y236 :: y237 :: y238 :: y239 :: u240 :: u241 :: u242 :: u243 :: u244 :: u245 :: u246 :: u247 :: u248 :: u249 :: u250 :: u251 :: u252 :: u253 :: u254 :: u255 :: u256 :: u257 :: u258 :: u259 :: u260 :: u261 :: u262 :: u263 :: u264 :: u265 :: u266 :: u267 :: u268 :: u269 :: u270 :: u271 :: u272 :: u273 :: u274 :: u275 :: u276 :: u277 :: u278 :: u279 :: u280 :: u281 :: u282 :: u283 :: u284 :: u285 :: u286 :: u287 :: u288 :: u289 :: u290 :: u291 :: u292 :: u293 :: u294 :: u295 :: u296 :: u297 :: u298 :: u299 :: u300 :: u301 :: u302 :: u303 :: u304 :: u305 :: [] : List Value).toArray, []⟩ w')) :
    Code.wp Try.prog (condP 73) Q ⟨(.int .i64 (n : Int) :: .slice p len cap :: u2 :: u3 :: u4 :: .pointer (some ⟨a, 0, none⟩) :: .pointer (some ⟨x, 0, none⟩) :: u7 :: .pointer (some ⟨ob, 0, none⟩) :: u9 :: u10 :: u11 :: u12 :: u13 :: u14 :: u15 :: u16 :: u17 :: u18 :: u19 :: u20 :: u21 :: u22 :: u23 :: u24 :: u25 :: u26 :: u27 :: u28 :: u29 :: u30 :: u31 :: u32 :: u33 :: u34 :: u35 :: u36 :: u37 :: u38 :: u39 :: u40 :: u41 :: u42 :: u43 :: u44 :: u45 :: u46 :: u47 :: u48 :: u49 :: u50 :: u51 :: u52 :: u53 :: u54 :: u55 :: u56 :: u57 :: u58 :: u59 :: .slice p len cap :: .int .i64 (len : Int) :: .int .i64 (i : Int) :: u63 :: u64 :: u65 :: u66 :: u67 :: u68 :: u69 :: u70 :: u71 :: .int .i64 2 :: .bool ((2 : Int) == 1) :: u74 :: u75 :: u76 :: u77 :: u78 :: u79 :: u80 :: u81 :: u82 :: u83 :: u84 :: u85 :: u86 :: u87 :: u88 :: u89 :: u90 :: u91 :: u92 :: u93 :: u94 :: u95 :: u96 :: u97 :: u98 :: u99 :: u100 :: u101 :: u102 :: u103 :: u104 :: u105 :: u106 :: u107 :: u108 :: u109 :: u110 :: u111 :: u112 :: u113 :: u114 :: u115 :: u116 :: u117 :: u118 :: u119 :: u120 :: u121 :: u122 :: u123 :: u124 :: u125 :: u126 :: u127 :: u128 :: u129 :: u130 :: u131 :: u132 :: u133 :: u134 :: u135 :: u136 :: u137 :: u138 :: u139 :: u140 :: u141 :: u142 :: u143 :: u144 :: u145 :: u146 :: u147 :: u148 :: u149 :: u150 :: u151 :: u152 :: u153 :: u154 :: u155 :: u156 :: u157 :: u158 :: u159 :: u160 :: u161 :: u162 :: u163 :: u164 :: u165 :: u166 :: u167 :: u168 :: u169 :: u170 :: u171 :: u172 :: u173 :: u174 :: u175 :: u176 :: u177 :: u178 :: u179 :: u180 :: u181 :: u182 :: u183 :: u184 :: u185 :: u186 :: u187 :: u188 :: u189 :: u190 :: u191 :: u192 :: u193 :: u194 :: u195 :: u196 :: u197 :: u198 :: u199 :: u200 :: u201 :: u202 :: u203 :: u204 :: u205 :: u206 :: u207 :: u208 :: u209 :: u210 :: u211 :: u212 :: u213 :: u214 :: u215 :: u216 :: u217 :: u218 :: u219 :: u220 :: u221 :: u222 :: u223 :: u224 :: u225 :: u226 :: u227 :: u228 :: u229 :: u230 :: u231 :: u232 :: u233 :: u234 :: u235 :: u236 :: u237 :: u238 :: u239 :: u240 :: u241 :: u242 :: u243 :: u244 :: u245 :: u246 :: u247 :: u248 :: u249 :: u250 :: u251 :: u252 :: u253 :: u254 :: u255 :: u256 :: u257 :: u258 :: u259 :: u260 :: u261 :: u262 :: u263 :: u264 :: u265 :: u266 :: u267 :: u268 :: u269 :: u270 :: u271 :: u272 :: u273 :: u274 :: u275 :: u276 :: u277 :: u278 :: u279 :: u280 :: u281 :: u282 :: u283 :: u284 :: u285 :: u286 :: u287 :: u288 :: u289 :: u290 :: u291 :: u292 :: u293 :: u294 :: u295 :: u296 :: u297 :: u298 :: u299 :: u300 :: u301 :: u302 :: u303 :: u304 :: u305 :: [] : List Value).toArray, []⟩ W := by
  conv => arg 2; whnf
  have HW := Lib.hid (HB.out.d.inv.bound2 (by omega) kf)
  have cH := rhas_any HB.out.d.st.ref kf
  have cC := share_any HB.out.d.st.pool kf HW.out
  by_cases hu : usersL L kf = 0
  · have hS : shareS L kf = -25 := by unfold shareS; rw [if_pos hu]
    have hL : shareL L kf = L := by unfold shareL; rw [if_pos hu]
    have hd : decide (usersL L kf ≠ 0) = false := by simp [hu]
    rw [hS, hL] at cC
    rw [hd] at cH
    clear hS hL hd hu
    go_wp2_with (first
      | (go_at_call 16; (with_reducible refine cH.mono ?_); rintro y w3 ⟨rfl, rfl⟩)
      | (go_at_call 17; (with_reducible refine cC.mono ?_); rintro y w4 ⟨rfl, h4, t4⟩; have K4 := Lib.hid (HB.out.m.step1 h4 t4 (fun j hj => .inl hj)); have k0' := kept1 t4 k0 HB.out.nf; have k1' := kept1 t4 k1 HB.out.nf; clear h4 t4))
    exact HD.out _ _ _ _ (K4.out.b HB.out.d.inv.mono HB.out.d.len) k1' _ _ _ _ _ _ _ _ _ _ _ _ _ _ _ _ _ _ _ _ _ _ _ _ _ _ _ _ _ _ _ _ _ _ _ _ _ _ _ _ _ _ _ _ _ _ _ _ _ _ _ _ _ _ _ _ _ _ _ _ _ _ _ _ _ _ _ _ _ _ _ _ _ _ _ _ _ _ _ _ _ _ _ _ _ _ _ _ _ _ _ _ _ _ _ _ _ _ _ _ _ _ _ _ _ _ _ _ _ _ _ _ _ _ _ _ _ _ _ _ _ _ _ _ _ _ _ _ _ _ _ _ _ _ _ _ _ _ _ _ _ _ _ _ _ _ _ _ _ _ _ _ _ _ _ _ _ _ _ _ _ _ _ _ _ _ _ _ _ _ _ _ _ _ _ _ _ _ _ _ _ _ _ _
  · have hS : shareS L kf = 0 := by unfold shareS; rw [if_neg hu]
    have hd : decide (usersL L kf ≠ 0) = true := by simp [hu]
    obtain ⟨L2, hL2⟩ : ∃ L2, shareL L kf = L2 := ⟨_, rfl⟩
    rw [hS, hL2] at cC
    rw [hd] at cH
    have HL2 := Lib.hid hL2
    have HN := Lib.hid hu
    clear hS hL2 hd hu
    go_upto_region 28 with (first
      | (go_at_call 16; (with_reducible refine cH.mono ?_); rintro y w3 ⟨rfl, rfl⟩)
      | (go_at_call 17; (with_reducible refine cC.mono ?_); rintro y w4 ⟨rfl, h4, t4⟩; have K4 := Lib.hid (HB.out.m.step1 h4 t4 (fun j hj => .inl hj)); have k0' := kept1 t4 k0 HB.out.nf; have k1' := kept1 t4 k1 HB.out.nf; clear h4 t4))
    obtain ⟨k, u, b, v0, vd, vu, cp, ds, bz, us, rfl, hu, hR⟩ := K4.out.st.ref.frame kf HN.out
    obtain ⟨g, N, c, s1, s2, s3, s4, s5, s6, s7⟩ := hR.store
    have HU := Lib.hid (And.intro HN.out (And.intro hu hR.pg))
    have hub : u < 4611686018427387904 := by have := HW.out; omega
    have hu1 : 0 < u := by have := HN.out; omega
    have hww : IntKind.i64.wrap ((u : Int) + 1) = (u : Int) + 1 := by
      rw [show ((u : Int) + 1) = (((u + 1) : Nat) : Int) by omega]
      exact wrap_nat _ (by omega)
    have s8 : RefAt (w4.setCell ⟨g, k, none⟩ (.int .i64 ((u : Int) + 1))) x G L2 ∧ Turn G w4 (w4.setCell ⟨g, k, none⟩ (.int .i64 ((u : Int) + 1))) := by
      have h := s7 (u + 1)
      rw [show (((u + 1) : Nat) : Int) = (u : Int) + 1 by omega] at h
      have e : L2 = L.set k (rPg (u + 1) b) := by
        rw [← HL2.out]
        exact by unfold shareL rPg; rw [if_neg HU.out.1, if_neg (by omega), HU.out.2.1, HU.out.2.2]; rfl
      rw [e]; exact h
    have K8 := Lib.hid (K4.out.step2 s8.1 s8.2 (fun j hj => .inl hj))
    have k8 := kept1 s8.2 k1' K4.out.ng
    have HI := Lib.hid (show Inv (i + 1) L2 ∧ L2.length = n from by rw [← HL2.out]; exact ⟨HB.out.d.inv.share _, by rw [share_len]; exact HB.out.d.len⟩)
    have hobg : ob ≠ g := fun e => by subst e; exact K4.out.ng (by rw [hR.foot]; obtain ⟨g2, c2, hv, -⟩ := hR.mem.user hR.klt; have h1 := hR.mem.c1; rw [hv] at h1; rw [h1] at s1; simp at s1; exact .inr (.inr (.inl (by unfold Blk; rw [hv, s1.1]; rfl))))
    clear s7 s8 hR hu hub hu1
    go_region
    all_goals
      go_wp2
      exact HD.out _ _ _ _ ((K8.out.past ((Turn.refl _ _).drewN _)).b HI.out.1 HI.out.2) k8 _ _ _ _ _ _ _ _ _ _ _ _ _ _ _ _ _ _ _ _ _ _ _ _ _ _ _ _ _ _ _ _ _ _ _ _ _ _ _ _ _ _ _ _ _ _ _ _ _ _ _ _ _ _ _ _ _ _ _ _ _ _ _ _ _ _ _ _ _ _ _ _ _ _ _ _ _ _ _ _ _ _ _ _ _ _ _ _ _ _ _ _ _ _ _ _ _ _ _ _ _ _ _ _ _ _ _ _ _ _ _ _ _ _ _ _ _ _ _ _ _ _ _ _ _ _ _ _ _ _ _ _ _ _ _ _ _ _ _ _ _ _ _ _ _ _ _ _ _ _ _ _ _ _ _ _ _ _ _ _ _ _ _ _ _ _ _ _ _ _ _ _ _ _ _ _ _ _ _ _ _ _ _ _
end Go.Proofs.Ytgcjjgljllephaa
