/-
  The loop of HandlesPlays's step that lays the values that are meant. No conditions but what the step lays.
-/
import Derived.Test.YtacdhlhkpdlekaaHSw
import Derived.Deep.DeepCutAuto
import Derived.Deep.LoopGhost
import Derived.Deep.AppendLies
namespace Go.Proofs.Ytacdhlhkpdlekaa
open Go.ChangeShapes Go.WideShapes Go.ChangeAt Go.RowKit

/-- The numbers grow in blocks of the loop's own. -/
structure LoopT (wc wr : World) (v : Value) : Prop where
  turn : Turn NoBlock wc wr
  fresh : ∀ j, Blk v j → wc.heap.size ≤ j
theorem loop_turn {wc wr w1 : World} {v : Value} {o : Obj} {n g c : Nat} (h : LoopT wc wr v) (hgrow : (wr.alloc o).grownBy w1 v.ownBlock) (hat : v.ownBlock = some g ∨ g = wr.heap.size + 1) : LoopT wc w1 (.slice (some ⟨g, 0, none⟩) n c) := by
  have hs := h.turn.size
  refine ⟨h.turn.trans (((Turn.refl (Blk v) wr).alloc o).grown hgrow (fun k hk => .inl hk)) (fun j hj => .inr (h.fresh j hj)), fun j hj => ?_⟩
  simp [Blk, Value.ownBlock] at hj
  subst hj
  rcases hat with h1 | h1
  · exact h.fresh g h1
  · omega

set_option linter.unusedVariables false
set_option maxRecDepth 100000 in
set_option maxHeartbeats 60000000 in
theorem step_loop {w wc : World} {a x ob m c1 : Nat} {p1 : Option Addr} (zl lc : Nat) (lp : Option Addr) (zs xs : List Int) (V : Int) (ve : Value) (es : List Ent) (P : Nat → Prop) (K : Act → World → Prop) (Q : Exit → Act → World → Prop)
    (u2 u3 u4 u11 u12 u13 u14 u15 u16 u17 u18 u19 u20 u21 u22 u23 u24 u25 u26 u27 u28 u29 u30 u31 u32 u33 u34 u35 u36 u37 u38 u39 u40 u41 u42 u43 u44 u45 u46 u47 u48 u49 u50 u51 u52 u53 u54 u55 u56 u57 u58 u59 u60 u61 u62 u63 u64 u65 u66 u67 u68 u69 u70 u71 u72 u76 u77 u78 u79 u80 u81 u82 u83 u84 u85 u86 u87 u88 u89 u90 u91 u92 u93 u94 u95 u96 u97 u98 u99 u100 u101 u102 u103 u104 u105 u106 u107 u108 u109 u110 u111 u112 u113 u114 u115 u116 u117 u118 u119 u120 u121 u122 u123 u124 u125 u126 u127 u128 u129 u130 u131 u132 u133 u134 u135 u136 u137 u138 u139 u140 u141 u142 u143 u144 u145 u146 u147 u148 u149 u150 u151 u152 u153 u154 u155 u156 u157 u158 u159 u160 u161 u162 u163 u164 u165 u166 u167 u168 u169 u170 u171 u172 u173 u174 u175 u176 u177 u178 u179 u180 u181 u182 u183 u184 u185 u186 u187 u188 u189 u190 u191 u192 u193 u194 u195 u196 u197 u198 u199 u200 u201 u202 u203 u204 u205 u206 u207 u208 u209 u210 u211 u212 u213 u214 u215 u216 u217 u218 u219 u220 u221 u222 u223 u224 u225 u226 u227 u228 u229 u230 u231 u232 u233 u234 u235 u236 u237 u238 u239 u240 u241 u242 u243 u244 u245 u246 u247 u248 u249 u250 u251 u252 u253 u254 u255 u256 u257 u258 u259 u260 u261 u262 u263 u264 u265 u266 u267 u268 u269 u270 u271 u272 u273 u274 u275 u276 u277 u278 u279 u280 u281 u282 u283 u284 u285 u286 u287 u288 u289 u290 u291 u292 u293 u294 u295 u296 u297 u298 u299 u300 u301 u302 u303 u304 u305 u306 u307 u308 u309 u310 u311 u312 u313 u314 u315 u316 u317 u318 u319 u320 u321 u322 u323 u324 u325 u326 u327 u328 u329 u330 u331 u332 u333 u334 u335 u336 u337 u338 u339 : Value)
    (hz : Hid (NumsBy P w lp zl zs)) (hm : Hid (xs.length = m)) (hml : m ≤ 65536) (hzl : zl ≤ 60)
    (H0 : Hid (AllInv w wc (.slice none 0 0) [] ve es)) (HX : Hid (Ints (.slice p1 m c1) xs wc))
    (HK : Hid (∀ (y12 y76 y77 y78 y79 y80 y81 y82 y83 y84 y85 y86 y87 y88 y89 y90 y91 y92 y93 y94 y95 y96 y97 y98 y99 : Value) (pr : Option Addr) (cr : Nat) (wr : World), AllInv w wr (.slice pr zl cr) (zs.map (pickN xs)) ve es → LoopT wc wr (.slice pr zl cr) → K ⟨(.pointer (some ⟨a, 0, none⟩) :: .pointer (some ⟨x, 0, none⟩) :: u2 :: u3 :: u4 :: .pointer (some ⟨ob, 0, none⟩) :: .bool false :: .slice p1 m c1 :: ve :: .int .i64 V :: .slice pr zl cr :: u11 :: y12 :: u13 :: u14 :: u15 :: u16 :: u17 :: u18 :: u19 :: u20 :: u21 :: u22 :: u23 :: u24 :: u25 :: u26 :: u27 :: u28 :: u29 :: u30 :: u31 :: u32 :: u33 :: u34 :: u35 :: u36 :: u37 :: u38 :: u39 :: u40 :: u41 :: u42 :: u43 :: u44 :: u45 :: u46 :: u47 :: u48 :: u49 :: u50 :: u51 :: u52 :: u53 :: u54 :: u55 :: u56 :: u57 :: u58 :: u59 :: u60 :: u61 :: u62 :: u63 :: u64 :: u65 :: u66 :: u67 :: u68 :: u69 :: u70 :: u71 :: u72 :: .slice lp zl lc :: .int .i64 zl :: .int .i64 zl :: y76 :: y77 :: y78 :: y79 :: y80 :: y81 :: y82 :: y83 :: y84 :: y85 :: y86 :: y87 :: y88 :: y89 :: y90 :: y91 :: y92 :: y93 :: y94 :: y95 :: y96 :: y97 :: y98 :: y99 :: u100 :: u101 :: u102 :: u103 :: u104 :: u105 :: u106 :: u107 :: u108 :: u109 :: u110 :: u111 :: u112 :: u113 :: u114 :: u115 :: u116 :: u117 :: u118 :: u119 :: u120 :: u121 :: u122 :: u123 :: u124 :: u125 :: u126 :: u127 :: u128 :: u129 :: u130 :: u131 :: u132 :: u133 :: u134 :: u135 :: u136 :: u137 :: u138 :: u139 :: u140 :: u141 :: u142 :: u143 :: u144 :: u145 :: u146 :: u147 :: u148 :: u149 :: u150 :: u151 :: u152 :: u153 :: u154 :: u155 :: u156 :: u157 :: u158 :: u159 :: u160 :: u161 :: u162 :: u163 :: u164 :: u165 :: u166 :: u167 :: u168 :: u169 :: u170 :: u171 :: u172 :: u173 :: u174 :: u175 :: u176 :: u177 :: u178 :: u179 :: u180 :: u181 :: u182 :: u183 :: u184 :: u185 :: u186 :: u187 :: u188 :: u189 :: u190 :: u191 :: u192 :: u193 :: u194 :: u195 :: u196 :: u197 :: u198 :: u199 :: u200 :: u201 :: u202 :: u203 :: u204 :: u205 :: u206 :: u207 :: u208 :: u209 :: u210 :: u211 :: u212 :: u213 :: u214 :: u215 :: u216 :: u217 :: u218 :: u219 :: u220 :: u221 :: u222 :: u223 :: u224 :: u225 :: u226 :: u227 :: u228 :: u229 :: u230 :: u231 :: u232 :: u233 :: u234 :: u235 :: u236 :: u237 :: u238 :: u239 :: u240 :: u241 :: u242 :: u243 :: u244 :: u245 :: u246 :: u247 :: u248 :: u249 :: u250 :: u251 :: u252 :: u253 :: u254 :: u255 :: u256 :: u257 :: u258 :: u259 :: u260 :: u261 :: u262 :: u263 :: u264 :: u265 :: u266 :: u267 :: u268 :: u269 :: u270 :: u271 :: u272 :: u273 :: u274 :: u275 :: u276 :: u277 :: u278 :: u279 :: u280 :: u281 :: u282 :: u283 :: u284 :: u285 :: u286 :: u287 :: u288 :: u289 :: u290 :: u291 :: u292 :: u293 :: u294 :: u295 :: u296 :: u297 :: u298 :: u299 :: u300 :: u301 :: u302 :: u303 :: u304 :: u305 :: u306 :: u307 :: u308 :: u309 :: u310 :: u311 :: u312 :: u313 :: u314 :: u315 :: u316 :: u317 :: u318 :: u319 :: u320 :: u321 :: u322 :: u323 :: u324 :: u325 :: u326 :: u327 :: u328 :: u329 :: u330 :: u331 :: u332 :: u333 :: u334 :: u335 :: u336 :: u337 :: u338 :: u339 :: [] : List Value).toArray, []⟩ wr)) :
    Code.wp Try.prog loopC (Exit.inBlock 0 (Exit.then K Q)) ⟨(.pointer (some ⟨a, 0, none⟩) :: .pointer (some ⟨x, 0, none⟩) :: u2 :: u3 :: u4 :: .pointer (some ⟨ob, 0, none⟩) :: .bool false :: .slice p1 m c1 :: ve :: .int .i64 V :: .slice none 0 0 :: u11 :: u12 :: u13 :: u14 :: u15 :: u16 :: u17 :: u18 :: u19 :: u20 :: u21 :: u22 :: u23 :: u24 :: u25 :: u26 :: u27 :: u28 :: u29 :: u30 :: u31 :: u32 :: u33 :: u34 :: u35 :: u36 :: u37 :: u38 :: u39 :: u40 :: u41 :: u42 :: u43 :: u44 :: u45 :: u46 :: u47 :: u48 :: u49 :: u50 :: u51 :: u52 :: u53 :: u54 :: u55 :: u56 :: u57 :: u58 :: u59 :: u60 :: u61 :: u62 :: u63 :: u64 :: u65 :: u66 :: u67 :: u68 :: u69 :: u70 :: u71 :: u72 :: .slice lp zl lc :: .int .i64 zl :: .int .i64 (0 : Int) :: u76 :: u77 :: u78 :: u79 :: u80 :: u81 :: u82 :: u83 :: u84 :: u85 :: u86 :: u87 :: u88 :: u89 :: u90 :: u91 :: u92 :: u93 :: u94 :: u95 :: u96 :: u97 :: u98 :: u99 :: u100 :: u101 :: u102 :: u103 :: u104 :: u105 :: u106 :: u107 :: u108 :: u109 :: u110 :: u111 :: u112 :: u113 :: u114 :: u115 :: u116 :: u117 :: u118 :: u119 :: u120 :: u121 :: u122 :: u123 :: u124 :: u125 :: u126 :: u127 :: u128 :: u129 :: u130 :: u131 :: u132 :: u133 :: u134 :: u135 :: u136 :: u137 :: u138 :: u139 :: u140 :: u141 :: u142 :: u143 :: u144 :: u145 :: u146 :: u147 :: u148 :: u149 :: u150 :: u151 :: u152 :: u153 :: u154 :: u155 :: u156 :: u157 :: u158 :: u159 :: u160 :: u161 :: u162 :: u163 :: u164 :: u165 :: u166 :: u167 :: u168 :: u169 :: u170 :: u171 :: u172 :: u173 :: u174 :: u175 :: u176 :: u177 :: u178 :: u179 :: u180 :: u181 :: u182 :: u183 :: u184 :: u185 :: u186 :: u187 :: u188 :: u189 :: u190 :: u191 :: u192 :: u193 :: u194 :: u195 :: u196 :: u197 :: u198 :: u199 :: u200 :: u201 :: u202 :: u203 :: u204 :: u205 :: u206 :: u207 :: u208 :: u209 :: u210 :: u211 :: u212 :: u213 :: u214 :: u215 :: u216 :: u217 :: u218 :: u219 :: u220 :: u221 :: u222 :: u223 :: u224 :: u225 :: u226 :: u227 :: u228 :: u229 :: u230 :: u231 :: u232 :: u233 :: u234 :: u235 :: u236 :: u237 :: u238 :: u239 :: u240 :: u241 :: u242 :: u243 :: u244 :: u245 :: u246 :: u247 :: u248 :: u249 :: u250 :: u251 :: u252 :: u253 :: u254 :: u255 :: u256 :: u257 :: u258 :: u259 :: u260 :: u261 :: u262 :: u263 :: u264 :: u265 :: u266 :: u267 :: u268 :: u269 :: u270 :: u271 :: u272 :: u273 :: u274 :: u275 :: u276 :: u277 :: u278 :: u279 :: u280 :: u281 :: u282 :: u283 :: u284 :: u285 :: u286 :: u287 :: u288 :: u289 :: u290 :: u291 :: u292 :: u293 :: u294 :: u295 :: u296 :: u297 :: u298 :: u299 :: u300 :: u301 :: u302 :: u303 :: u304 :: u305 :: u306 :: u307 :: u308 :: u309 :: u310 :: u311 :: u312 :: u313 :: u314 :: u315 :: u316 :: u317 :: u318 :: u319 :: u320 :: u321 :: u322 :: u323 :: u324 :: u325 :: u326 :: u327 :: u328 :: u329 :: u330 :: u331 :: u332 :: u333 :: u334 :: u335 :: u336 :: u337 :: u338 :: u339 :: [] : List Value).toArray, []⟩ wc := by
  obtain ⟨iv, hiv, hvz0, hvz1, hvz2⟩ := info_parts info3
  have HB0 := Lib.hid (show LoopT wc wc (.slice none 0 0) from ⟨Turn.refl _ _, fun j hj => (blk_nil j hj).elim⟩)
  conv => arg 2; whnf
  go_loopg [10, 75] zl (fun g s10 s75 wr => ∃ (j : Nat), g = zl - j ∧ j ≤ zl ∧ s75 = .int .i64 j ∧ Hid (AllInv w wr s10 ((zs.take j).map (pickN xs)) ve es) ∧ Hid (LoopT wc wr s10))
  case atStart => exact ⟨0, by omega, by omega, rfl, H0, HB0⟩
  case round =>
    obtain ⟨j, hg, hj, rfl, HA, HT⟩ := hrel
    have hxl2 : ((zs.take j).map (pickN xs)).length = j := by rw [List.length_map, List.length_take, hz.out.1]; omega
    by_cases hlt : j < zl
    · obtain ⟨b, off, rfl, hnb, hc⟩ := hz.out.2.2 (by omega)
      have ck := HA.out.turn.cell (hc j hlt) (fun h => h)
      have hkz : j < zs.length := by rw [hz.out.1]; exact hlt
      have ht := take_one' hkz
      obtain ⟨z, hzz⟩ : ∃ z, zs.getD j 0 = z := ⟨_, rfl⟩
      rw [hzz] at ck ht
      have HT2 := Lib.hid (show ∀ w1 v1, AllInv w w1 v1 ((zs.take j).map (pickN xs) ++ [pickN xs z]) ve es → AllInv w w1 v1 ((zs.take (j + 1)).map (pickN xs)) ve es from fun w1 v1 h => by rw [ht]; simpa using h)
      generalize (zs.take j).map (pickN xs) = ys at *
      have hso := HA.out.ints
      unfold Ints at hso
      rw [hxl2] at hso
      obtain ⟨pr, cr, hu⟩ := own_slice hso
      subst hu
      have HL := Lib.hid hxl2
      obtain ⟨us, hus⟩ : ∃ us, ys.map (Value.int .i64) = us := ⟨_, rfl⟩
      rw [hus] at hso
      have HXs := Lib.hid hus
      have q3 : j + 1 ≤ maxLen := by unfold maxLen; omega
      have q4 : (j + 1) * 8 ≤ 140737488355328 := by omega
      clear hc hnb hkz ht hzz hxl2 hus
      have hcases : (z < 0 ∧ pickN xs z = z) ∨ (0 ≤ z ∧ 100 ≤ z ∧ pickN xs z = z) ∨ (0 ≤ z ∧ z < 100 ∧ (m : Int) ≤ z ∧ pickN xs z = z) ∨ (0 ≤ z ∧ z < 100 ∧ z < (m : Int) ∧ pickN xs z = xs.getD z.toNat 0) := by
        unfold pickN
        rw [hm.out]
        by_cases h1 : z < 0
        · exact .inl ⟨h1, if_neg (by omega)⟩
        · by_cases h2 : 100 ≤ z
          · exact .inr (.inl ⟨by omega, h2, if_neg (by omega)⟩)
          · by_cases h3 : (m : Int) ≤ z
            · exact .inr (.inr (.inl ⟨by omega, by omega, h3, if_neg (by omega)⟩))
            · exact .inr (.inr (.inr ⟨by omega, by omega, by omega, if_pos ⟨by omega, by omega, by omega⟩⟩))
      have HAx := Lib.hid (show Ints (.slice p1 m c1) xs wr from (own_ints _ _).kept _ _ _ HX.out HT.out.turn (fun _ _ h => h))
      have hz' : ∃ z', pickN xs z = z' := ⟨_, rfl⟩
      obtain ⟨z', hz'⟩ := hz'
      rw [hz'] at HT2 hcases
      clear hz'
      have q2 : ∀ u ∈ [Value.int .i64 z'], u.oneCell' = true := by
        intro u hu
        simp at hu
        subst hu
        rfl
      rcases hcases with ⟨e1, rfl⟩ | ⟨e1, e3, rfl⟩ | ⟨e1, e3, e4, rfl⟩ | ⟨e1, e3, e4, e2⟩
      rotate_right
      · obtain ⟨g, c, he, -, -⟩ := ints_shape HAx.out (by rw [hm.out]; omega)
        have hcx := ints_cell (by rw [hm.out] at he; rw [← he]; exact HAx.out) z.toNat (by rw [hm.out]; omega)
        rw [hm.out] at he
        simp only [Value.slice.injEq] at he
        obtain ⟨rfl, -, rfl⟩ := he
        rw [← e2] at hcx
        clear e2
        go_wp2_with (at_builtin; refine wpList_append_lies _ rfl (.tmp 95) (.tmp 97) 27 rfl 0 3 iv _ 1 8 slice27 hiv hvz0 hvz1 hvz2 rfl (by decide) (.slice pr j cr) j us rfl (World.ownsRow.alloc hso _) ⟨wr.heap.size, 0, none⟩ 1 1 [.int .i64 z'] rfl rfl (fun j u hu => World.news_of_block (heap_alloc_new wr _) j u (by simpa using hu)) q2 (by decide) q3 q4 (Nat.zero_le _) (wr.heap.size + 1) (by simp) ?_; intro g3 c3 w3 hown hgrow hat hlt3; rw [← HXs.out] at hown; have K3 := Lib.hid (HA.out.pushV HL.out hown hgrow hat); have T3 := Lib.hid (loop_turn (n := j + 1) (c := c3) HT.out hgrow hat); clear hown hgrow hat)
        go_roundg (zl - (j + 1))
        case measure => omega
        case rel => exact ⟨j + 1, rfl, by omega, by go_num, Lib.hid (HT2.out _ _ K3.out), Lib.hid T3.out⟩
      all_goals
        go_wp2_with (at_builtin; refine wpList_append_lies _ rfl (.tmp 95) (.tmp 97) 27 rfl 0 3 iv _ 1 8 slice27 hiv hvz0 hvz1 hvz2 rfl (by decide) (.slice pr j cr) j us rfl (World.ownsRow.alloc hso _) ⟨wr.heap.size, 0, none⟩ 1 1 [.int .i64 z'] rfl rfl (fun j u hu => World.news_of_block (heap_alloc_new wr _) j u (by simpa using hu)) q2 (by decide) q3 q4 (Nat.zero_le _) (wr.heap.size + 1) (by simp) ?_; intro g3 c3 w3 hown hgrow hat hlt3; rw [← HXs.out] at hown; have K3 := Lib.hid (HA.out.pushV HL.out hown hgrow hat); have T3 := Lib.hid (loop_turn (n := j + 1) (c := c3) HT.out hgrow hat); clear hown hgrow hat)
        go_roundg (zl - (j + 1))
        case measure => omega
        case rel => exact ⟨j + 1, rfl, by omega, by go_num, Lib.hid (HT2.out _ _ K3.out), Lib.hid T3.out⟩
    · obtain rfl : j = zl := by omega
      rw [List.take_of_length_le (Nat.le_of_eq hz.out.1)] at HA
      obtain ⟨pr, cr, hu⟩ := ints_slice HA.out.ints
      rw [List.length_map, hz.out.1] at hu
      subst hu
      go_wp2
      exact HK.out _ _ _ _ _ _ _ _ _ _ _ _ _ _ _ _ _ _ _ _ _ _ _ _ _ _ _ _ HA.out HT.out
end Go.Proofs.Ytacdhlhkpdlekaa
