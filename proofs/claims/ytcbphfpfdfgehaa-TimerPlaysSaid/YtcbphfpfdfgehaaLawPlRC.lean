/-
  TimerPlays: the comparison of all that both show, case C. No conditions but what the walk lays.
-/
import Derived.Test.YtcbphfpfdfgehaaLawPlR
import Derived.Deep.RegionHeld3
import Derived.Deep.DeepCutAuto
namespace Go.Proofs.Ytcbphfpfdfgehaa
open Go.ChangeShapes Go.WideShapes Go.ChangeAt Go.RowKit

set_option linter.unusedVariables false
set_option maxRecDepth 100000 in
set_option maxHeartbeats 60000000 in
theorem pl36C {w wy w10 : World} {c x ob : Nat} {most na kind key n : Int} {L : List En} {pu : Option Addr} {cu : Nat} (Q : Exit → Act → World → Prop)
    (u0 u1 u2 u3 u4 u7 u8 u9 u10 u11 u12 u13 u14 u15 u16 u17 u18 u20 u21 u25 u26 u28 u29 u30 u31 u32 u33 u34 u35 u36 u37 u38 u39 u40 u41 u42 u43 u44 u45 u46 u47 u48 u49 u50 u51 u52 u53 u54 u55 u56 u57 u58 u59 u60 u61 u62 u63 u64 u65 u66 u67 u68 u69 u70 u71 u72 u73 u74 u75 u76 u77 u78 u79 u80 u81 u82 u83 u84 u85 u86 u87 u88 u89 u90 u91 u92 u93 u94 u95 u96 u97 u98 u99 u100 u101 u102 u103 u104 u105 u106 u107 u108 u109 u110 u111 u112 u113 u114 u115 u116 u117 u118 u119 u120 u121 u122 u123 u124 u125 u126 u127 u128 u129 u130 u131 u132 u133 u134 u135 u136 u137 u138 u139 u140 u141 u142 u143 u144 u145 u146 u147 u148 u149 u150 u151 u152 u153 u154 u155 u156 u157 u158 u159 u160 u161 u162 u163 u164 u165 u166 u167 u168 u169 u170 u171 u172 u173 u174 u175 u176 u177 u178 u179 u180 u181 u182 u183 u184 u185 u186 u187 u188 u189 u190 u191 u192 u193 u194 u195 u196 u197 u198 u199 u200 u201 u202 u203 u204 u205 u206 u207 u208 u209 u210 u211 u212 u213 u214 u215 u216 u217 u218 u219 u220 u221 u222 u223 u224 u225 u226 u227 u228 u229 u230 u231 u232 u233 u234 u235 u236 u237 u238 u239 u240 u241 u242 u243 u244 u245 u246 u247 u248 u249 u250 u251 u252 u253 u254 u255 u256 u257 u258 u259 u260 u261 u262 u263 u264 u265 u266 u267 u268 : Value)
    (HC3 : Hid (PB w w10.drew c x most na L na L ob kind key n NoBlock))
    (HNK : Hid (Nums (.slice pu 0 cu) (keysOf L) wy))
    (T10 : Hid (Turn NoBlock wy w10))
    (KS : Hid (∀ W : World, Turn NoBlock wy W → W.cell? ⟨x, 2, none⟩ = some (.int .i64 na)))
    (HLE : Hid ((keysOf L).length ≤ 1000000000)) (HLM : Hid (L.length = 0))
    (HD : Hid (∀ w' : World, Turn NoBlock wy w' → ∀ y175 y176 y177 y178 y179 y180 y181 y182 y183 y184 y185 y186 y187 y188 y189 y190 y191 y192 y193 y194 y195 y196 y197 y198 y199 y200 y201 y202 y203 y204 y205 y206 y207 y208 y209 y210 y211 y212 y213 y214 y215 y216 y217 y218 y219 y220 y221 y222 y223 y224 y225 y226 y227 y228 y229 y230 : Value, Q Exit.normal ⟨(u0 :: u1 :: u2 :: u3 :: u4 :: .pointer (some ⟨c, 0, none⟩) :: .pointer (some ⟨x, 0, none⟩) :: u7 :: u8 :: u9 :: u10 :: u11 :: u12 :: u13 :: u14 :: u15 :: u16 :: u17 :: u18 :: .slice pu 0 cu :: u20 :: u21 :: .int .i64 (-1) :: .int .i64 0 :: .bool false :: u25 :: u26 :: .bool false :: u28 :: u29 :: u30 :: u31 :: u32 :: u33 :: u34 :: u35 :: u36 :: u37 :: u38 :: u39 :: u40 :: u41 :: u42 :: u43 :: u44 :: u45 :: u46 :: u47 :: u48 :: u49 :: u50 :: u51 :: u52 :: u53 :: u54 :: u55 :: u56 :: u57 :: u58 :: u59 :: u60 :: u61 :: u62 :: u63 :: u64 :: u65 :: u66 :: u67 :: u68 :: u69 :: u70 :: u71 :: u72 :: u73 :: u74 :: u75 :: u76 :: u77 :: u78 :: u79 :: u80 :: u81 :: u82 :: u83 :: u84 :: u85 :: u86 :: u87 :: u88 :: u89 :: u90 :: u91 :: u92 :: u93 :: u94 :: u95 :: u96 :: u97 :: u98 :: u99 :: u100 :: u101 :: u102 :: u103 :: u104 :: u105 :: u106 :: u107 :: u108 :: u109 :: u110 :: u111 :: u112 :: u113 :: u114 :: u115 :: u116 :: u117 :: u118 :: u119 :: u120 :: u121 :: u122 :: u123 :: u124 :: u125 :: u126 :: u127 :: u128 :: u129 :: u130 :: u131 :: u132 :: u133 :: u134 :: u135 :: u136 :: u137 :: u138 :: u139 :: u140 :: u141 :: u142 :: u143 :: u144 :: u145 :: u146 :: u147 :: u148 :: u149 :: u150 :: u151 :: u152 :: u153 :: u154 :: u155 :: u156 :: u157 :: u158 :: u159 :: u160 :: u161 :: u162 :: u163 :: u164 :: u165 :: u166 :: u167 :: u168 :: u169 :: u170 :: u171 :: u172 :: u173 :: u174 :: y175 :: y176 :: y177 :: y178 :: y179 :: y180 :: y181 :: y182 :: y183 :: y184 :: y185 :: y186 :: y187 :: y188 :: y189 :: y190 :: y191 :: y192 :: y193 :: y194 :: y195 :: y196 :: y197 :: y198 :: y199 :: y200 :: y201 :: y202 :: y203 :: y204 :: y205 :: y206 :: y207 :: y208 :: y209 :: y210 :: y211 :: y212 :: y213 :: y214 :: y215 :: y216 :: y217 :: y218 :: y219 :: y220 :: y221 :: y222 :: y223 :: y224 :: y225 :: y226 :: y227 :: y228 :: y229 :: y230 :: .bool false :: u232 :: u233 :: u234 :: u235 :: u236 :: u237 :: u238 :: u239 :: u240 :: u241 :: u242 :: u243 :: u244 :: u245 :: u246 :: u247 :: u248 :: u249 :: u250 :: u251 :: u252 :: u253 :: u254 :: u255 :: u256 :: u257 :: u258 :: u259 :: u260 :: u261 :: u262 :: u263 :: u264 :: u265 :: u266 :: u267 :: u268 :: [] : List Value).toArray, []⟩ w')) :
    Code.wp Try.prog (regP 36) Q ⟨(u0 :: u1 :: u2 :: u3 :: u4 :: .pointer (some ⟨c, 0, none⟩) :: .pointer (some ⟨x, 0, none⟩) :: u7 :: u8 :: u9 :: u10 :: u11 :: u12 :: u13 :: u14 :: u15 :: u16 :: u17 :: u18 :: .slice pu 0 cu :: u20 :: u21 :: .int .i64 (-1) :: .int .i64 0 :: .bool false :: u25 :: u26 :: .bool false :: u28 :: u29 :: u30 :: u31 :: u32 :: u33 :: u34 :: u35 :: u36 :: u37 :: u38 :: u39 :: u40 :: u41 :: u42 :: u43 :: u44 :: u45 :: u46 :: u47 :: u48 :: u49 :: u50 :: u51 :: u52 :: u53 :: u54 :: u55 :: u56 :: u57 :: u58 :: u59 :: u60 :: u61 :: u62 :: u63 :: u64 :: u65 :: u66 :: u67 :: u68 :: u69 :: u70 :: u71 :: u72 :: u73 :: u74 :: u75 :: u76 :: u77 :: u78 :: u79 :: u80 :: u81 :: u82 :: u83 :: u84 :: u85 :: u86 :: u87 :: u88 :: u89 :: u90 :: u91 :: u92 :: u93 :: u94 :: u95 :: u96 :: u97 :: u98 :: u99 :: u100 :: u101 :: u102 :: u103 :: u104 :: u105 :: u106 :: u107 :: u108 :: u109 :: u110 :: u111 :: u112 :: u113 :: u114 :: u115 :: u116 :: u117 :: u118 :: u119 :: u120 :: u121 :: u122 :: u123 :: u124 :: u125 :: u126 :: u127 :: u128 :: u129 :: u130 :: u131 :: u132 :: u133 :: u134 :: u135 :: u136 :: u137 :: u138 :: u139 :: u140 :: u141 :: u142 :: u143 :: u144 :: u145 :: u146 :: u147 :: u148 :: u149 :: u150 :: u151 :: u152 :: u153 :: u154 :: u155 :: u156 :: u157 :: u158 :: u159 :: u160 :: u161 :: u162 :: u163 :: u164 :: u165 :: u166 :: u167 :: u168 :: u169 :: u170 :: u171 :: u172 :: u173 :: u174 :: u175 :: u176 :: u177 :: u178 :: u179 :: u180 :: u181 :: u182 :: u183 :: u184 :: u185 :: u186 :: u187 :: u188 :: u189 :: u190 :: u191 :: u192 :: u193 :: u194 :: u195 :: u196 :: u197 :: u198 :: u199 :: u200 :: u201 :: u202 :: u203 :: u204 :: u205 :: u206 :: u207 :: u208 :: u209 :: u210 :: u211 :: u212 :: u213 :: u214 :: u215 :: u216 :: u217 :: u218 :: u219 :: u220 :: u221 :: u222 :: u223 :: u224 :: u225 :: u226 :: u227 :: u228 :: u229 :: u230 :: u231 :: u232 :: u233 :: u234 :: u235 :: u236 :: u237 :: u238 :: u239 :: u240 :: u241 :: u242 :: u243 :: u244 :: u245 :: u246 :: u247 :: u248 :: u249 :: u250 :: u251 :: u252 :: u253 :: u254 :: u255 :: u256 :: u257 :: u258 :: u259 :: u260 :: u261 :: u262 :: u263 :: u264 :: u265 :: u266 :: u267 :: u268 :: [] : List Value).toArray, []⟩ w10 := by
  conv => arg 2; whnf
  have K0 := KS.out w10.drew T10.out.drew
  refine wp_region_noPanic ?_
  refine wp_region_held_drew (S := fun W => W.cell? ⟨x, 2, none⟩ = some (.int .i64 na)) (by kernel_rfl) K0 (fun hHeld => ?_)
  refine wpAnyH_take (i := 0) (oi := ?oi0xC) (v := ?v0xC) ?hi0xC (by kernel_rfl) (by kernel_rfl) (by kernel_rfl) ?hq0xC (Or.inl ⟨?hw0xC, ?hy0xC⟩) (by assumption) ?rest0xC
  case hi0xC => simp only [List.getElem?_toArray, List.getElem?_cons_zero]; rfl
  case hq0xC => exact fun _ _ _ h => h
  case hw0xC => rfl
  case hy0xC => (intro w hSw; (try dsimp only at hSw); have hs0 := hSw; go_simp; (try (with_reducible rfl)))
  (try simp only [Act.put, List.setIfInBounds_toArray, List.set_cons_zero, List.set_cons_succ])
  refine wpAnyH_take (i := 2) (oi := ?oi2xC) (v := ?v2xC) ?hi2xC (by kernel_rfl) (by kernel_rfl) (by kernel_rfl) ?hq2xC (Or.inl ⟨?hw2xC, ?hy2xC⟩) (by assumption) ?rest2xC
  case hi2xC => simp only [List.getElem?_toArray, List.getElem?_cons_succ, List.getElem?_cons_zero]; rfl
  case hq2xC => exact fun _ _ _ h => h
  case hw2xC => rfl
  case hy2xC => (intro w hSw; (try dsimp only at hSw); have hs0 := hSw; go_simp; (try (with_reducible rfl)))
  (try simp only [Act.put, List.setIfInBounds_toArray, List.set_cons_zero, List.set_cons_succ])
  refine wpAnyH_ready (rs := [1]) (by kernel_rfl) (by simp) ?_
  refine AllReadyH.cons (o := ?or1) ?hir1 (fun K' hK' => ?_) AllReadyH.nil
  case hir1 => simp only [List.getElem?_toArray, List.getElem?_cons_succ, List.getElem?_cons_zero]; rfl
  go_simp
  (go_at_call 33; (with_reducible refine (HC3.out.pl.keys).mono ?_); rintro e w11 ⟨v11, rfl, n11, t11⟩; have T11 := Lib.hid (TT T10.out.drew t11); have S11 := Lib.hid (KS.out w11 T11.out); have N11 := Lib.hid (And.intro n11 (HNK.out.past T11.out)); have HC4 := Lib.hid (HC3.out.past t11); clear t11 n11)
  (try go_wp2_with fail)
  refine hK'.out _ _ S11.out (fun hHeld => ?_)
  clear hK' K'
  (try simp only [Act.put, List.setIfInBounds_toArray, List.set_cons_zero, List.set_cons_succ])
  refine wpAnyH_ready (rs := [3]) (by kernel_rfl) (by simp) ?_
  refine AllReadyH.cons (o := ?or3) ?hir3 (fun K' hK' => ?_) AllReadyH.nil
  case hir3 => simp only [List.getElem?_toArray, List.getElem?_cons_succ, List.getElem?_cons_zero]; rfl
  go_simp
  (go_at_call 30; (with_reducible refine (ints_eq _ _ _ _ HLE.out N11.out.1 N11.out.2).mono ?_); rintro e w12 ⟨rfl, t12⟩; have T12 := Lib.hid (TT T11.out t12); have S12 := Lib.hid (KS.out w12 T12.out); have C12 := Lib.hid (HC4.out.past t12).pl.count; have N12 := Lib.hid (HC4.out.past t12).pl.now'; rw [HLM.out] at C12; clear t12)
  (try go_wp2_with fail)
  refine hK'.out _ _ S12.out (fun hHeld => ?_)
  clear hK' K'
  (try simp only [Act.put, List.setIfInBounds_toArray, List.set_cons_zero, List.set_cons_succ])
  refine wpAnyH_take (i := 4) (oi := ?oi4xC) (v := ?v4xC) ?hi4xC (by kernel_rfl) (by kernel_rfl) (by kernel_rfl) ?hq4xC (Or.inl ⟨?hw4xC, ?hy4xC⟩) (by assumption) ?rest4xC
  case hi4xC => simp only [List.getElem?_toArray, List.getElem?_cons_succ, List.getElem?_cons_zero]; rfl
  case hq4xC => exact fun _ _ _ h => h
  case hw4xC => rfl
  case hy4xC => (intro w hSw; (try dsimp only at hSw); have hs0 := hSw; go_simp; (try (with_reducible rfl)))
  (try simp only [Act.put, List.setIfInBounds_toArray, List.set_cons_zero, List.set_cons_succ])
  refine wpAnyH_take (i := 5) (oi := ?oi5xC) (v := ?v5xC) ?hi5xC (by kernel_rfl) (by kernel_rfl) (by kernel_rfl) ?hq5xC (Or.inl ⟨?hw5xC, ?hy5xC⟩) (by assumption) ?rest5xC
  case hi5xC => simp only [List.getElem?_toArray, List.getElem?_cons_succ, List.getElem?_cons_zero]; rfl
  case hq5xC => exact fun _ _ _ h => h
  case hw5xC => rfl
  case hy5xC => (intro w hSw; (try dsimp only at hSw); have hs0 := hSw; go_simp; (try (with_reducible rfl)))
  (try simp only [Act.put, List.setIfInBounds_toArray, List.set_cons_zero, List.set_cons_succ])
  refine wpAnyH_take (i := 6) (oi := ?oi6xC) (v := ?v6xC) ?hi6xC (by kernel_rfl) (by kernel_rfl) (by kernel_rfl) ?hq6xC (Or.inl ⟨?hw6xC, ?hy6xC⟩) (by assumption) ?rest6xC
  case hi6xC => simp only [List.getElem?_toArray, List.getElem?_cons_succ, List.getElem?_cons_zero]; rfl
  case hq6xC => exact fun _ _ _ h => h
  case hw6xC => rfl
  case hy6xC => (intro w hSw; (try dsimp only at hSw); have hs0 := hSw; go_simp; (try (with_reducible rfl)))
  (try simp only [Act.put, List.setIfInBounds_toArray, List.set_cons_zero, List.set_cons_succ])
  refine wpAnyH_take (i := 8) (oi := ?oi8xC) (v := ?v8xC) ?hi8xC (by kernel_rfl) (by kernel_rfl) (by kernel_rfl) ?hq8xC (Or.inl ⟨?hw8xC, ?hy8xC⟩) (by assumption) ?rest8xC
  case hi8xC => simp only [List.getElem?_toArray, List.getElem?_cons_succ, List.getElem?_cons_zero]; rfl
  case hq8xC => exact fun _ _ _ h => h
  case hw8xC => rfl
  case hy8xC => (intro w hSw; (try dsimp only at hSw); have hs0 := hSw; go_simp; (try (with_reducible rfl)))
  (try simp only [Act.put, List.setIfInBounds_toArray, List.set_cons_zero, List.set_cons_succ])
  refine wpAnyH_take (i := 9) (oi := ?oi9xC) (v := ?v9xC) ?hi9xC (by kernel_rfl) (by kernel_rfl) (by kernel_rfl) ?hq9xC (Or.inl ⟨?hw9xC, ?hy9xC⟩) (by assumption) ?rest9xC
  case hi9xC => simp only [List.getElem?_toArray, List.getElem?_cons_succ, List.getElem?_cons_zero]; rfl
  case hq9xC => exact fun _ _ _ h => h
  case hw9xC => rfl
  case hy9xC => (intro w hSw; (try dsimp only at hSw); have hs0 := hSw; go_simp; (try (with_reducible rfl)))
  (try simp only [Act.put, List.setIfInBounds_toArray, List.set_cons_zero, List.set_cons_succ])
  refine wpAnyH_ready (rs := [7]) (by kernel_rfl) (by simp) ?_
  refine AllReadyH.cons (o := ?or7) ?hir7 (fun K' hK' => ?_) AllReadyH.nil
  case hir7 => simp only [List.getElem?_toArray, List.getElem?_cons_succ, List.getElem?_cons_zero]; rfl
  go_simp
  (go_at_call 34; (with_reducible refine C12.out.mono ?_); rintro e w13 ⟨rfl, rfl⟩)
  (try go_wp2_with fail)
  refine hK'.out _ _ S12.out (fun hHeld => ?_)
  clear hK' K'
  (try simp only [Act.put, List.setIfInBounds_toArray, List.set_cons_zero, List.set_cons_succ])
  refine wpAnyH_take (i := 10) (oi := ?oi10xC) (v := ?v10xC) ?hi10xC (by kernel_rfl) (by kernel_rfl) (by kernel_rfl) ?hq10xC (Or.inl ⟨?hw10xC, ?hy10xC⟩) (by assumption) ?rest10xC
  case hi10xC => simp only [List.getElem?_toArray, List.getElem?_cons_succ, List.getElem?_cons_zero]; rfl
  case hq10xC => exact fun _ _ _ h => h
  case hw10xC => rfl
  case hy10xC => (intro w hSw; (try dsimp only at hSw); have hs0 := hSw; go_simp; (try (with_reducible rfl)))
  (try simp only [Act.put, List.setIfInBounds_toArray, List.set_cons_zero, List.set_cons_succ])
  refine wpAnyH_take (i := 11) (oi := ?oi11xC) (v := ?v11xC) ?hi11xC (by kernel_rfl) (by kernel_rfl) (by kernel_rfl) ?hq11xC (Or.inl ⟨?hw11xC, ?hy11xC⟩) (by assumption) ?rest11xC
  case hi11xC => simp only [List.getElem?_toArray, List.getElem?_cons_succ, List.getElem?_cons_zero]; rfl
  case hq11xC => exact fun _ _ _ h => h
  case hw11xC => rfl
  case hy11xC => (intro w hSw; (try dsimp only at hSw); have hs0 := hSw; go_simp; (try (with_reducible rfl)))
  (try simp only [Act.put, List.setIfInBounds_toArray, List.set_cons_zero, List.set_cons_succ])
  refine wpAnyH_take (i := 12) (oi := ?oi12xC) (v := ?v12xC) ?hi12xC (by kernel_rfl) (by kernel_rfl) (by kernel_rfl) ?hq12xC (Or.inl ⟨?hw12xC, ?hy12xC⟩) (by assumption) ?rest12xC
  case hi12xC => simp only [List.getElem?_toArray, List.getElem?_cons_succ, List.getElem?_cons_zero]; rfl
  case hq12xC => exact fun _ _ _ h => h
  case hw12xC => rfl
  case hy12xC => (intro w hSw; (try dsimp only at hSw); have hs0 := hSw; go_simp; (try (with_reducible rfl)))
  (try simp only [Act.put, List.setIfInBounds_toArray, List.set_cons_zero, List.set_cons_succ])
  refine wpAnyH_take (i := 13) (oi := ?oi13xC) (v := ?v13xC) ?hi13xC (by kernel_rfl) (by kernel_rfl) (by kernel_rfl) ?hq13xC (Or.inl ⟨?hw13xC, ?hy13xC⟩) (by assumption) ?rest13xC
  case hi13xC => simp only [List.getElem?_toArray, List.getElem?_cons_succ, List.getElem?_cons_zero]; rfl
  case hq13xC => exact fun _ _ _ h => h
  case hw13xC => rfl
  case hy13xC => (intro w hSw; (try dsimp only at hSw); have hs0 := hSw; go_simp; (try (with_reducible rfl)))
  (try simp only [Act.put, List.setIfInBounds_toArray, List.set_cons_zero, List.set_cons_succ])
  refine wpAnyH_take (i := 15) (oi := ?oi15xC) (v := ?v15xC) ?hi15xC (by kernel_rfl) (by kernel_rfl) (by kernel_rfl) ?hq15xC (Or.inl ⟨?hw15xC, ?hy15xC⟩) (by assumption) ?rest15xC
  case hi15xC => simp only [List.getElem?_toArray, List.getElem?_cons_succ, List.getElem?_cons_zero]; rfl
  case hq15xC => exact fun _ _ _ h => h
  case hw15xC => rfl
  case hy15xC => (intro w hSw; (try dsimp only at hSw); have hs0 := hSw; go_simp; (try (with_reducible rfl)))
  (try simp only [Act.put, List.setIfInBounds_toArray, List.set_cons_zero, List.set_cons_succ])
  refine wpAnyH_take (i := 16) (oi := ?oi16xC) (v := ?v16xC) ?hi16xC (by kernel_rfl) (by kernel_rfl) (by kernel_rfl) ?hq16xC (Or.inl ⟨?hw16xC, ?hy16xC⟩) (by assumption) ?rest16xC
  case hi16xC => simp only [List.getElem?_toArray, List.getElem?_cons_succ, List.getElem?_cons_zero]; rfl
  case hq16xC => exact fun _ _ _ h => h
  case hw16xC => rfl
  case hy16xC => (intro w hSw; (try dsimp only at hSw); have hs0 := hSw; go_simp; (try (with_reducible rfl)))
  (try simp only [Act.put, List.setIfInBounds_toArray, List.set_cons_zero, List.set_cons_succ])
  refine wpAnyH_take (i := 17) (oi := ?oi17xC) (v := ?v17xC) ?hi17xC (by kernel_rfl) (by kernel_rfl) (by kernel_rfl) ?hq17xC (Or.inl ⟨?hw17xC, ?hy17xC⟩) (by assumption) ?rest17xC
  case hi17xC => simp only [List.getElem?_toArray, List.getElem?_cons_succ, List.getElem?_cons_zero]; rfl
  case hq17xC => exact fun _ _ _ h => h
  case hw17xC => rfl
  case hy17xC => (intro w hSw; (try dsimp only at hSw); have hs0 := hSw; go_simp; (try (with_reducible rfl)))
  (try simp only [Act.put, List.setIfInBounds_toArray, List.set_cons_zero, List.set_cons_succ])
  refine wpAnyH_take (i := 18) (oi := ?oi18xC) (v := ?v18xC) ?hi18xC (by kernel_rfl) (by kernel_rfl) (by kernel_rfl) ?hq18xC (Or.inl ⟨?hw18xC, ?hy18xC⟩) (by assumption) ?rest18xC
  case hi18xC => simp only [List.getElem?_toArray, List.getElem?_cons_succ, List.getElem?_cons_zero]; rfl
  case hq18xC => exact fun _ _ _ h => h
  case hw18xC => rfl
  case hy18xC => (intro w hSw; (try dsimp only at hSw); have hs0 := hSw; go_simp; (try (with_reducible rfl)))
  (try simp only [Act.put, List.setIfInBounds_toArray, List.set_cons_zero, List.set_cons_succ])
  refine wpAnyH_ready (rs := [14]) (by kernel_rfl) (by simp) ?_
  refine AllReadyH.cons (o := ?or14) ?hir14 (fun K' hK' => ?_) AllReadyH.nil
  case hir14 => simp only [List.getElem?_toArray, List.getElem?_cons_succ, List.getElem?_cons_zero]; rfl
  go_simp
  (go_at_call 35; (with_reducible refine N12.out.mono ?_); rintro e w14 ⟨rfl, rfl⟩)
  (try go_wp2_with fail)
  refine hK'.out _ _ S12.out (fun hHeld => ?_)
  clear hK' K'
  (try simp only [Act.put, List.setIfInBounds_toArray, List.set_cons_zero, List.set_cons_succ])
  refine wpAnyH_take (i := 19) (oi := ?oi19xC) (v := ?v19xC) ?hi19xC (by kernel_rfl) (by kernel_rfl) (by kernel_rfl) ?hq19xC (Or.inl ⟨?hw19xC, ?hy19xC⟩) (by assumption) ?rest19xC
  case hi19xC => simp only [List.getElem?_toArray, List.getElem?_cons_succ, List.getElem?_cons_zero]; rfl
  case hq19xC => exact fun _ _ _ h => h
  case hw19xC => rfl
  case hy19xC => (intro w hSw; (try dsimp only at hSw); have hs0 := hSw; go_simp; (try (with_reducible rfl)))
  (try simp only [Act.put, List.setIfInBounds_toArray, List.set_cons_zero, List.set_cons_succ])
  refine wpAnyH_take (i := 20) (oi := ?oi20xC) (v := ?v20xC) ?hi20xC (by kernel_rfl) (by kernel_rfl) (by kernel_rfl) ?hq20xC (Or.inl ⟨?hw20xC, ?hy20xC⟩) (by assumption) ?rest20xC
  case hi20xC => simp only [List.getElem?_toArray, List.getElem?_cons_succ, List.getElem?_cons_zero]; rfl
  case hq20xC => exact fun _ _ _ h => h
  case hw20xC => rfl
  case hy20xC => (intro w hSw; (try dsimp only at hSw); have hs0 := hSw; go_simp; (try (with_reducible rfl)))
  (try simp only [Act.put, List.setIfInBounds_toArray, List.set_cons_zero, List.set_cons_succ])
  refine wpAnyH_take (i := 21) (oi := ?oi21xC) (v := ?v21xC) ?hi21xC (by kernel_rfl) (by kernel_rfl) (by kernel_rfl) ?hq21xC (Or.inl ⟨?hw21xC, ?hy21xC⟩) (by assumption) ?rest21xC
  case hi21xC => simp only [List.getElem?_toArray, List.getElem?_cons_succ, List.getElem?_cons_zero]; rfl
  case hq21xC => exact fun _ _ _ h => h
  case hw21xC => rfl
  case hy21xC => (intro w hSw; (try dsimp only at hSw); have hs0 := hSw; go_simp; (try (with_reducible rfl)))
  (try simp only [Act.put, List.setIfInBounds_toArray, List.set_cons_zero, List.set_cons_succ])
  refine wpAnyH_take (i := 22) (oi := ?oi22xC) (v := ?v22xC) ?hi22xC (by kernel_rfl) (by kernel_rfl) (by kernel_rfl) ?hq22xC (Or.inl ⟨?hw22xC, ?hy22xC⟩) (by assumption) ?rest22xC
  case hi22xC => simp only [List.getElem?_toArray, List.getElem?_cons_succ, List.getElem?_cons_zero]; rfl
  case hq22xC => exact fun _ _ _ h => h
  case hw22xC => rfl
  case hy22xC => (intro w hSw; (try dsimp only at hSw); have hs0 := hSw; go_simp; (try (with_reducible rfl)))
  (try simp only [Act.put, List.setIfInBounds_toArray, List.set_cons_zero, List.set_cons_succ])
  refine wpAnyH_take (i := 23) (oi := ?oi23xC) (v := ?v23xC) ?hi23xC (by kernel_rfl) (by kernel_rfl) (by kernel_rfl) ?hq23xC (Or.inl ⟨?hw23xC, ?hy23xC⟩) (by assumption) ?rest23xC
  case hi23xC => simp only [List.getElem?_toArray, List.getElem?_cons_succ, List.getElem?_cons_zero]; rfl
  case hq23xC => exact fun _ _ _ h => h
  case hw23xC => rfl
  case hy23xC => (intro w hSw; (try dsimp only at hSw); have hs0 := hSw; go_simp; (try (with_reducible rfl)))
  (try simp only [Act.put, List.setIfInBounds_toArray, List.set_cons_zero, List.set_cons_succ])
  refine wpAnyH_take (i := 24) (oi := ?oi24xC) (v := ?v24xC) ?hi24xC (by kernel_rfl) (by kernel_rfl) (by kernel_rfl) ?hq24xC (Or.inl ⟨?hw24xC, ?hy24xC⟩) (by assumption) ?rest24xC
  case hi24xC => simp only [List.getElem?_toArray, List.getElem?_cons_succ, List.getElem?_cons_zero]; rfl
  case hq24xC => exact fun _ _ _ h => h
  case hw24xC => rfl
  case hy24xC => (intro w hSw; (try dsimp only at hSw); have hs0 := hSw; go_simp; (try (with_reducible rfl)))
  (try simp only [Act.put, List.setIfInBounds_toArray, List.set_cons_zero, List.set_cons_succ])
  refine wpAnyH_take (i := 25) (oi := ?oi25xC) (v := ?v25xC) ?hi25xC (by kernel_rfl) (by kernel_rfl) (by kernel_rfl) ?hq25xC (Or.inl ⟨?hw25xC, ?hy25xC⟩) (by assumption) ?rest25xC
  case hi25xC => simp only [List.getElem?_toArray, List.getElem?_cons_succ, List.getElem?_cons_zero]; rfl
  case hq25xC => exact fun _ _ _ h => h
  case hw25xC => rfl
  case hy25xC => (intro w hSw; (try dsimp only at hSw); have hs0 := hSw; go_simp; (try (with_reducible rfl)))
  (try simp only [Act.put, List.setIfInBounds_toArray, List.set_cons_zero, List.set_cons_succ])
  refine wpAnyH_take (i := 26) (oi := ?oi26xC) (v := ?v26xC) ?hi26xC (by kernel_rfl) (by kernel_rfl) (by kernel_rfl) ?hq26xC (Or.inl ⟨?hw26xC, ?hy26xC⟩) (by assumption) ?rest26xC
  case hi26xC => simp only [List.getElem?_toArray, List.getElem?_cons_succ, List.getElem?_cons_zero]; rfl
  case hq26xC => exact fun _ _ _ h => h
  case hw26xC => rfl
  case hy26xC => (intro w hSw; (try dsimp only at hSw); have hs0 := hSw; go_simp; (try (with_reducible rfl)))
  (try simp only [Act.put, List.setIfInBounds_toArray, List.set_cons_zero, List.set_cons_succ])
  refine wpAnyH_take (i := 27) (oi := ?oi27xC) (v := ?v27xC) ?hi27xC (by kernel_rfl) (by kernel_rfl) (by kernel_rfl) ?hq27xC (Or.inl ⟨?hw27xC, ?hy27xC⟩) (by assumption) ?rest27xC
  case hi27xC => simp only [List.getElem?_toArray, List.getElem?_cons_succ, List.getElem?_cons_zero]; rfl
  case hq27xC => exact fun _ _ _ h => h
  case hw27xC => rfl
  case hy27xC => (intro w hSw; (try dsimp only at hSw); have hs0 := hSw; go_simp; (try (with_reducible rfl)))
  (try simp only [Act.put, List.setIfInBounds_toArray, List.set_cons_zero, List.set_cons_succ])
  refine wpAnyH_take (i := 28) (oi := ?oi28xC) (v := ?v28xC) ?hi28xC (by kernel_rfl) (by kernel_rfl) (by kernel_rfl) ?hq28xC (Or.inl ⟨?hw28xC, ?hy28xC⟩) (by assumption) ?rest28xC
  case hi28xC => simp only [List.getElem?_toArray, List.getElem?_cons_succ, List.getElem?_cons_zero]; rfl
  case hq28xC => exact fun _ _ _ h => h
  case hw28xC => rfl
  case hy28xC => (intro w hSw; (try dsimp only at hSw); have hs0 := hSw; go_simp; (try (with_reducible rfl)))
  (try simp only [Act.put, List.setIfInBounds_toArray, List.set_cons_zero, List.set_cons_succ])
  refine wpAnyH_take (i := 29) (oi := ?oi29xC) (v := ?v29xC) ?hi29xC (by kernel_rfl) (by kernel_rfl) (by kernel_rfl) ?hq29xC (Or.inl ⟨?hw29xC, ?hy29xC⟩) (by assumption) ?rest29xC
  case hi29xC => simp only [List.getElem?_toArray, List.getElem?_cons_succ, List.getElem?_cons_zero]; rfl
  case hq29xC => exact fun _ _ _ h => h
  case hw29xC => rfl
  case hy29xC => (intro w hSw; (try dsimp only at hSw); have hs0 := hSw; go_simp; (try (with_reducible rfl)))
  (try simp only [Act.put, List.setIfInBounds_toArray, List.set_cons_zero, List.set_cons_succ])
  refine wpAnyH_take (i := 30) (oi := ?oi30xC) (v := undef) ?hi30xC (by kernel_rfl) (by kernel_rfl) (by kernel_rfl) ?hq30xC (Or.inr ⟨?hw30xC, rfl⟩) (by assumption) ?rest30xC
  case hi30xC => simp only [List.getElem?_toArray, List.getElem?_cons_succ, List.getElem?_cons_zero]; rfl
  case hq30xC => exact fun _ _ _ h => h
  case hw30xC => rfl
  (try simp only [Act.put, List.setIfInBounds_toArray, List.set_cons_zero, List.set_cons_succ])
  refine wpAnyH_take (i := 31) (oi := ?oi31xC) (v := undef) ?hi31xC (by kernel_rfl) (by kernel_rfl) (by kernel_rfl) ?hq31xC (Or.inr ⟨?hw31xC, rfl⟩) (by assumption) ?rest31xC
  case hi31xC => simp only [List.getElem?_toArray, List.getElem?_cons_succ, List.getElem?_cons_zero]; rfl
  case hq31xC => exact fun _ _ _ h => h
  case hw31xC => rfl
  (try simp only [Act.put, List.setIfInBounds_toArray, List.set_cons_zero, List.set_cons_succ])
  refine wpAnyH_take (i := 32) (oi := ?oi32xC) (v := undef) ?hi32xC (by kernel_rfl) (by kernel_rfl) (by kernel_rfl) ?hq32xC (Or.inr ⟨?hw32xC, rfl⟩) (by assumption) ?rest32xC
  case hi32xC => simp only [List.getElem?_toArray, List.getElem?_cons_succ, List.getElem?_cons_zero]; rfl
  case hq32xC => exact fun _ _ _ h => h
  case hw32xC => rfl
  (try simp only [Act.put, List.setIfInBounds_toArray, List.set_cons_zero, List.set_cons_succ])
  refine wpAnyH_take (i := 33) (oi := ?oi33xC) (v := undef) ?hi33xC (by kernel_rfl) (by kernel_rfl) (by kernel_rfl) ?hq33xC (Or.inr ⟨?hw33xC, rfl⟩) (by assumption) ?rest33xC
  case hi33xC => simp only [List.getElem?_toArray, List.getElem?_cons_succ, List.getElem?_cons_zero]; rfl
  case hq33xC => exact fun _ _ _ h => h
  case hw33xC => rfl
  (try simp only [Act.put, List.setIfInBounds_toArray, List.set_cons_zero, List.set_cons_succ])
  refine wpAnyH_take (i := 34) (oi := ?oi34xC) (v := undef) ?hi34xC (by kernel_rfl) (by kernel_rfl) (by kernel_rfl) ?hq34xC (Or.inr ⟨?hw34xC, rfl⟩) (by assumption) ?rest34xC
  case hi34xC => simp only [List.getElem?_toArray, List.getElem?_cons_succ, List.getElem?_cons_zero]; rfl
  case hq34xC => exact fun _ _ _ h => h
  case hw34xC => rfl
  (try simp only [Act.put, List.setIfInBounds_toArray, List.set_cons_zero, List.set_cons_succ])
  refine wpAnyH_take (i := 35) (oi := ?oi35xC) (v := undef) ?hi35xC (by kernel_rfl) (by kernel_rfl) (by kernel_rfl) ?hq35xC (Or.inr ⟨?hw35xC, rfl⟩) (by assumption) ?rest35xC
  case hi35xC => simp only [List.getElem?_toArray, List.getElem?_cons_succ, List.getElem?_cons_zero]; rfl
  case hq35xC => exact fun _ _ _ h => h
  case hw35xC => rfl
  (try simp only [Act.put, List.setIfInBounds_toArray, List.set_cons_zero, List.set_cons_succ])
  refine wpAnyH_take (i := 36) (oi := ?oi36xC) (v := undef) ?hi36xC (by kernel_rfl) (by kernel_rfl) (by kernel_rfl) ?hq36xC (Or.inr ⟨?hw36xC, rfl⟩) (by assumption) ?rest36xC
  case hi36xC => simp only [List.getElem?_toArray, List.getElem?_cons_succ, List.getElem?_cons_zero]; rfl
  case hq36xC => exact fun _ _ _ h => h
  case hw36xC => rfl
  (try simp only [Act.put, List.setIfInBounds_toArray, List.set_cons_zero, List.set_cons_succ])
  refine wpAnyH_take (i := 37) (oi := ?oi37xC) (v := undef) ?hi37xC (by kernel_rfl) (by kernel_rfl) (by kernel_rfl) ?hq37xC (Or.inr ⟨?hw37xC, rfl⟩) (by assumption) ?rest37xC
  case hi37xC => simp only [List.getElem?_toArray, List.getElem?_cons_succ, List.getElem?_cons_zero]; rfl
  case hq37xC => exact fun _ _ _ h => h
  case hw37xC => rfl
  (try simp only [Act.put, List.setIfInBounds_toArray, List.set_cons_zero, List.set_cons_succ])
  refine wpAnyH_take (i := 38) (oi := ?oi38xC) (v := undef) ?hi38xC (by kernel_rfl) (by kernel_rfl) (by kernel_rfl) ?hq38xC (Or.inr ⟨?hw38xC, rfl⟩) (by assumption) ?rest38xC
  case hi38xC => simp only [List.getElem?_toArray, List.getElem?_cons_succ, List.getElem?_cons_zero]; rfl
  case hq38xC => exact fun _ _ _ h => h
  case hw38xC => rfl
  (try simp only [Act.put, List.setIfInBounds_toArray, List.set_cons_zero, List.set_cons_succ])
  refine wpAnyH_take (i := 39) (oi := ?oi39xC) (v := undef) ?hi39xC (by kernel_rfl) (by kernel_rfl) (by kernel_rfl) ?hq39xC (Or.inr ⟨?hw39xC, rfl⟩) (by assumption) ?rest39xC
  case hi39xC => simp only [List.getElem?_toArray, List.getElem?_cons_succ, List.getElem?_cons_zero]; rfl
  case hq39xC => exact fun _ _ _ h => h
  case hw39xC => rfl
  (try simp only [Act.put, List.setIfInBounds_toArray, List.set_cons_zero, List.set_cons_succ])
  refine wpAnyH_take (i := 40) (oi := ?oi40xC) (v := ?v40xC) ?hi40xC (by kernel_rfl) (by kernel_rfl) (by kernel_rfl) ?hq40xC (Or.inl ⟨?hw40xC, ?hy40xC⟩) (by assumption) ?rest40xC
  case hi40xC => simp only [List.getElem?_toArray, List.getElem?_cons_succ, List.getElem?_cons_zero]; rfl
  case hq40xC => exact fun _ _ _ h => h
  case hw40xC => rfl
  case hy40xC => (intro w hSw; (try dsimp only at hSw); have hs0 := hSw; go_simp; (try (with_reducible rfl)))
  (try simp only [Act.put, List.setIfInBounds_toArray, List.set_cons_zero, List.set_cons_succ])
  refine wpAnyH_take (i := 41) (oi := ?oi41xC) (v := ?v41xC) ?hi41xC (by kernel_rfl) (by kernel_rfl) (by kernel_rfl) ?hq41xC (Or.inl ⟨?hw41xC, ?hy41xC⟩) (by assumption) ?rest41xC
  case hi41xC => simp only [List.getElem?_toArray, List.getElem?_cons_succ, List.getElem?_cons_zero]; rfl
  case hq41xC => exact fun _ _ _ h => h
  case hw41xC => rfl
  case hy41xC => (intro w hSw; (try dsimp only at hSw); have hs0 := hSw; go_simp; (try (with_reducible rfl)))
  (try simp only [Act.put, List.setIfInBounds_toArray, List.set_cons_zero, List.set_cons_succ])
  refine wpAnyH_take (i := 42) (oi := ?oi42xC) (v := ?v42xC) ?hi42xC (by kernel_rfl) (by kernel_rfl) (by kernel_rfl) ?hq42xC (Or.inl ⟨?hw42xC, ?hy42xC⟩) (by assumption) ?rest42xC
  case hi42xC => simp only [List.getElem?_toArray, List.getElem?_cons_succ, List.getElem?_cons_zero]; rfl
  case hq42xC => exact fun _ _ _ h => h
  case hw42xC => rfl
  case hy42xC => (intro w hSw; (try dsimp only at hSw); have hs0 := hSw; go_simp; (try (with_reducible rfl)))
  (try simp only [Act.put, List.setIfInBounds_toArray, List.set_cons_zero, List.set_cons_succ])
  refine wpAnyH_take (i := 43) (oi := ?oi43xC) (v := ?v43xC) ?hi43xC (by kernel_rfl) (by kernel_rfl) (by kernel_rfl) ?hq43xC (Or.inl ⟨?hw43xC, ?hy43xC⟩) (by assumption) ?rest43xC
  case hi43xC => simp only [List.getElem?_toArray, List.getElem?_cons_succ, List.getElem?_cons_zero]; rfl
  case hq43xC => exact fun _ _ _ h => h
  case hw43xC => rfl
  case hy43xC => (intro w hSw; (try dsimp only at hSw); have hs0 := hSw; go_simp; (try (with_reducible rfl)))
  (try simp only [Act.put, List.setIfInBounds_toArray, List.set_cons_zero, List.set_cons_succ])
  refine wpAnyH_take (i := 44) (oi := ?oi44xC) (v := ?v44xC) ?hi44xC (by kernel_rfl) (by kernel_rfl) (by kernel_rfl) ?hq44xC (Or.inl ⟨?hw44xC, ?hy44xC⟩) (by assumption) ?rest44xC
  case hi44xC => simp only [List.getElem?_toArray, List.getElem?_cons_succ, List.getElem?_cons_zero]; rfl
  case hq44xC => exact fun _ _ _ h => h
  case hw44xC => rfl
  case hy44xC => (intro w hSw; (try dsimp only at hSw); have hs0 := hSw; go_simp; (try (with_reducible rfl)))
  (try simp only [Act.put, List.setIfInBounds_toArray, List.set_cons_zero, List.set_cons_succ])
  refine wpAnyH_take (i := 45) (oi := ?oi45xC) (v := ?v45xC) ?hi45xC (by kernel_rfl) (by kernel_rfl) (by kernel_rfl) ?hq45xC (Or.inl ⟨?hw45xC, ?hy45xC⟩) (by assumption) ?rest45xC
  case hi45xC => simp only [List.getElem?_toArray, List.getElem?_cons_succ, List.getElem?_cons_zero]; rfl
  case hq45xC => exact fun _ _ _ h => h
  case hw45xC => rfl
  case hy45xC => (intro w hSw; (try dsimp only at hSw); have hs0 := hSw; go_simp; (try (with_reducible rfl)))
  (try simp only [Act.put, List.setIfInBounds_toArray, List.set_cons_zero, List.set_cons_succ])
  refine wpAnyH_take (i := 46) (oi := ?oi46xC) (v := ?v46xC) ?hi46xC (by kernel_rfl) (by kernel_rfl) (by kernel_rfl) ?hq46xC (Or.inl ⟨?hw46xC, ?hy46xC⟩) (by assumption) ?rest46xC
  case hi46xC => simp only [List.getElem?_toArray, List.getElem?_cons_succ, List.getElem?_cons_zero]; rfl
  case hq46xC => exact fun _ _ _ h => h
  case hw46xC => rfl
  case hy46xC => (intro w hSw; (try dsimp only at hSw); have hs0 := hSw; go_simp; (try (with_reducible rfl)))
  (try simp only [Act.put, List.setIfInBounds_toArray, List.set_cons_zero, List.set_cons_succ])
  refine wpAnyH_take (i := 47) (oi := ?oi47xC) (v := ?v47xC) ?hi47xC (by kernel_rfl) (by kernel_rfl) (by kernel_rfl) ?hq47xC (Or.inl ⟨?hw47xC, ?hy47xC⟩) (by assumption) ?rest47xC
  case hi47xC => simp only [List.getElem?_toArray, List.getElem?_cons_succ, List.getElem?_cons_zero]; rfl
  case hq47xC => exact fun _ _ _ h => h
  case hw47xC => rfl
  case hy47xC => (intro w hSw; (try dsimp only at hSw); have hs0 := hSw; go_simp; (try (with_reducible rfl)))
  (try simp only [Act.put, List.setIfInBounds_toArray, List.set_cons_zero, List.set_cons_succ])
  refine wpAnyH_take (i := 48) (oi := ?oi48xC) (v := ?v48xC) ?hi48xC (by kernel_rfl) (by kernel_rfl) (by kernel_rfl) ?hq48xC (Or.inl ⟨?hw48xC, ?hy48xC⟩) (by assumption) ?rest48xC
  case hi48xC => simp only [List.getElem?_toArray, List.getElem?_cons_succ, List.getElem?_cons_zero]; rfl
  case hq48xC => exact fun _ _ _ h => h
  case hw48xC => rfl
  case hy48xC => (intro w hSw; (try dsimp only at hSw); have hs0 := hSw; go_simp; (try (with_reducible rfl)))
  (try simp only [Act.put, List.setIfInBounds_toArray, List.set_cons_zero, List.set_cons_succ])
  refine wpAnyH_take (i := 49) (oi := ?oi49xC) (v := ?v49xC) ?hi49xC (by kernel_rfl) (by kernel_rfl) (by kernel_rfl) ?hq49xC (Or.inl ⟨?hw49xC, ?hy49xC⟩) (by assumption) ?rest49xC
  case hi49xC => simp only [List.getElem?_toArray, List.getElem?_cons_succ, List.getElem?_cons_zero]; rfl
  case hq49xC => exact fun _ _ _ h => h
  case hw49xC => rfl
  case hy49xC => (intro w hSw; (try dsimp only at hSw); have hs0 := hSw; go_simp; (try (with_reducible rfl)))
  (try simp only [Act.put, List.setIfInBounds_toArray, List.set_cons_zero, List.set_cons_succ])
  refine wpAnyH_take (i := 50) (oi := ?oi50xC) (v := ?v50xC) ?hi50xC (by kernel_rfl) (by kernel_rfl) (by kernel_rfl) ?hq50xC (Or.inl ⟨?hw50xC, ?hy50xC⟩) (by assumption) ?rest50xC
  case hi50xC => simp only [List.getElem?_toArray, List.getElem?_cons_succ, List.getElem?_cons_zero]; rfl
  case hq50xC => exact fun _ _ _ h => h
  case hw50xC => rfl
  case hy50xC => (intro w hSw; (try dsimp only at hSw); have hs0 := hSw; go_simp; (try (with_reducible rfl)))
  (try simp only [Act.put, List.setIfInBounds_toArray, List.set_cons_zero, List.set_cons_succ])
  refine wpAnyH_take (i := 51) (oi := ?oi51xC) (v := ?v51xC) ?hi51xC (by kernel_rfl) (by kernel_rfl) (by kernel_rfl) ?hq51xC (Or.inl ⟨?hw51xC, ?hy51xC⟩) (by assumption) ?rest51xC
  case hi51xC => simp only [List.getElem?_toArray, List.getElem?_cons_succ, List.getElem?_cons_zero]; rfl
  case hq51xC => exact fun _ _ _ h => h
  case hw51xC => rfl
  case hy51xC => (intro w hSw; (try dsimp only at hSw); have hs0 := hSw; go_simp; (try (with_reducible rfl)))
  (try simp only [Act.put, List.setIfInBounds_toArray, List.set_cons_zero, List.set_cons_succ])
  refine wpAnyH_take (i := 52) (oi := ?oi52xC) (v := ?v52xC) ?hi52xC (by kernel_rfl) (by kernel_rfl) (by kernel_rfl) ?hq52xC (Or.inl ⟨?hw52xC, ?hy52xC⟩) (by assumption) ?rest52xC
  case hi52xC => simp only [List.getElem?_toArray, List.getElem?_cons_succ, List.getElem?_cons_zero]; rfl
  case hq52xC => exact fun _ _ _ h => h
  case hw52xC => rfl
  case hy52xC => (intro w hSw; (try dsimp only at hSw); have hs0 := hSw; go_simp; (try (with_reducible rfl)))
  (try simp only [Act.put, List.setIfInBounds_toArray, List.set_cons_zero, List.set_cons_succ])
  refine wpAnyH_take (i := 53) (oi := ?oi53xC) (v := ?v53xC) ?hi53xC (by kernel_rfl) (by kernel_rfl) (by kernel_rfl) ?hq53xC (Or.inl ⟨?hw53xC, ?hy53xC⟩) (by assumption) ?rest53xC
  case hi53xC => simp only [List.getElem?_toArray, List.getElem?_cons_succ, List.getElem?_cons_zero]; rfl
  case hq53xC => exact fun _ _ _ h => h
  case hw53xC => rfl
  case hy53xC => (intro w hSw; (try dsimp only at hSw); have hs0 := hSw; go_simp; (try (with_reducible rfl)))
  (try simp only [Act.put, List.setIfInBounds_toArray, List.set_cons_zero, List.set_cons_succ])
  refine wpAnyH_take (i := 54) (oi := ?oi54xC) (v := ?v54xC) ?hi54xC (by kernel_rfl) (by kernel_rfl) (by kernel_rfl) ?hq54xC (Or.inl ⟨?hw54xC, ?hy54xC⟩) (by assumption) ?rest54xC
  case hi54xC => simp only [List.getElem?_toArray, List.getElem?_cons_succ, List.getElem?_cons_zero]; rfl
  case hq54xC => exact fun _ _ _ h => h
  case hw54xC => rfl
  case hy54xC => (intro w hSw; (try dsimp only at hSw); have hs0 := hSw; go_simp; (try (with_reducible rfl)))
  (try simp only [Act.put, List.setIfInBounds_toArray, List.set_cons_zero, List.set_cons_succ])
  refine wpAnyH_take (i := 55) (oi := ?oi55xC) (v := ?v55xC) ?hi55xC (by kernel_rfl) (by kernel_rfl) (by kernel_rfl) ?hq55xC (Or.inl ⟨?hw55xC, ?hy55xC⟩) (by assumption) ?rest55xC
  case hi55xC => simp only [List.getElem?_toArray, List.getElem?_cons_succ, List.getElem?_cons_zero]; rfl
  case hq55xC => exact fun _ _ _ h => h
  case hw55xC => rfl
  case hy55xC => (intro w hSw; (try dsimp only at hSw); have hs0 := hSw; go_simp; (try (with_reducible rfl)))
  (try simp only [Act.put, List.setIfInBounds_toArray, List.set_cons_zero, List.set_cons_succ])
  refine wpAnyH_take (i := 56) (oi := ?oi56xC) (v := ?v56xC) ?hi56xC (by kernel_rfl) (by kernel_rfl) (by kernel_rfl) ?hq56xC (Or.inl ⟨?hw56xC, ?hy56xC⟩) (by assumption) ?rest56xC
  case hi56xC => simp only [List.getElem?_toArray, List.getElem?_cons_succ, List.getElem?_cons_zero]; rfl
  case hq56xC => exact fun _ _ _ h => h
  case hw56xC => rfl
  case hy56xC => (intro w hSw; (try dsimp only at hSw); have hs0 := hSw; go_simp; (try (with_reducible rfl)))
  (try simp only [Act.put, List.setIfInBounds_toArray, List.set_cons_zero, List.set_cons_succ])
  refine wpAnyH_done (by kernel_rfl) (NoPanic.normal ?_) _
  exact HD.out _ T12.out _ _ _ _ _ _ _ _ _ _ _ _ _ _ _ _ _ _ _ _ _ _ _ _ _ _ _ _ _ _ _ _ _ _ _ _ _ _ _ _ _ _ _ _ _ _ _ _ _ _ _ _ _ _ _ _
end Go.Proofs.Ytcbphfpfdfgehaa
