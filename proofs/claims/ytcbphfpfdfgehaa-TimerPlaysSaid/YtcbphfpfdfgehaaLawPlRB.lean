/-
  TimerPlays: the comparison of all that both show, case B. No conditions but what the walk lays.
-/
import Derived.Test.YtcbphfpfdfgehaaLawPlR
import Derived.Deep.RegionHeld3
import Derived.Deep.DeepCutAuto
namespace Go.Proofs.Ytcbphfpfdfgehaa
open Go.ChangeShapes Go.WideShapes Go.ChangeAt Go.RowKit

set_option linter.unusedVariables false
set_option maxRecDepth 100000 in
set_option maxHeartbeats 60000000 in
theorem pl36B {w wy w10 : World} {c x ob : Nat} {most na kind key n : Int} {L : List En} {pu : Option Addr} {cu : Nat} (m : Nat) (Q : Exit → Act → World → Prop)
    (u0 u1 u2 u3 u4 u7 u8 u9 u10 u11 u12 u13 u14 u15 u16 u17 u18 u20 u21 u25 u26 u28 u29 u30 u31 u32 u33 u34 u35 u36 u37 u38 u39 u40 u41 u42 u43 u44 u45 u46 u47 u48 u49 u50 u51 u52 u53 u54 u55 u56 u57 u58 u59 u60 u61 u62 u63 u64 u65 u66 u67 u68 u69 u70 u71 u72 u73 u74 u75 u76 u77 u78 u79 u80 u81 u82 u83 u84 u85 u86 u87 u88 u89 u90 u91 u92 u93 u94 u95 u96 u97 u98 u99 u100 u101 u102 u103 u104 u105 u106 u107 u108 u109 u110 u111 u112 u113 u114 u115 u116 u117 u118 u119 u120 u121 u122 u123 u124 u125 u126 u127 u128 u129 u130 u131 u132 u133 u134 u135 u136 u137 u138 u139 u140 u141 u142 u143 u144 u145 u146 u147 u148 u149 u150 u151 u152 u153 u154 u155 u156 u157 u158 u159 u160 u161 u162 u163 u164 u165 u166 u167 u168 u169 u170 u171 u172 u173 u174 u175 u176 u177 u178 u179 u180 u181 u182 u183 u184 u185 u186 u187 u188 u189 u190 u191 u192 u193 u194 u195 u196 u197 u198 u199 u200 u201 u202 u203 u204 u205 u206 u207 u208 u209 u210 u211 u212 u213 u214 u215 u216 u217 u218 u219 u220 u221 u222 u223 u224 u225 u226 u227 u228 u229 u230 u231 u232 u233 u234 u235 u236 u237 u238 u239 u240 u241 u242 u243 u244 u245 u246 u247 u248 u249 u250 u251 u252 u253 u254 u255 u256 u257 u258 u259 u260 u261 u262 u263 u264 u265 u266 u267 u268 : Value)
    (HC3 : Hid (PB w w10.drew c x most na L na L ob kind key n NoBlock))
    (HNK : Hid (Nums (.slice pu m cu) (keysOf L) wy))
    (T10 : Hid (Turn NoBlock wy w10))
    (KS : Hid (∀ W : World, Turn NoBlock wy W → W.cell? ⟨x, 2, none⟩ = some (.int .i64 na)))
    (HLE : Hid ((keysOf L).length ≤ 1000000000)) (HLM : Hid (L.length = m))
    (him0 : (0 : Int) < (m : Int)) (him1 : 0 < m)
    (HD : Hid (∀ w' : World, Turn NoBlock wy w' → ∀ y175 y176 y177 y178 y179 y180 y181 y182 y183 y184 y185 y186 y187 y188 y189 y190 y191 y192 y193 y194 y195 y196 y197 y198 y199 y200 y201 y202 y203 y204 y205 y206 y207 y208 y209 y210 y211 y212 y213 y214 y215 y216 y217 y218 y219 y220 y221 y222 y223 y224 y225 y226 y227 y228 y229 y230 : Value, Q Exit.normal ⟨(u0 :: u1 :: u2 :: u3 :: u4 :: .pointer (some ⟨c, 0, none⟩) :: .pointer (some ⟨x, 0, none⟩) :: u7 :: u8 :: u9 :: u10 :: u11 :: u12 :: u13 :: u14 :: u15 :: u16 :: u17 :: u18 :: .slice pu m cu :: u20 :: u21 :: .int .i64 (-1) :: .int .i64 0 :: .bool false :: u25 :: u26 :: .bool true :: u28 :: u29 :: u30 :: u31 :: u32 :: u33 :: u34 :: u35 :: u36 :: u37 :: u38 :: u39 :: u40 :: u41 :: u42 :: u43 :: u44 :: u45 :: u46 :: u47 :: u48 :: u49 :: u50 :: u51 :: u52 :: u53 :: u54 :: u55 :: u56 :: u57 :: u58 :: u59 :: u60 :: u61 :: u62 :: u63 :: u64 :: u65 :: u66 :: u67 :: u68 :: u69 :: u70 :: u71 :: u72 :: u73 :: u74 :: u75 :: u76 :: u77 :: u78 :: u79 :: u80 :: u81 :: u82 :: u83 :: u84 :: u85 :: u86 :: u87 :: u88 :: u89 :: u90 :: u91 :: u92 :: u93 :: u94 :: u95 :: u96 :: u97 :: u98 :: u99 :: u100 :: u101 :: u102 :: u103 :: u104 :: u105 :: u106 :: u107 :: u108 :: u109 :: u110 :: u111 :: u112 :: u113 :: u114 :: u115 :: u116 :: u117 :: u118 :: u119 :: u120 :: u121 :: u122 :: u123 :: u124 :: u125 :: u126 :: u127 :: u128 :: u129 :: u130 :: u131 :: u132 :: u133 :: u134 :: u135 :: u136 :: u137 :: u138 :: u139 :: u140 :: u141 :: u142 :: u143 :: u144 :: u145 :: u146 :: u147 :: u148 :: u149 :: u150 :: u151 :: u152 :: u153 :: u154 :: u155 :: u156 :: u157 :: u158 :: u159 :: u160 :: u161 :: u162 :: u163 :: u164 :: u165 :: u166 :: u167 :: u168 :: u169 :: u170 :: u171 :: u172 :: u173 :: u174 :: y175 :: y176 :: y177 :: y178 :: y179 :: y180 :: y181 :: y182 :: y183 :: y184 :: y185 :: y186 :: y187 :: y188 :: y189 :: y190 :: y191 :: y192 :: y193 :: y194 :: y195 :: y196 :: y197 :: y198 :: y199 :: y200 :: y201 :: y202 :: y203 :: y204 :: y205 :: y206 :: y207 :: y208 :: y209 :: y210 :: y211 :: y212 :: y213 :: y214 :: y215 :: y216 :: y217 :: y218 :: y219 :: y220 :: y221 :: y222 :: y223 :: y224 :: y225 :: y226 :: y227 :: y228 :: y229 :: y230 :: .bool false :: u232 :: u233 :: u234 :: u235 :: u236 :: u237 :: u238 :: u239 :: u240 :: u241 :: u242 :: u243 :: u244 :: u245 :: u246 :: u247 :: u248 :: u249 :: u250 :: u251 :: u252 :: u253 :: u254 :: u255 :: u256 :: u257 :: u258 :: u259 :: u260 :: u261 :: u262 :: u263 :: u264 :: u265 :: u266 :: u267 :: u268 :: [] : List Value).toArray, []⟩ w')) :
    Code.wp Try.prog (regP 36) Q ⟨(u0 :: u1 :: u2 :: u3 :: u4 :: .pointer (some ⟨c, 0, none⟩) :: .pointer (some ⟨x, 0, none⟩) :: u7 :: u8 :: u9 :: u10 :: u11 :: u12 :: u13 :: u14 :: u15 :: u16 :: u17 :: u18 :: .slice pu m cu :: u20 :: u21 :: .int .i64 (-1) :: .int .i64 0 :: .bool false :: u25 :: u26 :: .bool true :: u28 :: u29 :: u30 :: u31 :: u32 :: u33 :: u34 :: u35 :: u36 :: u37 :: u38 :: u39 :: u40 :: u41 :: u42 :: u43 :: u44 :: u45 :: u46 :: u47 :: u48 :: u49 :: u50 :: u51 :: u52 :: u53 :: u54 :: u55 :: u56 :: u57 :: u58 :: u59 :: u60 :: u61 :: u62 :: u63 :: u64 :: u65 :: u66 :: u67 :: u68 :: u69 :: u70 :: u71 :: u72 :: u73 :: u74 :: u75 :: u76 :: u77 :: u78 :: u79 :: u80 :: u81 :: u82 :: u83 :: u84 :: u85 :: u86 :: u87 :: u88 :: u89 :: u90 :: u91 :: u92 :: u93 :: u94 :: u95 :: u96 :: u97 :: u98 :: u99 :: u100 :: u101 :: u102 :: u103 :: u104 :: u105 :: u106 :: u107 :: u108 :: u109 :: u110 :: u111 :: u112 :: u113 :: u114 :: u115 :: u116 :: u117 :: u118 :: u119 :: u120 :: u121 :: u122 :: u123 :: u124 :: u125 :: u126 :: u127 :: u128 :: u129 :: u130 :: u131 :: u132 :: u133 :: u134 :: u135 :: u136 :: u137 :: u138 :: u139 :: u140 :: u141 :: u142 :: u143 :: u144 :: u145 :: u146 :: u147 :: u148 :: u149 :: u150 :: u151 :: u152 :: u153 :: u154 :: u155 :: u156 :: u157 :: u158 :: u159 :: u160 :: u161 :: u162 :: u163 :: u164 :: u165 :: u166 :: u167 :: u168 :: u169 :: u170 :: u171 :: u172 :: u173 :: u174 :: u175 :: u176 :: u177 :: u178 :: u179 :: u180 :: u181 :: u182 :: u183 :: u184 :: u185 :: u186 :: u187 :: u188 :: u189 :: u190 :: u191 :: u192 :: u193 :: u194 :: u195 :: u196 :: u197 :: u198 :: u199 :: u200 :: u201 :: u202 :: u203 :: u204 :: u205 :: u206 :: u207 :: u208 :: u209 :: u210 :: u211 :: u212 :: u213 :: u214 :: u215 :: u216 :: u217 :: u218 :: u219 :: u220 :: u221 :: u222 :: u223 :: u224 :: u225 :: u226 :: u227 :: u228 :: u229 :: u230 :: u231 :: u232 :: u233 :: u234 :: u235 :: u236 :: u237 :: u238 :: u239 :: u240 :: u241 :: u242 :: u243 :: u244 :: u245 :: u246 :: u247 :: u248 :: u249 :: u250 :: u251 :: u252 :: u253 :: u254 :: u255 :: u256 :: u257 :: u258 :: u259 :: u260 :: u261 :: u262 :: u263 :: u264 :: u265 :: u266 :: u267 :: u268 :: [] : List Value).toArray, []⟩ w10 := by
  conv => arg 2; whnf
  have K0 := KS.out w10.drew T10.out.drew
  refine wp_region_noPanic ?_
  refine wp_region_held_drew (S := fun W => W.cell? ⟨x, 2, none⟩ = some (.int .i64 na)) (by kernel_rfl) K0 (fun hHeld => ?_)
  refine wpAnyH_take (i := 0) (oi := ?oi0xB) (v := ?v0xB) ?hi0xB (by kernel_rfl) (by kernel_rfl) (by kernel_rfl) ?hq0xB (Or.inl ⟨?hw0xB, ?hy0xB⟩) (by assumption) ?rest0xB
  case hi0xB => simp only [List.getElem?_toArray, List.getElem?_cons_zero]; rfl
  case hq0xB => exact fun _ _ _ h => h
  case hw0xB => rfl
  case hy0xB => (intro w hSw; (try dsimp only at hSw); have hs0 := hSw; go_simp; (try (with_reducible rfl)))
  (try simp only [Act.put, List.setIfInBounds_toArray, List.set_cons_zero, List.set_cons_succ])
  refine wpAnyH_take (i := 2) (oi := ?oi2xB) (v := ?v2xB) ?hi2xB (by kernel_rfl) (by kernel_rfl) (by kernel_rfl) ?hq2xB (Or.inl ⟨?hw2xB, ?hy2xB⟩) (by assumption) ?rest2xB
  case hi2xB => simp only [List.getElem?_toArray, List.getElem?_cons_succ, List.getElem?_cons_zero]; rfl
  case hq2xB => exact fun _ _ _ h => h
  case hw2xB => rfl
  case hy2xB => (intro w hSw; (try dsimp only at hSw); have hs0 := hSw; go_simp; (try (with_reducible rfl)))
  (try simp only [Act.put, List.setIfInBounds_toArray, List.set_cons_zero, List.set_cons_succ])
  refine wpAnyH_ready (rs := [1]) (by kernel_rfl) (by simp) ?_
  refine AllReadyH.cons (o := ?or1) ?hir1 (fun K' hK' => ?_) AllReadyH.nil
  case hir1 => simp only [List.getElem?_toArray, List.getElem?_cons_succ, List.getElem?_cons_zero]; rfl
  go_simp
  (go_at_call 33; (with_reducible refine (HC3.out.pl.keys).mono ?_); rintro e w11 ⟨v11, rfl, n11, t11⟩; have T11 := Lib.hid (TT T10.out.drew t11); have S11 := Lib.hid (KS.out w11 T11.out); have N11 := Lib.hid (And.intro n11 (HNK.out.past T11.out)); have HC4 := Lib.hid (HC3.out.past t11); clear t11 n11)
  (try go_wp2_with fail)
  refine hK'.out _ _ S11.out (fun hHeld => ?_)
  clear hK' K'
  (try simp only [Act.put, List.setIfInBounds_toArray, List.set_cons_zero, List.set_cons_succ])
  refine wpAnyH_ready (rs := [3]) (by kernel_rfl) (by simp) ?_
  refine AllReadyH.cons (o := ?or3) ?hir3 (fun K' hK' => ?_) AllReadyH.nil
  case hir3 => simp only [List.getElem?_toArray, List.getElem?_cons_succ, List.getElem?_cons_zero]; rfl
  go_simp
  (go_at_call 30; (with_reducible refine (ints_eq _ _ _ _ HLE.out N11.out.1 N11.out.2).mono ?_); rintro e w12 ⟨rfl, t12⟩; have T12 := Lib.hid (TT T11.out t12); have S12 := Lib.hid (KS.out w12 T12.out); have C12 := Lib.hid (HC4.out.past t12).pl.count; have N12 := Lib.hid (HC4.out.past t12).pl.now'; rw [HLM.out] at C12; clear t12)
  (try go_wp2_with fail)
  refine hK'.out _ _ S12.out (fun hHeld => ?_)
  clear hK' K'
  (try simp only [Act.put, List.setIfInBounds_toArray, List.set_cons_zero, List.set_cons_succ])
  refine wpAnyH_take (i := 4) (oi := ?oi4xB) (v := ?v4xB) ?hi4xB (by kernel_rfl) (by kernel_rfl) (by kernel_rfl) ?hq4xB (Or.inl ⟨?hw4xB, ?hy4xB⟩) (by assumption) ?rest4xB
  case hi4xB => simp only [List.getElem?_toArray, List.getElem?_cons_succ, List.getElem?_cons_zero]; rfl
  case hq4xB => exact fun _ _ _ h => h
  case hw4xB => rfl
  case hy4xB => (intro w hSw; (try dsimp only at hSw); have hs0 := hSw; go_simp; (try (with_reducible rfl)))
  (try simp only [Act.put, List.setIfInBounds_toArray, List.set_cons_zero, List.set_cons_succ])
  refine wpAnyH_take (i := 5) (oi := ?oi5xB) (v := ?v5xB) ?hi5xB (by kernel_rfl) (by kernel_rfl) (by kernel_rfl) ?hq5xB (Or.inl ⟨?hw5xB, ?hy5xB⟩) (by assumption) ?rest5xB
  case hi5xB => simp only [List.getElem?_toArray, List.getElem?_cons_succ, List.getElem?_cons_zero]; rfl
  case hq5xB => exact fun _ _ _ h => h
  case hw5xB => rfl
  case hy5xB => (intro w hSw; (try dsimp only at hSw); have hs0 := hSw; go_simp; (try (with_reducible rfl)))
  (try simp only [Act.put, List.setIfInBounds_toArray, List.set_cons_zero, List.set_cons_succ])
  refine wpAnyH_take (i := 6) (oi := ?oi6xB) (v := ?v6xB) ?hi6xB (by kernel_rfl) (by kernel_rfl) (by kernel_rfl) ?hq6xB (Or.inl ⟨?hw6xB, ?hy6xB⟩) (by assumption) ?rest6xB
  case hi6xB => simp only [List.getElem?_toArray, List.getElem?_cons_succ, List.getElem?_cons_zero]; rfl
  case hq6xB => exact fun _ _ _ h => h
  case hw6xB => rfl
  case hy6xB => (intro w hSw; (try dsimp only at hSw); have hs0 := hSw; go_simp; (try (with_reducible rfl)))
  (try simp only [Act.put, List.setIfInBounds_toArray, List.set_cons_zero, List.set_cons_succ])
  refine wpAnyH_take (i := 8) (oi := ?oi8xB) (v := ?v8xB) ?hi8xB (by kernel_rfl) (by kernel_rfl) (by kernel_rfl) ?hq8xB (Or.inl ⟨?hw8xB, ?hy8xB⟩) (by assumption) ?rest8xB
  case hi8xB => simp only [List.getElem?_toArray, List.getElem?_cons_succ, List.getElem?_cons_zero]; rfl
  case hq8xB => exact fun _ _ _ h => h
  case hw8xB => rfl
  case hy8xB => (intro w hSw; (try dsimp only at hSw); have hs0 := hSw; go_simp; (try (with_reducible rfl)))
  (try simp only [Act.put, List.setIfInBounds_toArray, List.set_cons_zero, List.set_cons_succ])
  refine wpAnyH_take (i := 9) (oi := ?oi9xB) (v := ?v9xB) ?hi9xB (by kernel_rfl) (by kernel_rfl) (by kernel_rfl) ?hq9xB (Or.inl ⟨?hw9xB, ?hy9xB⟩) (by assumption) ?rest9xB
  case hi9xB => simp only [List.getElem?_toArray, List.getElem?_cons_succ, List.getElem?_cons_zero]; rfl
  case hq9xB => exact fun _ _ _ h => h
  case hw9xB => rfl
  case hy9xB => (intro w hSw; (try dsimp only at hSw); have hs0 := hSw; go_simp; (try (with_reducible rfl)))
  (try simp only [Act.put, List.setIfInBounds_toArray, List.set_cons_zero, List.set_cons_succ])
  refine wpAnyH_ready (rs := [7]) (by kernel_rfl) (by simp) ?_
  refine AllReadyH.cons (o := ?or7) ?hir7 (fun K' hK' => ?_) AllReadyH.nil
  case hir7 => simp only [List.getElem?_toArray, List.getElem?_cons_succ, List.getElem?_cons_zero]; rfl
  go_simp
  (go_at_call 34; (with_reducible refine C12.out.mono ?_); rintro e w13 ⟨rfl, rfl⟩)
  (try go_wp2_with fail)
  refine hK'.out _ _ S12.out (fun hHeld => ?_)
  clear hK' K'
  (try simp only [Act.put, List.setIfInBounds_toArray, List.set_cons_zero, List.set_cons_succ])
  refine wpAnyH_take (i := 10) (oi := ?oi10xB) (v := ?v10xB) ?hi10xB (by kernel_rfl) (by kernel_rfl) (by kernel_rfl) ?hq10xB (Or.inl ⟨?hw10xB, ?hy10xB⟩) (by assumption) ?rest10xB
  case hi10xB => simp only [List.getElem?_toArray, List.getElem?_cons_succ, List.getElem?_cons_zero]; rfl
  case hq10xB => exact fun _ _ _ h => h
  case hw10xB => rfl
  case hy10xB => (intro w hSw; (try dsimp only at hSw); have hs0 := hSw; go_simp; (try (with_reducible rfl)))
  (try simp only [Act.put, List.setIfInBounds_toArray, List.set_cons_zero, List.set_cons_succ])
  refine wpAnyH_take (i := 11) (oi := ?oi11xB) (v := ?v11xB) ?hi11xB (by kernel_rfl) (by kernel_rfl) (by kernel_rfl) ?hq11xB (Or.inl ⟨?hw11xB, ?hy11xB⟩) (by assumption) ?rest11xB
  case hi11xB => simp only [List.getElem?_toArray, List.getElem?_cons_succ, List.getElem?_cons_zero]; rfl
  case hq11xB => exact fun _ _ _ h => h
  case hw11xB => rfl
  case hy11xB => (intro w hSw; (try dsimp only at hSw); have hs0 := hSw; go_simp; (try (with_reducible rfl)))
  (try simp only [Act.put, List.setIfInBounds_toArray, List.set_cons_zero, List.set_cons_succ])
  refine wpAnyH_take (i := 12) (oi := ?oi12xB) (v := ?v12xB) ?hi12xB (by kernel_rfl) (by kernel_rfl) (by kernel_rfl) ?hq12xB (Or.inl ⟨?hw12xB, ?hy12xB⟩) (by assumption) ?rest12xB
  case hi12xB => simp only [List.getElem?_toArray, List.getElem?_cons_succ, List.getElem?_cons_zero]; rfl
  case hq12xB => exact fun _ _ _ h => h
  case hw12xB => rfl
  case hy12xB => (intro w hSw; (try dsimp only at hSw); have hs0 := hSw; go_simp; (try (with_reducible rfl)))
  (try simp only [Act.put, List.setIfInBounds_toArray, List.set_cons_zero, List.set_cons_succ])
  refine wpAnyH_take (i := 13) (oi := ?oi13xB) (v := ?v13xB) ?hi13xB (by kernel_rfl) (by kernel_rfl) (by kernel_rfl) ?hq13xB (Or.inl ⟨?hw13xB, ?hy13xB⟩) (by assumption) ?rest13xB
  case hi13xB => simp only [List.getElem?_toArray, List.getElem?_cons_succ, List.getElem?_cons_zero]; rfl
  case hq13xB => exact fun _ _ _ h => h
  case hw13xB => rfl
  case hy13xB => (intro w hSw; (try dsimp only at hSw); have hs0 := hSw; go_simp; (try (with_reducible rfl)))
  (try simp only [Act.put, List.setIfInBounds_toArray, List.set_cons_zero, List.set_cons_succ])
  refine wpAnyH_take (i := 15) (oi := ?oi15xB) (v := ?v15xB) ?hi15xB (by kernel_rfl) (by kernel_rfl) (by kernel_rfl) ?hq15xB (Or.inl ⟨?hw15xB, ?hy15xB⟩) (by assumption) ?rest15xB
  case hi15xB => simp only [List.getElem?_toArray, List.getElem?_cons_succ, List.getElem?_cons_zero]; rfl
  case hq15xB => exact fun _ _ _ h => h
  case hw15xB => rfl
  case hy15xB => (intro w hSw; (try dsimp only at hSw); have hs0 := hSw; go_simp; (try (with_reducible rfl)))
  (try simp only [Act.put, List.setIfInBounds_toArray, List.set_cons_zero, List.set_cons_succ])
  refine wpAnyH_take (i := 16) (oi := ?oi16xB) (v := ?v16xB) ?hi16xB (by kernel_rfl) (by kernel_rfl) (by kernel_rfl) ?hq16xB (Or.inl ⟨?hw16xB, ?hy16xB⟩) (by assumption) ?rest16xB
  case hi16xB => simp only [List.getElem?_toArray, List.getElem?_cons_succ, List.getElem?_cons_zero]; rfl
  case hq16xB => exact fun _ _ _ h => h
  case hw16xB => rfl
  case hy16xB => (intro w hSw; (try dsimp only at hSw); have hs0 := hSw; go_simp; (try (with_reducible rfl)))
  (try simp only [Act.put, List.setIfInBounds_toArray, List.set_cons_zero, List.set_cons_succ])
  refine wpAnyH_take (i := 17) (oi := ?oi17xB) (v := ?v17xB) ?hi17xB (by kernel_rfl) (by kernel_rfl) (by kernel_rfl) ?hq17xB (Or.inl ⟨?hw17xB, ?hy17xB⟩) (by assumption) ?rest17xB
  case hi17xB => simp only [List.getElem?_toArray, List.getElem?_cons_succ, List.getElem?_cons_zero]; rfl
  case hq17xB => exact fun _ _ _ h => h
  case hw17xB => rfl
  case hy17xB => (intro w hSw; (try dsimp only at hSw); have hs0 := hSw; go_simp; (try (with_reducible rfl)))
  (try simp only [Act.put, List.setIfInBounds_toArray, List.set_cons_zero, List.set_cons_succ])
  refine wpAnyH_take (i := 18) (oi := ?oi18xB) (v := ?v18xB) ?hi18xB (by kernel_rfl) (by kernel_rfl) (by kernel_rfl) ?hq18xB (Or.inl ⟨?hw18xB, ?hy18xB⟩) (by assumption) ?rest18xB
  case hi18xB => simp only [List.getElem?_toArray, List.getElem?_cons_succ, List.getElem?_cons_zero]; rfl
  case hq18xB => exact fun _ _ _ h => h
  case hw18xB => rfl
  case hy18xB => (intro w hSw; (try dsimp only at hSw); have hs0 := hSw; go_simp; (try (with_reducible rfl)))
  (try simp only [Act.put, List.setIfInBounds_toArray, List.set_cons_zero, List.set_cons_succ])
  refine wpAnyH_ready (rs := [14]) (by kernel_rfl) (by simp) ?_
  refine AllReadyH.cons (o := ?or14) ?hir14 (fun K' hK' => ?_) AllReadyH.nil
  case hir14 => simp only [List.getElem?_toArray, List.getElem?_cons_succ, List.getElem?_cons_zero]; rfl
  go_simp
  (go_at_call 35; (with_reducible refine N12.out.mono ?_); rintro e w14 ⟨rfl, rfl⟩)
  (try go_wp2_with fail)
  refine hK'.out _ _ S12.out (fun hHeld => ?_)
  clear hK' K'
  (try simp only [Act.put, List.setIfInBounds_toArray, List.set_cons_zero, List.set_cons_succ])
  refine wpAnyH_take (i := 19) (oi := ?oi19xB) (v := ?v19xB) ?hi19xB (by kernel_rfl) (by kernel_rfl) (by kernel_rfl) ?hq19xB (Or.inl ⟨?hw19xB, ?hy19xB⟩) (by assumption) ?rest19xB
  case hi19xB => simp only [List.getElem?_toArray, List.getElem?_cons_succ, List.getElem?_cons_zero]; rfl
  case hq19xB => exact fun _ _ _ h => h
  case hw19xB => rfl
  case hy19xB => (intro w hSw; (try dsimp only at hSw); have hs0 := hSw; go_simp; (try (with_reducible rfl)))
  (try simp only [Act.put, List.setIfInBounds_toArray, List.set_cons_zero, List.set_cons_succ])
  refine wpAnyH_take (i := 20) (oi := ?oi20xB) (v := ?v20xB) ?hi20xB (by kernel_rfl) (by kernel_rfl) (by kernel_rfl) ?hq20xB (Or.inl ⟨?hw20xB, ?hy20xB⟩) (by assumption) ?rest20xB
  case hi20xB => simp only [List.getElem?_toArray, List.getElem?_cons_succ, List.getElem?_cons_zero]; rfl
  case hq20xB => exact fun _ _ _ h => h
  case hw20xB => rfl
  case hy20xB => (intro w hSw; (try dsimp only at hSw); have hs0 := hSw; go_simp; (try (with_reducible rfl)))
  (try simp only [Act.put, List.setIfInBounds_toArray, List.set_cons_zero, List.set_cons_succ])
  refine wpAnyH_take (i := 21) (oi := ?oi21xB) (v := ?v21xB) ?hi21xB (by kernel_rfl) (by kernel_rfl) (by kernel_rfl) ?hq21xB (Or.inl ⟨?hw21xB, ?hy21xB⟩) (by assumption) ?rest21xB
  case hi21xB => simp only [List.getElem?_toArray, List.getElem?_cons_succ, List.getElem?_cons_zero]; rfl
  case hq21xB => exact fun _ _ _ h => h
  case hw21xB => rfl
  case hy21xB => (intro w hSw; (try dsimp only at hSw); have hs0 := hSw; go_simp; (try (with_reducible rfl)))
  (try simp only [Act.put, List.setIfInBounds_toArray, List.set_cons_zero, List.set_cons_succ])
  refine wpAnyH_take (i := 22) (oi := ?oi22xB) (v := ?v22xB) ?hi22xB (by kernel_rfl) (by kernel_rfl) (by kernel_rfl) ?hq22xB (Or.inl ⟨?hw22xB, ?hy22xB⟩) (by assumption) ?rest22xB
  case hi22xB => simp only [List.getElem?_toArray, List.getElem?_cons_succ, List.getElem?_cons_zero]; rfl
  case hq22xB => exact fun _ _ _ h => h
  case hw22xB => rfl
  case hy22xB => (intro w hSw; (try dsimp only at hSw); have hs0 := hSw; go_simp; (try (with_reducible rfl)))
  (try simp only [Act.put, List.setIfInBounds_toArray, List.set_cons_zero, List.set_cons_succ])
  refine wpAnyH_take (i := 23) (oi := ?oi23xB) (v := ?v23xB) ?hi23xB (by kernel_rfl) (by kernel_rfl) (by kernel_rfl) ?hq23xB (Or.inl ⟨?hw23xB, ?hy23xB⟩) (by assumption) ?rest23xB
  case hi23xB => simp only [List.getElem?_toArray, List.getElem?_cons_succ, List.getElem?_cons_zero]; rfl
  case hq23xB => exact fun _ _ _ h => h
  case hw23xB => rfl
  case hy23xB => (intro w hSw; (try dsimp only at hSw); have hs0 := hSw; go_simp; (try (with_reducible rfl)))
  (try simp only [Act.put, List.setIfInBounds_toArray, List.set_cons_zero, List.set_cons_succ])
  refine wpAnyH_take (i := 24) (oi := ?oi24xB) (v := ?v24xB) ?hi24xB (by kernel_rfl) (by kernel_rfl) (by kernel_rfl) ?hq24xB (Or.inl ⟨?hw24xB, ?hy24xB⟩) (by assumption) ?rest24xB
  case hi24xB => simp only [List.getElem?_toArray, List.getElem?_cons_succ, List.getElem?_cons_zero]; rfl
  case hq24xB => exact fun _ _ _ h => h
  case hw24xB => rfl
  case hy24xB => (intro w hSw; (try dsimp only at hSw); have hs0 := hSw; go_simp; (try (with_reducible rfl)))
  (try simp only [Act.put, List.setIfInBounds_toArray, List.set_cons_zero, List.set_cons_succ])
  refine wpAnyH_take (i := 25) (oi := ?oi25xB) (v := ?v25xB) ?hi25xB (by kernel_rfl) (by kernel_rfl) (by kernel_rfl) ?hq25xB (Or.inl ⟨?hw25xB, ?hy25xB⟩) (by assumption) ?rest25xB
  case hi25xB => simp only [List.getElem?_toArray, List.getElem?_cons_succ, List.getElem?_cons_zero]; rfl
  case hq25xB => exact fun _ _ _ h => h
  case hw25xB => rfl
  case hy25xB => (intro w hSw; (try dsimp only at hSw); have hs0 := hSw; go_simp; (try (with_reducible rfl)))
  (try simp only [Act.put, List.setIfInBounds_toArray, List.set_cons_zero, List.set_cons_succ])
  refine wpAnyH_take (i := 26) (oi := ?oi26xB) (v := ?v26xB) ?hi26xB (by kernel_rfl) (by kernel_rfl) (by kernel_rfl) ?hq26xB (Or.inl ⟨?hw26xB, ?hy26xB⟩) (by assumption) ?rest26xB
  case hi26xB => simp only [List.getElem?_toArray, List.getElem?_cons_succ, List.getElem?_cons_zero]; rfl
  case hq26xB => exact fun _ _ _ h => h
  case hw26xB => rfl
  case hy26xB => (intro w hSw; (try dsimp only at hSw); have hs0 := hSw; go_simp; (try (with_reducible rfl)))
  (try simp only [Act.put, List.setIfInBounds_toArray, List.set_cons_zero, List.set_cons_succ])
  refine wpAnyH_take (i := 27) (oi := ?oi27xB) (v := ?v27xB) ?hi27xB (by kernel_rfl) (by kernel_rfl) (by kernel_rfl) ?hq27xB (Or.inl ⟨?hw27xB, ?hy27xB⟩) (by assumption) ?rest27xB
  case hi27xB => simp only [List.getElem?_toArray, List.getElem?_cons_succ, List.getElem?_cons_zero]; rfl
  case hq27xB => exact fun _ _ _ h => h
  case hw27xB => rfl
  case hy27xB => (intro w hSw; (try dsimp only at hSw); have hs0 := hSw; go_simp; (try (with_reducible rfl)))
  (try simp only [Act.put, List.setIfInBounds_toArray, List.set_cons_zero, List.set_cons_succ])
  refine wpAnyH_take (i := 28) (oi := ?oi28xB) (v := ?v28xB) ?hi28xB (by kernel_rfl) (by kernel_rfl) (by kernel_rfl) ?hq28xB (Or.inl ⟨?hw28xB, ?hy28xB⟩) (by assumption) ?rest28xB
  case hi28xB => simp only [List.getElem?_toArray, List.getElem?_cons_succ, List.getElem?_cons_zero]; rfl
  case hq28xB => exact fun _ _ _ h => h
  case hw28xB => rfl
  case hy28xB => (intro w hSw; (try dsimp only at hSw); have hs0 := hSw; go_simp; (try (with_reducible rfl)))
  (try simp only [Act.put, List.setIfInBounds_toArray, List.set_cons_zero, List.set_cons_succ])
  refine wpAnyH_take (i := 29) (oi := ?oi29xB) (v := ?v29xB) ?hi29xB (by kernel_rfl) (by kernel_rfl) (by kernel_rfl) ?hq29xB (Or.inl ⟨?hw29xB, ?hy29xB⟩) (by assumption) ?rest29xB
  case hi29xB => simp only [List.getElem?_toArray, List.getElem?_cons_succ, List.getElem?_cons_zero]; rfl
  case hq29xB => exact fun _ _ _ h => h
  case hw29xB => rfl
  case hy29xB => (intro w hSw; (try dsimp only at hSw); have hs0 := hSw; go_simp; (try (with_reducible rfl)))
  (try simp only [Act.put, List.setIfInBounds_toArray, List.set_cons_zero, List.set_cons_succ])
  refine wpAnyH_take (i := 30) (oi := ?oi30xB) (v := undef) ?hi30xB (by kernel_rfl) (by kernel_rfl) (by kernel_rfl) ?hq30xB (Or.inr ⟨?hw30xB, rfl⟩) (by assumption) ?rest30xB
  case hi30xB => simp only [List.getElem?_toArray, List.getElem?_cons_succ, List.getElem?_cons_zero]; rfl
  case hq30xB => exact fun _ _ _ h => h
  case hw30xB => rfl
  (try simp only [Act.put, List.setIfInBounds_toArray, List.set_cons_zero, List.set_cons_succ])
  refine wpAnyH_take (i := 31) (oi := ?oi31xB) (v := undef) ?hi31xB (by kernel_rfl) (by kernel_rfl) (by kernel_rfl) ?hq31xB (Or.inr ⟨?hw31xB, rfl⟩) (by assumption) ?rest31xB
  case hi31xB => simp only [List.getElem?_toArray, List.getElem?_cons_succ, List.getElem?_cons_zero]; rfl
  case hq31xB => exact fun _ _ _ h => h
  case hw31xB => rfl
  (try simp only [Act.put, List.setIfInBounds_toArray, List.set_cons_zero, List.set_cons_succ])
  refine wpAnyH_take (i := 32) (oi := ?oi32xB) (v := undef) ?hi32xB (by kernel_rfl) (by kernel_rfl) (by kernel_rfl) ?hq32xB (Or.inr ⟨?hw32xB, rfl⟩) (by assumption) ?rest32xB
  case hi32xB => simp only [List.getElem?_toArray, List.getElem?_cons_succ, List.getElem?_cons_zero]; rfl
  case hq32xB => exact fun _ _ _ h => h
  case hw32xB => rfl
  (try simp only [Act.put, List.setIfInBounds_toArray, List.set_cons_zero, List.set_cons_succ])
  refine wpAnyH_take (i := 33) (oi := ?oi33xB) (v := undef) ?hi33xB (by kernel_rfl) (by kernel_rfl) (by kernel_rfl) ?hq33xB (Or.inr ⟨?hw33xB, rfl⟩) (by assumption) ?rest33xB
  case hi33xB => simp only [List.getElem?_toArray, List.getElem?_cons_succ, List.getElem?_cons_zero]; rfl
  case hq33xB => exact fun _ _ _ h => h
  case hw33xB => rfl
  (try simp only [Act.put, List.setIfInBounds_toArray, List.set_cons_zero, List.set_cons_succ])
  refine wpAnyH_take (i := 34) (oi := ?oi34xB) (v := undef) ?hi34xB (by kernel_rfl) (by kernel_rfl) (by kernel_rfl) ?hq34xB (Or.inr ⟨?hw34xB, rfl⟩) (by assumption) ?rest34xB
  case hi34xB => simp only [List.getElem?_toArray, List.getElem?_cons_succ, List.getElem?_cons_zero]; rfl
  case hq34xB => exact fun _ _ _ h => h
  case hw34xB => rfl
  (try simp only [Act.put, List.setIfInBounds_toArray, List.set_cons_zero, List.set_cons_succ])
  refine wpAnyH_take (i := 35) (oi := ?oi35xB) (v := undef) ?hi35xB (by kernel_rfl) (by kernel_rfl) (by kernel_rfl) ?hq35xB (Or.inr ⟨?hw35xB, rfl⟩) (by assumption) ?rest35xB
  case hi35xB => simp only [List.getElem?_toArray, List.getElem?_cons_succ, List.getElem?_cons_zero]; rfl
  case hq35xB => exact fun _ _ _ h => h
  case hw35xB => rfl
  (try simp only [Act.put, List.setIfInBounds_toArray, List.set_cons_zero, List.set_cons_succ])
  refine wpAnyH_take (i := 36) (oi := ?oi36xB) (v := undef) ?hi36xB (by kernel_rfl) (by kernel_rfl) (by kernel_rfl) ?hq36xB (Or.inr ⟨?hw36xB, rfl⟩) (by assumption) ?rest36xB
  case hi36xB => simp only [List.getElem?_toArray, List.getElem?_cons_succ, List.getElem?_cons_zero]; rfl
  case hq36xB => exact fun _ _ _ h => h
  case hw36xB => rfl
  (try simp only [Act.put, List.setIfInBounds_toArray, List.set_cons_zero, List.set_cons_succ])
  refine wpAnyH_take (i := 37) (oi := ?oi37xB) (v := undef) ?hi37xB (by kernel_rfl) (by kernel_rfl) (by kernel_rfl) ?hq37xB (Or.inr ⟨?hw37xB, rfl⟩) (by assumption) ?rest37xB
  case hi37xB => simp only [List.getElem?_toArray, List.getElem?_cons_succ, List.getElem?_cons_zero]; rfl
  case hq37xB => exact fun _ _ _ h => h
  case hw37xB => rfl
  (try simp only [Act.put, List.setIfInBounds_toArray, List.set_cons_zero, List.set_cons_succ])
  refine wpAnyH_take (i := 38) (oi := ?oi38xB) (v := undef) ?hi38xB (by kernel_rfl) (by kernel_rfl) (by kernel_rfl) ?hq38xB (Or.inr ⟨?hw38xB, rfl⟩) (by assumption) ?rest38xB
  case hi38xB => simp only [List.getElem?_toArray, List.getElem?_cons_succ, List.getElem?_cons_zero]; rfl
  case hq38xB => exact fun _ _ _ h => h
  case hw38xB => rfl
  (try simp only [Act.put, List.setIfInBounds_toArray, List.set_cons_zero, List.set_cons_succ])
  refine wpAnyH_take (i := 39) (oi := ?oi39xB) (v := undef) ?hi39xB (by kernel_rfl) (by kernel_rfl) (by kernel_rfl) ?hq39xB (Or.inr ⟨?hw39xB, rfl⟩) (by assumption) ?rest39xB
  case hi39xB => simp only [List.getElem?_toArray, List.getElem?_cons_succ, List.getElem?_cons_zero]; rfl
  case hq39xB => exact fun _ _ _ h => h
  case hw39xB => rfl
  (try simp only [Act.put, List.setIfInBounds_toArray, List.set_cons_zero, List.set_cons_succ])
  refine wpAnyH_take (i := 40) (oi := ?oi40xB) (v := ?v40xB) ?hi40xB (by kernel_rfl) (by kernel_rfl) (by kernel_rfl) ?hq40xB (Or.inl ⟨?hw40xB, ?hy40xB⟩) (by assumption) ?rest40xB
  case hi40xB => simp only [List.getElem?_toArray, List.getElem?_cons_succ, List.getElem?_cons_zero]; rfl
  case hq40xB => exact fun _ _ _ h => h
  case hw40xB => rfl
  case hy40xB => (intro w hSw; (try dsimp only at hSw); have hs0 := hSw; go_simp; (try (with_reducible rfl)))
  (try simp only [Act.put, List.setIfInBounds_toArray, List.set_cons_zero, List.set_cons_succ])
  refine wpAnyH_take (i := 41) (oi := ?oi41xB) (v := ?v41xB) ?hi41xB (by kernel_rfl) (by kernel_rfl) (by kernel_rfl) ?hq41xB (Or.inl ⟨?hw41xB, ?hy41xB⟩) (by assumption) ?rest41xB
  case hi41xB => simp only [List.getElem?_toArray, List.getElem?_cons_succ, List.getElem?_cons_zero]; rfl
  case hq41xB => exact fun _ _ _ h => h
  case hw41xB => rfl
  case hy41xB => (intro w hSw; (try dsimp only at hSw); have hs0 := hSw; go_simp; (try (with_reducible rfl)))
  (try simp only [Act.put, List.setIfInBounds_toArray, List.set_cons_zero, List.set_cons_succ])
  refine wpAnyH_take (i := 42) (oi := ?oi42xB) (v := ?v42xB) ?hi42xB (by kernel_rfl) (by kernel_rfl) (by kernel_rfl) ?hq42xB (Or.inl ⟨?hw42xB, ?hy42xB⟩) (by assumption) ?rest42xB
  case hi42xB => simp only [List.getElem?_toArray, List.getElem?_cons_succ, List.getElem?_cons_zero]; rfl
  case hq42xB => exact fun _ _ _ h => h
  case hw42xB => rfl
  case hy42xB => (intro w hSw; (try dsimp only at hSw); have hs0 := hSw; go_simp; (try (with_reducible rfl)))
  (try simp only [Act.put, List.setIfInBounds_toArray, List.set_cons_zero, List.set_cons_succ])
  refine wpAnyH_take (i := 43) (oi := ?oi43xB) (v := ?v43xB) ?hi43xB (by kernel_rfl) (by kernel_rfl) (by kernel_rfl) ?hq43xB (Or.inl ⟨?hw43xB, ?hy43xB⟩) (by assumption) ?rest43xB
  case hi43xB => simp only [List.getElem?_toArray, List.getElem?_cons_succ, List.getElem?_cons_zero]; rfl
  case hq43xB => exact fun _ _ _ h => h
  case hw43xB => rfl
  case hy43xB => (intro w hSw; (try dsimp only at hSw); have hs0 := hSw; go_simp; (try (with_reducible rfl)))
  (try simp only [Act.put, List.setIfInBounds_toArray, List.set_cons_zero, List.set_cons_succ])
  refine wpAnyH_take (i := 44) (oi := ?oi44xB) (v := ?v44xB) ?hi44xB (by kernel_rfl) (by kernel_rfl) (by kernel_rfl) ?hq44xB (Or.inl ⟨?hw44xB, ?hy44xB⟩) (by assumption) ?rest44xB
  case hi44xB => simp only [List.getElem?_toArray, List.getElem?_cons_succ, List.getElem?_cons_zero]; rfl
  case hq44xB => exact fun _ _ _ h => h
  case hw44xB => rfl
  case hy44xB => (intro w hSw; (try dsimp only at hSw); have hs0 := hSw; go_simp; (try (with_reducible rfl)))
  (try simp only [Act.put, List.setIfInBounds_toArray, List.set_cons_zero, List.set_cons_succ])
  refine wpAnyH_take (i := 45) (oi := ?oi45xB) (v := ?v45xB) ?hi45xB (by kernel_rfl) (by kernel_rfl) (by kernel_rfl) ?hq45xB (Or.inl ⟨?hw45xB, ?hy45xB⟩) (by assumption) ?rest45xB
  case hi45xB => simp only [List.getElem?_toArray, List.getElem?_cons_succ, List.getElem?_cons_zero]; rfl
  case hq45xB => exact fun _ _ _ h => h
  case hw45xB => rfl
  case hy45xB => (intro w hSw; (try dsimp only at hSw); have hs0 := hSw; go_simp; (try (with_reducible rfl)))
  (try simp only [Act.put, List.setIfInBounds_toArray, List.set_cons_zero, List.set_cons_succ])
  refine wpAnyH_take (i := 46) (oi := ?oi46xB) (v := ?v46xB) ?hi46xB (by kernel_rfl) (by kernel_rfl) (by kernel_rfl) ?hq46xB (Or.inl ⟨?hw46xB, ?hy46xB⟩) (by assumption) ?rest46xB
  case hi46xB => simp only [List.getElem?_toArray, List.getElem?_cons_succ, List.getElem?_cons_zero]; rfl
  case hq46xB => exact fun _ _ _ h => h
  case hw46xB => rfl
  case hy46xB => (intro w hSw; (try dsimp only at hSw); have hs0 := hSw; go_simp; (try (with_reducible rfl)))
  (try simp only [Act.put, List.setIfInBounds_toArray, List.set_cons_zero, List.set_cons_succ])
  refine wpAnyH_take (i := 47) (oi := ?oi47xB) (v := ?v47xB) ?hi47xB (by kernel_rfl) (by kernel_rfl) (by kernel_rfl) ?hq47xB (Or.inl ⟨?hw47xB, ?hy47xB⟩) (by assumption) ?rest47xB
  case hi47xB => simp only [List.getElem?_toArray, List.getElem?_cons_succ, List.getElem?_cons_zero]; rfl
  case hq47xB => exact fun _ _ _ h => h
  case hw47xB => rfl
  case hy47xB => (intro w hSw; (try dsimp only at hSw); have hs0 := hSw; go_simp; (try (with_reducible rfl)))
  (try simp only [Act.put, List.setIfInBounds_toArray, List.set_cons_zero, List.set_cons_succ])
  refine wpAnyH_take (i := 48) (oi := ?oi48xB) (v := ?v48xB) ?hi48xB (by kernel_rfl) (by kernel_rfl) (by kernel_rfl) ?hq48xB (Or.inl ⟨?hw48xB, ?hy48xB⟩) (by assumption) ?rest48xB
  case hi48xB => simp only [List.getElem?_toArray, List.getElem?_cons_succ, List.getElem?_cons_zero]; rfl
  case hq48xB => exact fun _ _ _ h => h
  case hw48xB => rfl
  case hy48xB => (intro w hSw; (try dsimp only at hSw); have hs0 := hSw; go_simp; (try (with_reducible rfl)))
  (try simp only [Act.put, List.setIfInBounds_toArray, List.set_cons_zero, List.set_cons_succ])
  refine wpAnyH_take (i := 49) (oi := ?oi49xB) (v := ?v49xB) ?hi49xB (by kernel_rfl) (by kernel_rfl) (by kernel_rfl) ?hq49xB (Or.inl ⟨?hw49xB, ?hy49xB⟩) (by assumption) ?rest49xB
  case hi49xB => simp only [List.getElem?_toArray, List.getElem?_cons_succ, List.getElem?_cons_zero]; rfl
  case hq49xB => exact fun _ _ _ h => h
  case hw49xB => rfl
  case hy49xB => (intro w hSw; (try dsimp only at hSw); have hs0 := hSw; go_simp; (try (with_reducible rfl)))
  (try simp only [Act.put, List.setIfInBounds_toArray, List.set_cons_zero, List.set_cons_succ])
  refine wpAnyH_take (i := 50) (oi := ?oi50xB) (v := ?v50xB) ?hi50xB (by kernel_rfl) (by kernel_rfl) (by kernel_rfl) ?hq50xB (Or.inl ⟨?hw50xB, ?hy50xB⟩) (by assumption) ?rest50xB
  case hi50xB => simp only [List.getElem?_toArray, List.getElem?_cons_succ, List.getElem?_cons_zero]; rfl
  case hq50xB => exact fun _ _ _ h => h
  case hw50xB => rfl
  case hy50xB => (intro w hSw; (try dsimp only at hSw); have hs0 := hSw; go_simp; (try (with_reducible rfl)))
  (try simp only [Act.put, List.setIfInBounds_toArray, List.set_cons_zero, List.set_cons_succ])
  refine wpAnyH_take (i := 51) (oi := ?oi51xB) (v := ?v51xB) ?hi51xB (by kernel_rfl) (by kernel_rfl) (by kernel_rfl) ?hq51xB (Or.inl ⟨?hw51xB, ?hy51xB⟩) (by assumption) ?rest51xB
  case hi51xB => simp only [List.getElem?_toArray, List.getElem?_cons_succ, List.getElem?_cons_zero]; rfl
  case hq51xB => exact fun _ _ _ h => h
  case hw51xB => rfl
  case hy51xB => (intro w hSw; (try dsimp only at hSw); have hs0 := hSw; go_simp; (try (with_reducible rfl)))
  (try simp only [Act.put, List.setIfInBounds_toArray, List.set_cons_zero, List.set_cons_succ])
  refine wpAnyH_take (i := 52) (oi := ?oi52xB) (v := ?v52xB) ?hi52xB (by kernel_rfl) (by kernel_rfl) (by kernel_rfl) ?hq52xB (Or.inl ⟨?hw52xB, ?hy52xB⟩) (by assumption) ?rest52xB
  case hi52xB => simp only [List.getElem?_toArray, List.getElem?_cons_succ, List.getElem?_cons_zero]; rfl
  case hq52xB => exact fun _ _ _ h => h
  case hw52xB => rfl
  case hy52xB => (intro w hSw; (try dsimp only at hSw); have hs0 := hSw; go_simp; (try (with_reducible rfl)))
  (try simp only [Act.put, List.setIfInBounds_toArray, List.set_cons_zero, List.set_cons_succ])
  refine wpAnyH_take (i := 53) (oi := ?oi53xB) (v := ?v53xB) ?hi53xB (by kernel_rfl) (by kernel_rfl) (by kernel_rfl) ?hq53xB (Or.inl ⟨?hw53xB, ?hy53xB⟩) (by assumption) ?rest53xB
  case hi53xB => simp only [List.getElem?_toArray, List.getElem?_cons_succ, List.getElem?_cons_zero]; rfl
  case hq53xB => exact fun _ _ _ h => h
  case hw53xB => rfl
  case hy53xB => (intro w hSw; (try dsimp only at hSw); have hs0 := hSw; go_simp; (try (with_reducible rfl)))
  (try simp only [Act.put, List.setIfInBounds_toArray, List.set_cons_zero, List.set_cons_succ])
  refine wpAnyH_take (i := 54) (oi := ?oi54xB) (v := ?v54xB) ?hi54xB (by kernel_rfl) (by kernel_rfl) (by kernel_rfl) ?hq54xB (Or.inl ⟨?hw54xB, ?hy54xB⟩) (by assumption) ?rest54xB
  case hi54xB => simp only [List.getElem?_toArray, List.getElem?_cons_succ, List.getElem?_cons_zero]; rfl
  case hq54xB => exact fun _ _ _ h => h
  case hw54xB => rfl
  case hy54xB => (intro w hSw; (try dsimp only at hSw); have hs0 := hSw; go_simp; (try (with_reducible rfl)))
  (try simp only [Act.put, List.setIfInBounds_toArray, List.set_cons_zero, List.set_cons_succ])
  refine wpAnyH_take (i := 55) (oi := ?oi55xB) (v := ?v55xB) ?hi55xB (by kernel_rfl) (by kernel_rfl) (by kernel_rfl) ?hq55xB (Or.inl ⟨?hw55xB, ?hy55xB⟩) (by assumption) ?rest55xB
  case hi55xB => simp only [List.getElem?_toArray, List.getElem?_cons_succ, List.getElem?_cons_zero]; rfl
  case hq55xB => exact fun _ _ _ h => h
  case hw55xB => rfl
  case hy55xB => (intro w hSw; (try dsimp only at hSw); have hs0 := hSw; go_simp; (try (with_reducible rfl)))
  (try simp only [Act.put, List.setIfInBounds_toArray, List.set_cons_zero, List.set_cons_succ])
  refine wpAnyH_take (i := 56) (oi := ?oi56xB) (v := ?v56xB) ?hi56xB (by kernel_rfl) (by kernel_rfl) (by kernel_rfl) ?hq56xB (Or.inl ⟨?hw56xB, ?hy56xB⟩) (by assumption) ?rest56xB
  case hi56xB => simp only [List.getElem?_toArray, List.getElem?_cons_succ, List.getElem?_cons_zero]; rfl
  case hq56xB => exact fun _ _ _ h => h
  case hw56xB => rfl
  case hy56xB => (intro w hSw; (try dsimp only at hSw); have hs0 := hSw; go_simp; (try (with_reducible rfl)))
  (try simp only [Act.put, List.setIfInBounds_toArray, List.set_cons_zero, List.set_cons_succ])
  refine wpAnyH_done (by kernel_rfl) (NoPanic.normal ?_) _
  exact HD.out _ T12.out _ _ _ _ _ _ _ _ _ _ _ _ _ _ _ _ _ _ _ _ _ _ _ _ _ _ _ _ _ _ _ _ _ _ _ _ _ _ _ _ _ _ _ _ _ _ _ _ _ _ _ _ _ _ _ _
end Go.Proofs.Ytcbphfpfdfgehaa
