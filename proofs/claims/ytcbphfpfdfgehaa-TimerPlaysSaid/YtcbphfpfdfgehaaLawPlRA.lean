/-
  TimerPlays: the comparison of all that both show, case A. No conditions but what the walk lays.
-/
import Derived.Test.YtcbphfpfdfgehaaLawPlR
import Derived.Deep.RegionHeld3
import Derived.Deep.DeepCutAuto
namespace Go.Proofs.Ytcbphfpfdfgehaa
open Go.ChangeShapes Go.WideShapes Go.ChangeAt Go.RowKit

set_option linter.unusedVariables false
set_option maxRecDepth 100000 in
set_option maxHeartbeats 60000000 in
theorem pl36A {w wy w10 : World} {c x ob : Nat} {most na kind key n : Int} {L : List En} {pu : Option Addr} {cu : Nat} (m g o cap6 i : Nat) (ed : Int) (Q : Exit → Act → World → Prop)
    (u0 u1 u2 u3 u4 u7 u8 u9 u10 u11 u12 u13 u14 u15 u16 u17 u18 u20 u21 u25 u26 u28 u29 u30 u31 u32 u33 u34 u35 u36 u37 u38 u39 u40 u41 u42 u43 u44 u45 u46 u47 u48 u49 u50 u51 u52 u53 u54 u55 u56 u57 u58 u59 u60 u61 u62 u63 u64 u65 u66 u67 u68 u69 u70 u71 u72 u73 u74 u75 u76 u77 u78 u79 u80 u81 u82 u83 u84 u85 u86 u87 u88 u89 u90 u91 u92 u93 u94 u95 u96 u97 u98 u99 u100 u101 u102 u103 u104 u105 u106 u107 u108 u109 u110 u111 u112 u113 u114 u115 u116 u117 u118 u119 u120 u121 u122 u123 u124 u125 u126 u127 u128 u129 u130 u131 u132 u133 u134 u135 u136 u137 u138 u139 u140 u141 u142 u143 u144 u145 u146 u147 u148 u149 u150 u151 u152 u153 u154 u155 u156 u157 u158 u159 u160 u161 u162 u163 u164 u165 u166 u167 u168 u169 u170 u171 u172 u173 u174 u175 u176 u177 u178 u179 u180 u181 u182 u183 u184 u185 u186 u187 u188 u189 u190 u191 u192 u193 u194 u195 u196 u197 u198 u199 u200 u201 u202 u203 u204 u205 u206 u207 u208 u209 u210 u211 u212 u213 u214 u215 u216 u217 u218 u219 u220 u221 u222 u223 u224 u225 u226 u227 u228 u229 u230 u231 u232 u233 u234 u235 u236 u237 u238 u239 u240 u241 u242 u243 u244 u245 u246 u247 u248 u249 u250 u251 u252 u253 u254 u255 u256 u257 u258 u259 u260 u261 u262 u263 u264 u265 u266 u267 u268 : Value)
    (HC3 : Hid (PB w w10.drew c x most na L na L ob kind key n NoBlock))
    (HNK : Hid (Nums (.slice pu m cu) (keysOf L) wy))
    (T10 : Hid (Turn NoBlock wy w10))
    (KS : Hid (∀ W : World, Turn NoBlock wy W → W.cell? ⟨x, 2, none⟩ = some (.int .i64 na) ∧ W.cell? ⟨x, 0, none⟩ = some (.slice (some ⟨g, o, none⟩) m cap6) ∧ W.cell? ⟨g, o + i * 2, none⟩ = some (.int .i64 ed)))
    (HLE : Hid ((keysOf L).length ≤ 1000000000)) (HLM : Hid (L.length = m))
    (him : (i : Int) < (m : Int)) (him0 : (0 : Int) < (m : Int)) (him1 : 0 < m) (hi0 : (0 : Int) ≤ (i : Int))
    (HD : Hid (∀ w' : World, Turn NoBlock wy w' → ∀ y175 y176 y177 y178 y179 y180 y181 y182 y183 y184 y185 y186 y187 y188 y189 y190 y191 y192 y193 y194 y195 y196 y197 y198 y199 y200 y201 y202 y203 y204 y205 y206 y207 y208 y209 y210 y211 y212 y213 y214 y215 y216 y217 y218 y219 y220 y221 y222 y223 y224 y225 y226 y227 y228 y229 y230 : Value, Q Exit.normal ⟨(u0 :: u1 :: u2 :: u3 :: u4 :: .pointer (some ⟨c, 0, none⟩) :: .pointer (some ⟨x, 0, none⟩) :: u7 :: u8 :: u9 :: u10 :: u11 :: u12 :: u13 :: u14 :: u15 :: u16 :: u17 :: u18 :: .slice pu m cu :: u20 :: u21 :: .int .i64 (i : Int) :: .int .i64 ed :: .bool true :: u25 :: u26 :: .bool true :: u28 :: u29 :: u30 :: u31 :: u32 :: u33 :: u34 :: u35 :: u36 :: u37 :: u38 :: u39 :: u40 :: u41 :: u42 :: u43 :: u44 :: u45 :: u46 :: u47 :: u48 :: u49 :: u50 :: u51 :: u52 :: u53 :: u54 :: u55 :: u56 :: u57 :: u58 :: u59 :: u60 :: u61 :: u62 :: u63 :: u64 :: u65 :: u66 :: u67 :: u68 :: u69 :: u70 :: u71 :: u72 :: u73 :: u74 :: u75 :: u76 :: u77 :: u78 :: u79 :: u80 :: u81 :: u82 :: u83 :: u84 :: u85 :: u86 :: u87 :: u88 :: u89 :: u90 :: u91 :: u92 :: u93 :: u94 :: u95 :: u96 :: u97 :: u98 :: u99 :: u100 :: u101 :: u102 :: u103 :: u104 :: u105 :: u106 :: u107 :: u108 :: u109 :: u110 :: u111 :: u112 :: u113 :: u114 :: u115 :: u116 :: u117 :: u118 :: u119 :: u120 :: u121 :: u122 :: u123 :: u124 :: u125 :: u126 :: u127 :: u128 :: u129 :: u130 :: u131 :: u132 :: u133 :: u134 :: u135 :: u136 :: u137 :: u138 :: u139 :: u140 :: u141 :: u142 :: u143 :: u144 :: u145 :: u146 :: u147 :: u148 :: u149 :: u150 :: u151 :: u152 :: u153 :: u154 :: u155 :: u156 :: u157 :: u158 :: u159 :: u160 :: u161 :: u162 :: u163 :: u164 :: u165 :: u166 :: u167 :: u168 :: u169 :: u170 :: u171 :: u172 :: u173 :: u174 :: y175 :: y176 :: y177 :: y178 :: y179 :: y180 :: y181 :: y182 :: y183 :: y184 :: y185 :: y186 :: y187 :: y188 :: y189 :: y190 :: y191 :: y192 :: y193 :: y194 :: y195 :: y196 :: y197 :: y198 :: y199 :: y200 :: y201 :: y202 :: y203 :: y204 :: y205 :: y206 :: y207 :: y208 :: y209 :: y210 :: y211 :: y212 :: y213 :: y214 :: y215 :: y216 :: y217 :: y218 :: y219 :: y220 :: y221 :: y222 :: y223 :: y224 :: y225 :: y226 :: y227 :: y228 :: y229 :: y230 :: .bool false :: u232 :: u233 :: u234 :: u235 :: u236 :: u237 :: u238 :: u239 :: u240 :: u241 :: u242 :: u243 :: u244 :: u245 :: u246 :: u247 :: u248 :: u249 :: u250 :: u251 :: u252 :: u253 :: u254 :: u255 :: u256 :: u257 :: u258 :: u259 :: u260 :: u261 :: u262 :: u263 :: u264 :: u265 :: u266 :: u267 :: u268 :: [] : List Value).toArray, []⟩ w')) :
    Code.wp Try.prog (regP 36) Q ⟨(u0 :: u1 :: u2 :: u3 :: u4 :: .pointer (some ⟨c, 0, none⟩) :: .pointer (some ⟨x, 0, none⟩) :: u7 :: u8 :: u9 :: u10 :: u11 :: u12 :: u13 :: u14 :: u15 :: u16 :: u17 :: u18 :: .slice pu m cu :: u20 :: u21 :: .int .i64 (i : Int) :: .int .i64 ed :: .bool true :: u25 :: u26 :: .bool true :: u28 :: u29 :: u30 :: u31 :: u32 :: u33 :: u34 :: u35 :: u36 :: u37 :: u38 :: u39 :: u40 :: u41 :: u42 :: u43 :: u44 :: u45 :: u46 :: u47 :: u48 :: u49 :: u50 :: u51 :: u52 :: u53 :: u54 :: u55 :: u56 :: u57 :: u58 :: u59 :: u60 :: u61 :: u62 :: u63 :: u64 :: u65 :: u66 :: u67 :: u68 :: u69 :: u70 :: u71 :: u72 :: u73 :: u74 :: u75 :: u76 :: u77 :: u78 :: u79 :: u80 :: u81 :: u82 :: u83 :: u84 :: u85 :: u86 :: u87 :: u88 :: u89 :: u90 :: u91 :: u92 :: u93 :: u94 :: u95 :: u96 :: u97 :: u98 :: u99 :: u100 :: u101 :: u102 :: u103 :: u104 :: u105 :: u106 :: u107 :: u108 :: u109 :: u110 :: u111 :: u112 :: u113 :: u114 :: u115 :: u116 :: u117 :: u118 :: u119 :: u120 :: u121 :: u122 :: u123 :: u124 :: u125 :: u126 :: u127 :: u128 :: u129 :: u130 :: u131 :: u132 :: u133 :: u134 :: u135 :: u136 :: u137 :: u138 :: u139 :: u140 :: u141 :: u142 :: u143 :: u144 :: u145 :: u146 :: u147 :: u148 :: u149 :: u150 :: u151 :: u152 :: u153 :: u154 :: u155 :: u156 :: u157 :: u158 :: u159 :: u160 :: u161 :: u162 :: u163 :: u164 :: u165 :: u166 :: u167 :: u168 :: u169 :: u170 :: u171 :: u172 :: u173 :: u174 :: u175 :: u176 :: u177 :: u178 :: u179 :: u180 :: u181 :: u182 :: u183 :: u184 :: u185 :: u186 :: u187 :: u188 :: u189 :: u190 :: u191 :: u192 :: u193 :: u194 :: u195 :: u196 :: u197 :: u198 :: u199 :: u200 :: u201 :: u202 :: u203 :: u204 :: u205 :: u206 :: u207 :: u208 :: u209 :: u210 :: u211 :: u212 :: u213 :: u214 :: u215 :: u216 :: u217 :: u218 :: u219 :: u220 :: u221 :: u222 :: u223 :: u224 :: u225 :: u226 :: u227 :: u228 :: u229 :: u230 :: u231 :: u232 :: u233 :: u234 :: u235 :: u236 :: u237 :: u238 :: u239 :: u240 :: u241 :: u242 :: u243 :: u244 :: u245 :: u246 :: u247 :: u248 :: u249 :: u250 :: u251 :: u252 :: u253 :: u254 :: u255 :: u256 :: u257 :: u258 :: u259 :: u260 :: u261 :: u262 :: u263 :: u264 :: u265 :: u266 :: u267 :: u268 :: [] : List Value).toArray, []⟩ w10 := by
  conv => arg 2; whnf
  have K0 := KS.out w10.drew T10.out.drew
  refine wp_region_noPanic ?_
  refine wp_region_held_drew (S := fun W => W.cell? ⟨x, 2, none⟩ = some (.int .i64 na) ∧ W.cell? ⟨x, 0, none⟩ = some (.slice (some ⟨g, o, none⟩) m cap6) ∧ W.cell? ⟨g, o + i * 2, none⟩ = some (.int .i64 ed)) (by kernel_rfl) K0 (fun hHeld => ?_)
  refine wpAnyH_take (i := 0) (oi := ?oi0xA) (v := ?v0xA) ?hi0xA (by kernel_rfl) (by kernel_rfl) (by kernel_rfl) ?hq0xA (Or.inl ⟨?hw0xA, ?hy0xA⟩) (by assumption) ?rest0xA
  case hi0xA => simp only [List.getElem?_toArray, List.getElem?_cons_zero]; rfl
  case hq0xA => exact fun _ _ _ h => h
  case hw0xA => rfl
  case hy0xA => (intro w hSw; (try dsimp only at hSw); obtain ⟨hs0, hs1, hs2⟩ := hSw; go_simp; (try (with_reducible rfl)))
  (try simp only [Act.put, List.setIfInBounds_toArray, List.set_cons_zero, List.set_cons_succ])
  refine wpAnyH_take (i := 2) (oi := ?oi2xA) (v := ?v2xA) ?hi2xA (by kernel_rfl) (by kernel_rfl) (by kernel_rfl) ?hq2xA (Or.inl ⟨?hw2xA, ?hy2xA⟩) (by assumption) ?rest2xA
  case hi2xA => simp only [List.getElem?_toArray, List.getElem?_cons_succ, List.getElem?_cons_zero]; rfl
  case hq2xA => exact fun _ _ _ h => h
  case hw2xA => rfl
  case hy2xA => (intro w hSw; (try dsimp only at hSw); obtain ⟨hs0, hs1, hs2⟩ := hSw; go_simp; (try (with_reducible rfl)))
  (try simp only [Act.put, List.setIfInBounds_toArray, List.set_cons_zero, List.set_cons_succ])
  refine wpAnyH_ready (rs := [1]) (by kernel_rfl) (by simp) ?_
  refine AllReadyH.cons (o := ?or1) ?hir1 (fun K' hK' => ?_) AllReadyH.nil
  case hir1 => simp only [List.getElem?_toArray, List.getElem?_cons_succ, List.getElem?_cons_zero]; rfl
  go_simp
  (go_at_call 33; (with_reducible refine (HC3.out.pl.keys).mono ?_); rintro e w11 ⟨v11, rfl, n11, t11⟩; have T11 := Lib.hid (TT T10.out.drew t11); have S11 := Lib.hid (KS.out w11 T11.out); have N11 := Lib.hid (And.intro n11 (HNK.out.past T11.out)); have HC4 := Lib.hid (HC3.out.past t11); clear t11 n11)
  (try go_wp2_with fail)
  refine hK'.out _ _ S11.out (fun hHeld => ?_)
  clear hK' K'
  (try simp only [Act.put, List.setIfInBounds_toArray, List.set_cons_zero, List.set_cons_succ])
  refine wpAnyH_ready (rs := [3]) (by kernel_rfl) (by simp) ?_
  refine AllReadyH.cons (o := ?or3) ?hir3 (fun K' hK' => ?_) AllReadyH.nil
  case hir3 => simp only [List.getElem?_toArray, List.getElem?_cons_succ, List.getElem?_cons_zero]; rfl
  go_simp
  (go_at_call 30; (with_reducible refine (ints_eq _ _ _ _ HLE.out N11.out.1 N11.out.2).mono ?_); rintro e w12 ⟨rfl, t12⟩; have T12 := Lib.hid (TT T11.out t12); have S12 := Lib.hid (KS.out w12 T12.out); have C12 := Lib.hid (HC4.out.past t12).pl.count; have N12 := Lib.hid (HC4.out.past t12).pl.now'; rw [HLM.out] at C12; clear t12)
  (try go_wp2_with fail)
  refine hK'.out _ _ S12.out (fun hHeld => ?_)
  clear hK' K'
  (try simp only [Act.put, List.setIfInBounds_toArray, List.set_cons_zero, List.set_cons_succ])
  refine wpAnyH_take (i := 4) (oi := ?oi4xA) (v := ?v4xA) ?hi4xA (by kernel_rfl) (by kernel_rfl) (by kernel_rfl) ?hq4xA (Or.inl ⟨?hw4xA, ?hy4xA⟩) (by assumption) ?rest4xA
  case hi4xA => simp only [List.getElem?_toArray, List.getElem?_cons_succ, List.getElem?_cons_zero]; rfl
  case hq4xA => exact fun _ _ _ h => h
  case hw4xA => rfl
  case hy4xA => (intro w hSw; (try dsimp only at hSw); obtain ⟨hs0, hs1, hs2⟩ := hSw; go_simp; (try (with_reducible rfl)))
  (try simp only [Act.put, List.setIfInBounds_toArray, List.set_cons_zero, List.set_cons_succ])
  refine wpAnyH_take (i := 5) (oi := ?oi5xA) (v := ?v5xA) ?hi5xA (by kernel_rfl) (by kernel_rfl) (by kernel_rfl) ?hq5xA (Or.inl ⟨?hw5xA, ?hy5xA⟩) (by assumption) ?rest5xA
  case hi5xA => simp only [List.getElem?_toArray, List.getElem?_cons_succ, List.getElem?_cons_zero]; rfl
  case hq5xA => exact fun _ _ _ h => h
  case hw5xA => rfl
  case hy5xA => (intro w hSw; (try dsimp only at hSw); obtain ⟨hs0, hs1, hs2⟩ := hSw; go_simp; (try (with_reducible rfl)))
  (try simp only [Act.put, List.setIfInBounds_toArray, List.set_cons_zero, List.set_cons_succ])
  refine wpAnyH_take (i := 6) (oi := ?oi6xA) (v := ?v6xA) ?hi6xA (by kernel_rfl) (by kernel_rfl) (by kernel_rfl) ?hq6xA (Or.inl ⟨?hw6xA, ?hy6xA⟩) (by assumption) ?rest6xA
  case hi6xA => simp only [List.getElem?_toArray, List.getElem?_cons_succ, List.getElem?_cons_zero]; rfl
  case hq6xA => exact fun _ _ _ h => h
  case hw6xA => rfl
  case hy6xA => (intro w hSw; (try dsimp only at hSw); obtain ⟨hs0, hs1, hs2⟩ := hSw; go_simp; (try (with_reducible rfl)))
  (try simp only [Act.put, List.setIfInBounds_toArray, List.set_cons_zero, List.set_cons_succ])
  refine wpAnyH_take (i := 8) (oi := ?oi8xA) (v := ?v8xA) ?hi8xA (by kernel_rfl) (by kernel_rfl) (by kernel_rfl) ?hq8xA (Or.inl ⟨?hw8xA, ?hy8xA⟩) (by assumption) ?rest8xA
  case hi8xA => simp only [List.getElem?_toArray, List.getElem?_cons_succ, List.getElem?_cons_zero]; rfl
  case hq8xA => exact fun _ _ _ h => h
  case hw8xA => rfl
  case hy8xA => (intro w hSw; (try dsimp only at hSw); obtain ⟨hs0, hs1, hs2⟩ := hSw; go_simp; (try (with_reducible rfl)))
  (try simp only [Act.put, List.setIfInBounds_toArray, List.set_cons_zero, List.set_cons_succ])
  refine wpAnyH_take (i := 9) (oi := ?oi9xA) (v := ?v9xA) ?hi9xA (by kernel_rfl) (by kernel_rfl) (by kernel_rfl) ?hq9xA (Or.inl ⟨?hw9xA, ?hy9xA⟩) (by assumption) ?rest9xA
  case hi9xA => simp only [List.getElem?_toArray, List.getElem?_cons_succ, List.getElem?_cons_zero]; rfl
  case hq9xA => exact fun _ _ _ h => h
  case hw9xA => rfl
  case hy9xA => (intro w hSw; (try dsimp only at hSw); obtain ⟨hs0, hs1, hs2⟩ := hSw; go_simp; (try (with_reducible rfl)))
  (try simp only [Act.put, List.setIfInBounds_toArray, List.set_cons_zero, List.set_cons_succ])
  refine wpAnyH_ready (rs := [7]) (by kernel_rfl) (by simp) ?_
  refine AllReadyH.cons (o := ?or7) ?hir7 (fun K' hK' => ?_) AllReadyH.nil
  case hir7 => simp only [List.getElem?_toArray, List.getElem?_cons_succ, List.getElem?_cons_zero]; rfl
  go_simp
  (go_at_call 34; (with_reducible refine C12.out.mono ?_); rintro e w13 ⟨rfl, rfl⟩)
  (try go_wp2_with fail)
  refine hK'.out _ _ S12.out (fun hHeld => ?_)
  clear hK' K'
  (try simp only [Act.put, List.setIfInBounds_toArray, List.set_cons_zero, List.set_cons_succ])
  refine wpAnyH_take (i := 10) (oi := ?oi10xA) (v := ?v10xA) ?hi10xA (by kernel_rfl) (by kernel_rfl) (by kernel_rfl) ?hq10xA (Or.inl ⟨?hw10xA, ?hy10xA⟩) (by assumption) ?rest10xA
  case hi10xA => simp only [List.getElem?_toArray, List.getElem?_cons_succ, List.getElem?_cons_zero]; rfl
  case hq10xA => exact fun _ _ _ h => h
  case hw10xA => rfl
  case hy10xA => (intro w hSw; (try dsimp only at hSw); obtain ⟨hs0, hs1, hs2⟩ := hSw; go_simp; (try (with_reducible rfl)))
  (try simp only [Act.put, List.setIfInBounds_toArray, List.set_cons_zero, List.set_cons_succ])
  refine wpAnyH_take (i := 11) (oi := ?oi11xA) (v := ?v11xA) ?hi11xA (by kernel_rfl) (by kernel_rfl) (by kernel_rfl) ?hq11xA (Or.inl ⟨?hw11xA, ?hy11xA⟩) (by assumption) ?rest11xA
  case hi11xA => simp only [List.getElem?_toArray, List.getElem?_cons_succ, List.getElem?_cons_zero]; rfl
  case hq11xA => exact fun _ _ _ h => h
  case hw11xA => rfl
  case hy11xA => (intro w hSw; (try dsimp only at hSw); obtain ⟨hs0, hs1, hs2⟩ := hSw; go_simp; (try (with_reducible rfl)))
  (try simp only [Act.put, List.setIfInBounds_toArray, List.set_cons_zero, List.set_cons_succ])
  refine wpAnyH_take (i := 12) (oi := ?oi12xA) (v := ?v12xA) ?hi12xA (by kernel_rfl) (by kernel_rfl) (by kernel_rfl) ?hq12xA (Or.inl ⟨?hw12xA, ?hy12xA⟩) (by assumption) ?rest12xA
  case hi12xA => simp only [List.getElem?_toArray, List.getElem?_cons_succ, List.getElem?_cons_zero]; rfl
  case hq12xA => exact fun _ _ _ h => h
  case hw12xA => rfl
  case hy12xA => (intro w hSw; (try dsimp only at hSw); obtain ⟨hs0, hs1, hs2⟩ := hSw; go_simp; (try (with_reducible rfl)))
  (try simp only [Act.put, List.setIfInBounds_toArray, List.set_cons_zero, List.set_cons_succ])
  refine wpAnyH_take (i := 13) (oi := ?oi13xA) (v := ?v13xA) ?hi13xA (by kernel_rfl) (by kernel_rfl) (by kernel_rfl) ?hq13xA (Or.inl ⟨?hw13xA, ?hy13xA⟩) (by assumption) ?rest13xA
  case hi13xA => simp only [List.getElem?_toArray, List.getElem?_cons_succ, List.getElem?_cons_zero]; rfl
  case hq13xA => exact fun _ _ _ h => h
  case hw13xA => rfl
  case hy13xA => (intro w hSw; (try dsimp only at hSw); obtain ⟨hs0, hs1, hs2⟩ := hSw; go_simp; (try (with_reducible rfl)))
  (try simp only [Act.put, List.setIfInBounds_toArray, List.set_cons_zero, List.set_cons_succ])
  refine wpAnyH_take (i := 15) (oi := ?oi15xA) (v := ?v15xA) ?hi15xA (by kernel_rfl) (by kernel_rfl) (by kernel_rfl) ?hq15xA (Or.inl ⟨?hw15xA, ?hy15xA⟩) (by assumption) ?rest15xA
  case hi15xA => simp only [List.getElem?_toArray, List.getElem?_cons_succ, List.getElem?_cons_zero]; rfl
  case hq15xA => exact fun _ _ _ h => h
  case hw15xA => rfl
  case hy15xA => (intro w hSw; (try dsimp only at hSw); obtain ⟨hs0, hs1, hs2⟩ := hSw; go_simp; (try (with_reducible rfl)))
  (try simp only [Act.put, List.setIfInBounds_toArray, List.set_cons_zero, List.set_cons_succ])
  refine wpAnyH_take (i := 16) (oi := ?oi16xA) (v := ?v16xA) ?hi16xA (by kernel_rfl) (by kernel_rfl) (by kernel_rfl) ?hq16xA (Or.inl ⟨?hw16xA, ?hy16xA⟩) (by assumption) ?rest16xA
  case hi16xA => simp only [List.getElem?_toArray, List.getElem?_cons_succ, List.getElem?_cons_zero]; rfl
  case hq16xA => exact fun _ _ _ h => h
  case hw16xA => rfl
  case hy16xA => (intro w hSw; (try dsimp only at hSw); obtain ⟨hs0, hs1, hs2⟩ := hSw; go_simp; (try (with_reducible rfl)))
  (try simp only [Act.put, List.setIfInBounds_toArray, List.set_cons_zero, List.set_cons_succ])
  refine wpAnyH_take (i := 17) (oi := ?oi17xA) (v := ?v17xA) ?hi17xA (by kernel_rfl) (by kernel_rfl) (by kernel_rfl) ?hq17xA (Or.inl ⟨?hw17xA, ?hy17xA⟩) (by assumption) ?rest17xA
  case hi17xA => simp only [List.getElem?_toArray, List.getElem?_cons_succ, List.getElem?_cons_zero]; rfl
  case hq17xA => exact fun _ _ _ h => h
  case hw17xA => rfl
  case hy17xA => (intro w hSw; (try dsimp only at hSw); obtain ⟨hs0, hs1, hs2⟩ := hSw; go_simp; (try (with_reducible rfl)))
  (try simp only [Act.put, List.setIfInBounds_toArray, List.set_cons_zero, List.set_cons_succ])
  refine wpAnyH_take (i := 18) (oi := ?oi18xA) (v := ?v18xA) ?hi18xA (by kernel_rfl) (by kernel_rfl) (by kernel_rfl) ?hq18xA (Or.inl ⟨?hw18xA, ?hy18xA⟩) (by assumption) ?rest18xA
  case hi18xA => simp only [List.getElem?_toArray, List.getElem?_cons_succ, List.getElem?_cons_zero]; rfl
  case hq18xA => exact fun _ _ _ h => h
  case hw18xA => rfl
  case hy18xA => (intro w hSw; (try dsimp only at hSw); obtain ⟨hs0, hs1, hs2⟩ := hSw; go_simp; (try (with_reducible rfl)))
  (try simp only [Act.put, List.setIfInBounds_toArray, List.set_cons_zero, List.set_cons_succ])
  refine wpAnyH_ready (rs := [14]) (by kernel_rfl) (by simp) ?_
  refine AllReadyH.cons (o := ?or14) ?hir14 (fun K' hK' => ?_) AllReadyH.nil
  case hir14 => simp only [List.getElem?_toArray, List.getElem?_cons_succ, List.getElem?_cons_zero]; rfl
  go_simp
  (go_at_call 35; (with_reducible refine N12.out.mono ?_); rintro e w14 ⟨rfl, rfl⟩)
  (try go_wp2_with fail)
  refine hK'.out _ _ S12.out (fun hHeld => ?_)
  clear hK' K'
  (try simp only [Act.put, List.setIfInBounds_toArray, List.set_cons_zero, List.set_cons_succ])
  refine wpAnyH_take (i := 19) (oi := ?oi19xA) (v := ?v19xA) ?hi19xA (by kernel_rfl) (by kernel_rfl) (by kernel_rfl) ?hq19xA (Or.inl ⟨?hw19xA, ?hy19xA⟩) (by assumption) ?rest19xA
  case hi19xA => simp only [List.getElem?_toArray, List.getElem?_cons_succ, List.getElem?_cons_zero]; rfl
  case hq19xA => exact fun _ _ _ h => h
  case hw19xA => rfl
  case hy19xA => (intro w hSw; (try dsimp only at hSw); obtain ⟨hs0, hs1, hs2⟩ := hSw; go_simp; (try (with_reducible rfl)))
  (try simp only [Act.put, List.setIfInBounds_toArray, List.set_cons_zero, List.set_cons_succ])
  refine wpAnyH_take (i := 20) (oi := ?oi20xA) (v := ?v20xA) ?hi20xA (by kernel_rfl) (by kernel_rfl) (by kernel_rfl) ?hq20xA (Or.inl ⟨?hw20xA, ?hy20xA⟩) (by assumption) ?rest20xA
  case hi20xA => simp only [List.getElem?_toArray, List.getElem?_cons_succ, List.getElem?_cons_zero]; rfl
  case hq20xA => exact fun _ _ _ h => h
  case hw20xA => rfl
  case hy20xA => (intro w hSw; (try dsimp only at hSw); obtain ⟨hs0, hs1, hs2⟩ := hSw; go_simp; (try (with_reducible rfl)))
  (try simp only [Act.put, List.setIfInBounds_toArray, List.set_cons_zero, List.set_cons_succ])
  refine wpAnyH_take (i := 21) (oi := ?oi21xA) (v := ?v21xA) ?hi21xA (by kernel_rfl) (by kernel_rfl) (by kernel_rfl) ?hq21xA (Or.inl ⟨?hw21xA, ?hy21xA⟩) (by assumption) ?rest21xA
  case hi21xA => simp only [List.getElem?_toArray, List.getElem?_cons_succ, List.getElem?_cons_zero]; rfl
  case hq21xA => exact fun _ _ _ h => h
  case hw21xA => rfl
  case hy21xA => (intro w hSw; (try dsimp only at hSw); obtain ⟨hs0, hs1, hs2⟩ := hSw; go_simp; (try (with_reducible rfl)))
  (try simp only [Act.put, List.setIfInBounds_toArray, List.set_cons_zero, List.set_cons_succ])
  refine wpAnyH_take (i := 22) (oi := ?oi22xA) (v := ?v22xA) ?hi22xA (by kernel_rfl) (by kernel_rfl) (by kernel_rfl) ?hq22xA (Or.inl ⟨?hw22xA, ?hy22xA⟩) (by assumption) ?rest22xA
  case hi22xA => simp only [List.getElem?_toArray, List.getElem?_cons_succ, List.getElem?_cons_zero]; rfl
  case hq22xA => exact fun _ _ _ h => h
  case hw22xA => rfl
  case hy22xA => (intro w hSw; (try dsimp only at hSw); obtain ⟨hs0, hs1, hs2⟩ := hSw; go_simp; (try (with_reducible rfl)))
  (try simp only [Act.put, List.setIfInBounds_toArray, List.set_cons_zero, List.set_cons_succ])
  refine wpAnyH_take (i := 23) (oi := ?oi23xA) (v := ?v23xA) ?hi23xA (by kernel_rfl) (by kernel_rfl) (by kernel_rfl) ?hq23xA (Or.inl ⟨?hw23xA, ?hy23xA⟩) (by assumption) ?rest23xA
  case hi23xA => simp only [List.getElem?_toArray, List.getElem?_cons_succ, List.getElem?_cons_zero]; rfl
  case hq23xA => exact fun _ _ _ h => h
  case hw23xA => rfl
  case hy23xA => (intro w hSw; (try dsimp only at hSw); obtain ⟨hs0, hs1, hs2⟩ := hSw; go_simp; (try (with_reducible rfl)))
  (try simp only [Act.put, List.setIfInBounds_toArray, List.set_cons_zero, List.set_cons_succ])
  refine wpAnyH_take (i := 24) (oi := ?oi24xA) (v := ?v24xA) ?hi24xA (by kernel_rfl) (by kernel_rfl) (by kernel_rfl) ?hq24xA (Or.inl ⟨?hw24xA, ?hy24xA⟩) (by assumption) ?rest24xA
  case hi24xA => simp only [List.getElem?_toArray, List.getElem?_cons_succ, List.getElem?_cons_zero]; rfl
  case hq24xA => exact fun _ _ _ h => h
  case hw24xA => rfl
  case hy24xA => (intro w hSw; (try dsimp only at hSw); obtain ⟨hs0, hs1, hs2⟩ := hSw; go_simp; (try (with_reducible rfl)))
  (try simp only [Act.put, List.setIfInBounds_toArray, List.set_cons_zero, List.set_cons_succ])
  refine wpAnyH_take (i := 25) (oi := ?oi25xA) (v := ?v25xA) ?hi25xA (by kernel_rfl) (by kernel_rfl) (by kernel_rfl) ?hq25xA (Or.inl ⟨?hw25xA, ?hy25xA⟩) (by assumption) ?rest25xA
  case hi25xA => simp only [List.getElem?_toArray, List.getElem?_cons_succ, List.getElem?_cons_zero]; rfl
  case hq25xA => exact fun _ _ _ h => h
  case hw25xA => rfl
  case hy25xA => (intro w hSw; (try dsimp only at hSw); obtain ⟨hs0, hs1, hs2⟩ := hSw; go_simp; (try (with_reducible rfl)))
  (try simp only [Act.put, List.setIfInBounds_toArray, List.set_cons_zero, List.set_cons_succ])
  refine wpAnyH_take (i := 26) (oi := ?oi26xA) (v := ?v26xA) ?hi26xA (by kernel_rfl) (by kernel_rfl) (by kernel_rfl) ?hq26xA (Or.inl ⟨?hw26xA, ?hy26xA⟩) (by assumption) ?rest26xA
  case hi26xA => simp only [List.getElem?_toArray, List.getElem?_cons_succ, List.getElem?_cons_zero]; rfl
  case hq26xA => exact fun _ _ _ h => h
  case hw26xA => rfl
  case hy26xA => (intro w hSw; (try dsimp only at hSw); obtain ⟨hs0, hs1, hs2⟩ := hSw; go_simp; (try (with_reducible rfl)))
  (try simp only [Act.put, List.setIfInBounds_toArray, List.set_cons_zero, List.set_cons_succ])
  refine wpAnyH_take (i := 27) (oi := ?oi27xA) (v := ?v27xA) ?hi27xA (by kernel_rfl) (by kernel_rfl) (by kernel_rfl) ?hq27xA (Or.inl ⟨?hw27xA, ?hy27xA⟩) (by assumption) ?rest27xA
  case hi27xA => simp only [List.getElem?_toArray, List.getElem?_cons_succ, List.getElem?_cons_zero]; rfl
  case hq27xA => exact fun _ _ _ h => h
  case hw27xA => rfl
  case hy27xA => (intro w hSw; (try dsimp only at hSw); obtain ⟨hs0, hs1, hs2⟩ := hSw; go_simp; (try (with_reducible rfl)))
  (try simp only [Act.put, List.setIfInBounds_toArray, List.set_cons_zero, List.set_cons_succ])
  refine wpAnyH_take (i := 28) (oi := ?oi28xA) (v := ?v28xA) ?hi28xA (by kernel_rfl) (by kernel_rfl) (by kernel_rfl) ?hq28xA (Or.inl ⟨?hw28xA, ?hy28xA⟩) (by assumption) ?rest28xA
  case hi28xA => simp only [List.getElem?_toArray, List.getElem?_cons_succ, List.getElem?_cons_zero]; rfl
  case hq28xA => exact fun _ _ _ h => h
  case hw28xA => rfl
  case hy28xA => (intro w hSw; (try dsimp only at hSw); obtain ⟨hs0, hs1, hs2⟩ := hSw; go_simp; (try (with_reducible rfl)))
  (try simp only [Act.put, List.setIfInBounds_toArray, List.set_cons_zero, List.set_cons_succ])
  refine wpAnyH_take (i := 29) (oi := ?oi29xA) (v := ?v29xA) ?hi29xA (by kernel_rfl) (by kernel_rfl) (by kernel_rfl) ?hq29xA (Or.inl ⟨?hw29xA, ?hy29xA⟩) (by assumption) ?rest29xA
  case hi29xA => simp only [List.getElem?_toArray, List.getElem?_cons_succ, List.getElem?_cons_zero]; rfl
  case hq29xA => exact fun _ _ _ h => h
  case hw29xA => rfl
  case hy29xA => (intro w hSw; (try dsimp only at hSw); obtain ⟨hs0, hs1, hs2⟩ := hSw; go_simp; (try (with_reducible rfl)))
  (try simp only [Act.put, List.setIfInBounds_toArray, List.set_cons_zero, List.set_cons_succ])
  refine wpAnyH_take (i := 30) (oi := ?oi30xA) (v := ?v30xA) ?hi30xA (by kernel_rfl) (by kernel_rfl) (by kernel_rfl) ?hq30xA (Or.inl ⟨?hw30xA, ?hy30xA⟩) (by assumption) ?rest30xA
  case hi30xA => simp only [List.getElem?_toArray, List.getElem?_cons_succ, List.getElem?_cons_zero]; rfl
  case hq30xA => exact fun _ _ _ h => h
  case hw30xA => rfl
  case hy30xA => (intro w hSw; (try dsimp only at hSw); obtain ⟨hs0, hs1, hs2⟩ := hSw; go_simp; (try (with_reducible rfl)))
  (try simp only [Act.put, List.setIfInBounds_toArray, List.set_cons_zero, List.set_cons_succ])
  refine wpAnyH_take (i := 31) (oi := ?oi31xA) (v := ?v31xA) ?hi31xA (by kernel_rfl) (by kernel_rfl) (by kernel_rfl) ?hq31xA (Or.inl ⟨?hw31xA, ?hy31xA⟩) (by assumption) ?rest31xA
  case hi31xA => simp only [List.getElem?_toArray, List.getElem?_cons_succ, List.getElem?_cons_zero]; rfl
  case hq31xA => exact fun _ _ _ h => h
  case hw31xA => rfl
  case hy31xA => (intro w hSw; (try dsimp only at hSw); obtain ⟨hs0, hs1, hs2⟩ := hSw; go_simp; (try (with_reducible rfl)))
  (try simp only [Act.put, List.setIfInBounds_toArray, List.set_cons_zero, List.set_cons_succ])
  refine wpAnyH_take (i := 32) (oi := ?oi32xA) (v := ?v32xA) ?hi32xA (by kernel_rfl) (by kernel_rfl) (by kernel_rfl) ?hq32xA (Or.inl ⟨?hw32xA, ?hy32xA⟩) (by assumption) ?rest32xA
  case hi32xA => simp only [List.getElem?_toArray, List.getElem?_cons_succ, List.getElem?_cons_zero]; rfl
  case hq32xA => exact fun _ _ _ h => h
  case hw32xA => rfl
  case hy32xA => (intro w hSw; (try dsimp only at hSw); obtain ⟨hs0, hs1, hs2⟩ := hSw; go_simp; (try (with_reducible rfl)))
  (try simp only [Act.put, List.setIfInBounds_toArray, List.set_cons_zero, List.set_cons_succ])
  refine wpAnyH_take (i := 33) (oi := ?oi33xA) (v := ?v33xA) ?hi33xA (by kernel_rfl) (by kernel_rfl) (by kernel_rfl) ?hq33xA (Or.inl ⟨?hw33xA, ?hy33xA⟩) (by assumption) ?rest33xA
  case hi33xA => simp only [List.getElem?_toArray, List.getElem?_cons_succ, List.getElem?_cons_zero]; rfl
  case hq33xA => exact fun _ _ _ h => h
  case hw33xA => rfl
  case hy33xA => (intro w hSw; (try dsimp only at hSw); obtain ⟨hs0, hs1, hs2⟩ := hSw; go_simp; (try (with_reducible rfl)))
  (try simp only [Act.put, List.setIfInBounds_toArray, List.set_cons_zero, List.set_cons_succ])
  refine wpAnyH_take (i := 34) (oi := ?oi34xA) (v := ?v34xA) ?hi34xA (by kernel_rfl) (by kernel_rfl) (by kernel_rfl) ?hq34xA (Or.inl ⟨?hw34xA, ?hy34xA⟩) (by assumption) ?rest34xA
  case hi34xA => simp only [List.getElem?_toArray, List.getElem?_cons_succ, List.getElem?_cons_zero]; rfl
  case hq34xA => exact fun _ _ _ h => h
  case hw34xA => rfl
  case hy34xA => (intro w hSw; (try dsimp only at hSw); obtain ⟨hs0, hs1, hs2⟩ := hSw; go_simp; (try (with_reducible rfl)))
  (try simp only [Act.put, List.setIfInBounds_toArray, List.set_cons_zero, List.set_cons_succ])
  refine wpAnyH_take (i := 35) (oi := ?oi35xA) (v := ?v35xA) ?hi35xA (by kernel_rfl) (by kernel_rfl) (by kernel_rfl) ?hq35xA (Or.inl ⟨?hw35xA, ?hy35xA⟩) (by assumption) ?rest35xA
  case hi35xA => simp only [List.getElem?_toArray, List.getElem?_cons_succ, List.getElem?_cons_zero]; rfl
  case hq35xA => exact fun _ _ _ h => h
  case hw35xA => rfl
  case hy35xA => (intro w hSw; (try dsimp only at hSw); obtain ⟨hs0, hs1, hs2⟩ := hSw; go_simp; (try (with_reducible rfl)))
  (try simp only [Act.put, List.setIfInBounds_toArray, List.set_cons_zero, List.set_cons_succ])
  refine wpAnyH_take (i := 36) (oi := ?oi36xA) (v := ?v36xA) ?hi36xA (by kernel_rfl) (by kernel_rfl) (by kernel_rfl) ?hq36xA (Or.inl ⟨?hw36xA, ?hy36xA⟩) (by assumption) ?rest36xA
  case hi36xA => simp only [List.getElem?_toArray, List.getElem?_cons_succ, List.getElem?_cons_zero]; rfl
  case hq36xA => exact fun _ _ _ h => h
  case hw36xA => rfl
  case hy36xA => (intro w hSw; (try dsimp only at hSw); obtain ⟨hs0, hs1, hs2⟩ := hSw; go_simp; (try (with_reducible rfl)))
  (try simp only [Act.put, List.setIfInBounds_toArray, List.set_cons_zero, List.set_cons_succ])
  refine wpAnyH_take (i := 37) (oi := ?oi37xA) (v := ?v37xA) ?hi37xA (by kernel_rfl) (by kernel_rfl) (by kernel_rfl) ?hq37xA (Or.inl ⟨?hw37xA, ?hy37xA⟩) (by assumption) ?rest37xA
  case hi37xA => simp only [List.getElem?_toArray, List.getElem?_cons_succ, List.getElem?_cons_zero]; rfl
  case hq37xA => exact fun _ _ _ h => h
  case hw37xA => rfl
  case hy37xA => (intro w hSw; (try dsimp only at hSw); obtain ⟨hs0, hs1, hs2⟩ := hSw; go_simp; (try (with_reducible rfl)))
  (try simp only [Act.put, List.setIfInBounds_toArray, List.set_cons_zero, List.set_cons_succ])
  refine wpAnyH_take (i := 38) (oi := ?oi38xA) (v := ?v38xA) ?hi38xA (by kernel_rfl) (by kernel_rfl) (by kernel_rfl) ?hq38xA (Or.inl ⟨?hw38xA, ?hy38xA⟩) (by assumption) ?rest38xA
  case hi38xA => simp only [List.getElem?_toArray, List.getElem?_cons_succ, List.getElem?_cons_zero]; rfl
  case hq38xA => exact fun _ _ _ h => h
  case hw38xA => rfl
  case hy38xA => (intro w hSw; (try dsimp only at hSw); obtain ⟨hs0, hs1, hs2⟩ := hSw; go_simp; (try (with_reducible rfl)))
  (try simp only [Act.put, List.setIfInBounds_toArray, List.set_cons_zero, List.set_cons_succ])
  refine wpAnyH_take (i := 39) (oi := ?oi39xA) (v := ?v39xA) ?hi39xA (by kernel_rfl) (by kernel_rfl) (by kernel_rfl) ?hq39xA (Or.inl ⟨?hw39xA, ?hy39xA⟩) (by assumption) ?rest39xA
  case hi39xA => simp only [List.getElem?_toArray, List.getElem?_cons_succ, List.getElem?_cons_zero]; rfl
  case hq39xA => exact fun _ _ _ h => h
  case hw39xA => rfl
  case hy39xA => (intro w hSw; (try dsimp only at hSw); obtain ⟨hs0, hs1, hs2⟩ := hSw; go_simp; (try (with_reducible rfl)))
  (try simp only [Act.put, List.setIfInBounds_toArray, List.set_cons_zero, List.set_cons_succ])
  refine wpAnyH_take (i := 40) (oi := ?oi40xA) (v := ?v40xA) ?hi40xA (by kernel_rfl) (by kernel_rfl) (by kernel_rfl) ?hq40xA (Or.inl ⟨?hw40xA, ?hy40xA⟩) (by assumption) ?rest40xA
  case hi40xA => simp only [List.getElem?_toArray, List.getElem?_cons_succ, List.getElem?_cons_zero]; rfl
  case hq40xA => exact fun _ _ _ h => h
  case hw40xA => rfl
  case hy40xA => (intro w hSw; (try dsimp only at hSw); obtain ⟨hs0, hs1, hs2⟩ := hSw; go_simp; (try (with_reducible rfl)))
  (try simp only [Act.put, List.setIfInBounds_toArray, List.set_cons_zero, List.set_cons_succ])
  refine wpAnyH_take (i := 41) (oi := ?oi41xA) (v := ?v41xA) ?hi41xA (by kernel_rfl) (by kernel_rfl) (by kernel_rfl) ?hq41xA (Or.inl ⟨?hw41xA, ?hy41xA⟩) (by assumption) ?rest41xA
  case hi41xA => simp only [List.getElem?_toArray, List.getElem?_cons_succ, List.getElem?_cons_zero]; rfl
  case hq41xA => exact fun _ _ _ h => h
  case hw41xA => rfl
  case hy41xA => (intro w hSw; (try dsimp only at hSw); obtain ⟨hs0, hs1, hs2⟩ := hSw; go_simp; (try (with_reducible rfl)))
  (try simp only [Act.put, List.setIfInBounds_toArray, List.set_cons_zero, List.set_cons_succ])
  refine wpAnyH_take (i := 42) (oi := ?oi42xA) (v := ?v42xA) ?hi42xA (by kernel_rfl) (by kernel_rfl) (by kernel_rfl) ?hq42xA (Or.inl ⟨?hw42xA, ?hy42xA⟩) (by assumption) ?rest42xA
  case hi42xA => simp only [List.getElem?_toArray, List.getElem?_cons_succ, List.getElem?_cons_zero]; rfl
  case hq42xA => exact fun _ _ _ h => h
  case hw42xA => rfl
  case hy42xA => (intro w hSw; (try dsimp only at hSw); obtain ⟨hs0, hs1, hs2⟩ := hSw; go_simp; (try (with_reducible rfl)))
  (try simp only [Act.put, List.setIfInBounds_toArray, List.set_cons_zero, List.set_cons_succ])
  refine wpAnyH_take (i := 43) (oi := ?oi43xA) (v := ?v43xA) ?hi43xA (by kernel_rfl) (by kernel_rfl) (by kernel_rfl) ?hq43xA (Or.inl ⟨?hw43xA, ?hy43xA⟩) (by assumption) ?rest43xA
  case hi43xA => simp only [List.getElem?_toArray, List.getElem?_cons_succ, List.getElem?_cons_zero]; rfl
  case hq43xA => exact fun _ _ _ h => h
  case hw43xA => rfl
  case hy43xA => (intro w hSw; (try dsimp only at hSw); obtain ⟨hs0, hs1, hs2⟩ := hSw; go_simp; (try (with_reducible rfl)))
  (try simp only [Act.put, List.setIfInBounds_toArray, List.set_cons_zero, List.set_cons_succ])
  refine wpAnyH_take (i := 44) (oi := ?oi44xA) (v := ?v44xA) ?hi44xA (by kernel_rfl) (by kernel_rfl) (by kernel_rfl) ?hq44xA (Or.inl ⟨?hw44xA, ?hy44xA⟩) (by assumption) ?rest44xA
  case hi44xA => simp only [List.getElem?_toArray, List.getElem?_cons_succ, List.getElem?_cons_zero]; rfl
  case hq44xA => exact fun _ _ _ h => h
  case hw44xA => rfl
  case hy44xA => (intro w hSw; (try dsimp only at hSw); obtain ⟨hs0, hs1, hs2⟩ := hSw; go_simp; (try (with_reducible rfl)))
  (try simp only [Act.put, List.setIfInBounds_toArray, List.set_cons_zero, List.set_cons_succ])
  refine wpAnyH_take (i := 45) (oi := ?oi45xA) (v := ?v45xA) ?hi45xA (by kernel_rfl) (by kernel_rfl) (by kernel_rfl) ?hq45xA (Or.inl ⟨?hw45xA, ?hy45xA⟩) (by assumption) ?rest45xA
  case hi45xA => simp only [List.getElem?_toArray, List.getElem?_cons_succ, List.getElem?_cons_zero]; rfl
  case hq45xA => exact fun _ _ _ h => h
  case hw45xA => rfl
  case hy45xA => (intro w hSw; (try dsimp only at hSw); obtain ⟨hs0, hs1, hs2⟩ := hSw; go_simp; (try (with_reducible rfl)))
  (try simp only [Act.put, List.setIfInBounds_toArray, List.set_cons_zero, List.set_cons_succ])
  refine wpAnyH_take (i := 46) (oi := ?oi46xA) (v := undef) ?hi46xA (by kernel_rfl) (by kernel_rfl) (by kernel_rfl) ?hq46xA (Or.inr ⟨?hw46xA, rfl⟩) (by assumption) ?rest46xA
  case hi46xA => simp only [List.getElem?_toArray, List.getElem?_cons_succ, List.getElem?_cons_zero]; rfl
  case hq46xA => exact fun _ _ _ h => h
  case hw46xA => rfl
  (try simp only [Act.put, List.setIfInBounds_toArray, List.set_cons_zero, List.set_cons_succ])
  refine wpAnyH_take (i := 47) (oi := ?oi47xA) (v := undef) ?hi47xA (by kernel_rfl) (by kernel_rfl) (by kernel_rfl) ?hq47xA (Or.inr ⟨?hw47xA, rfl⟩) (by assumption) ?rest47xA
  case hi47xA => simp only [List.getElem?_toArray, List.getElem?_cons_succ, List.getElem?_cons_zero]; rfl
  case hq47xA => exact fun _ _ _ h => h
  case hw47xA => rfl
  (try simp only [Act.put, List.setIfInBounds_toArray, List.set_cons_zero, List.set_cons_succ])
  refine wpAnyH_take (i := 48) (oi := ?oi48xA) (v := ?v48xA) ?hi48xA (by kernel_rfl) (by kernel_rfl) (by kernel_rfl) ?hq48xA (Or.inl ⟨?hw48xA, ?hy48xA⟩) (by assumption) ?rest48xA
  case hi48xA => simp only [List.getElem?_toArray, List.getElem?_cons_succ, List.getElem?_cons_zero]; rfl
  case hq48xA => exact fun _ _ _ h => h
  case hw48xA => rfl
  case hy48xA => (intro w hSw; (try dsimp only at hSw); obtain ⟨hs0, hs1, hs2⟩ := hSw; go_simp; (try (with_reducible rfl)))
  (try simp only [Act.put, List.setIfInBounds_toArray, List.set_cons_zero, List.set_cons_succ])
  refine wpAnyH_take (i := 49) (oi := ?oi49xA) (v := ?v49xA) ?hi49xA (by kernel_rfl) (by kernel_rfl) (by kernel_rfl) ?hq49xA (Or.inl ⟨?hw49xA, ?hy49xA⟩) (by assumption) ?rest49xA
  case hi49xA => simp only [List.getElem?_toArray, List.getElem?_cons_succ, List.getElem?_cons_zero]; rfl
  case hq49xA => exact fun _ _ _ h => h
  case hw49xA => rfl
  case hy49xA => (intro w hSw; (try dsimp only at hSw); obtain ⟨hs0, hs1, hs2⟩ := hSw; go_simp; (try (with_reducible rfl)))
  (try simp only [Act.put, List.setIfInBounds_toArray, List.set_cons_zero, List.set_cons_succ])
  refine wpAnyH_take (i := 50) (oi := ?oi50xA) (v := ?v50xA) ?hi50xA (by kernel_rfl) (by kernel_rfl) (by kernel_rfl) ?hq50xA (Or.inl ⟨?hw50xA, ?hy50xA⟩) (by assumption) ?rest50xA
  case hi50xA => simp only [List.getElem?_toArray, List.getElem?_cons_succ, List.getElem?_cons_zero]; rfl
  case hq50xA => exact fun _ _ _ h => h
  case hw50xA => rfl
  case hy50xA => (intro w hSw; (try dsimp only at hSw); obtain ⟨hs0, hs1, hs2⟩ := hSw; go_simp; (try (with_reducible rfl)))
  (try simp only [Act.put, List.setIfInBounds_toArray, List.set_cons_zero, List.set_cons_succ])
  refine wpAnyH_take (i := 51) (oi := ?oi51xA) (v := ?v51xA) ?hi51xA (by kernel_rfl) (by kernel_rfl) (by kernel_rfl) ?hq51xA (Or.inl ⟨?hw51xA, ?hy51xA⟩) (by assumption) ?rest51xA
  case hi51xA => simp only [List.getElem?_toArray, List.getElem?_cons_succ, List.getElem?_cons_zero]; rfl
  case hq51xA => exact fun _ _ _ h => h
  case hw51xA => rfl
  case hy51xA => (intro w hSw; (try dsimp only at hSw); obtain ⟨hs0, hs1, hs2⟩ := hSw; go_simp; (try (with_reducible rfl)))
  (try simp only [Act.put, List.setIfInBounds_toArray, List.set_cons_zero, List.set_cons_succ])
  refine wpAnyH_take (i := 52) (oi := ?oi52xA) (v := ?v52xA) ?hi52xA (by kernel_rfl) (by kernel_rfl) (by kernel_rfl) ?hq52xA (Or.inl ⟨?hw52xA, ?hy52xA⟩) (by assumption) ?rest52xA
  case hi52xA => simp only [List.getElem?_toArray, List.getElem?_cons_succ, List.getElem?_cons_zero]; rfl
  case hq52xA => exact fun _ _ _ h => h
  case hw52xA => rfl
  case hy52xA => (intro w hSw; (try dsimp only at hSw); obtain ⟨hs0, hs1, hs2⟩ := hSw; go_simp; (try (with_reducible rfl)))
  (try simp only [Act.put, List.setIfInBounds_toArray, List.set_cons_zero, List.set_cons_succ])
  refine wpAnyH_take (i := 53) (oi := ?oi53xA) (v := ?v53xA) ?hi53xA (by kernel_rfl) (by kernel_rfl) (by kernel_rfl) ?hq53xA (Or.inl ⟨?hw53xA, ?hy53xA⟩) (by assumption) ?rest53xA
  case hi53xA => simp only [List.getElem?_toArray, List.getElem?_cons_succ, List.getElem?_cons_zero]; rfl
  case hq53xA => exact fun _ _ _ h => h
  case hw53xA => rfl
  case hy53xA => (intro w hSw; (try dsimp only at hSw); obtain ⟨hs0, hs1, hs2⟩ := hSw; go_simp; (try (with_reducible rfl)))
  (try simp only [Act.put, List.setIfInBounds_toArray, List.set_cons_zero, List.set_cons_succ])
  refine wpAnyH_take (i := 54) (oi := ?oi54xA) (v := ?v54xA) ?hi54xA (by kernel_rfl) (by kernel_rfl) (by kernel_rfl) ?hq54xA (Or.inl ⟨?hw54xA, ?hy54xA⟩) (by assumption) ?rest54xA
  case hi54xA => simp only [List.getElem?_toArray, List.getElem?_cons_succ, List.getElem?_cons_zero]; rfl
  case hq54xA => exact fun _ _ _ h => h
  case hw54xA => rfl
  case hy54xA => (intro w hSw; (try dsimp only at hSw); obtain ⟨hs0, hs1, hs2⟩ := hSw; go_simp; (try (with_reducible rfl)))
  (try simp only [Act.put, List.setIfInBounds_toArray, List.set_cons_zero, List.set_cons_succ])
  refine wpAnyH_take (i := 55) (oi := ?oi55xA) (v := ?v55xA) ?hi55xA (by kernel_rfl) (by kernel_rfl) (by kernel_rfl) ?hq55xA (Or.inl ⟨?hw55xA, ?hy55xA⟩) (by assumption) ?rest55xA
  case hi55xA => simp only [List.getElem?_toArray, List.getElem?_cons_succ, List.getElem?_cons_zero]; rfl
  case hq55xA => exact fun _ _ _ h => h
  case hw55xA => rfl
  case hy55xA => (intro w hSw; (try dsimp only at hSw); obtain ⟨hs0, hs1, hs2⟩ := hSw; go_simp; (try (with_reducible rfl)))
  (try simp only [Act.put, List.setIfInBounds_toArray, List.set_cons_zero, List.set_cons_succ])
  refine wpAnyH_take (i := 56) (oi := ?oi56xA) (v := ?v56xA) ?hi56xA (by kernel_rfl) (by kernel_rfl) (by kernel_rfl) ?hq56xA (Or.inl ⟨?hw56xA, ?hy56xA⟩) (by assumption) ?rest56xA
  case hi56xA => simp only [List.getElem?_toArray, List.getElem?_cons_succ, List.getElem?_cons_zero]; rfl
  case hq56xA => exact fun _ _ _ h => h
  case hw56xA => rfl
  case hy56xA => (intro w hSw; (try dsimp only at hSw); obtain ⟨hs0, hs1, hs2⟩ := hSw; go_simp; (try (with_reducible rfl)))
  (try simp only [Act.put, List.setIfInBounds_toArray, List.set_cons_zero, List.set_cons_succ])
  refine wpAnyH_done (by kernel_rfl) (NoPanic.normal ?_) _
  exact HD.out _ T12.out _ _ _ _ _ _ _ _ _ _ _ _ _ _ _ _ _ _ _ _ _ _ _ _ _ _ _ _ _ _ _ _ _ _ _ _ _ _ _ _ _ _ _ _ _ _ _ _ _ _ _ _ _ _ _ _
end Go.Proofs.Ytcbphfpfdfgehaa
