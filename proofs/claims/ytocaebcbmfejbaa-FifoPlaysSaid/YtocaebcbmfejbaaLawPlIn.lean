/-
  FifoPlays' inner loop: what both show of either end. No conditions but what the loop lays.
-/
import Derived.Test.YtocaebcbmfejbaaLawPlC
import Derived.Deep.DeepCutAuto
import Derived.Deep.LoopGhost
import Derived.Deep.RegionHeld3
import Derived.BigQuiet
namespace Go.Proofs.Ytocaebcbmfejbaa
open Go.ChangeShapes Go.WideShapes Go.ChangeAt Go.RowKit

set_option linter.unusedVariables false
set_option maxRecDepth 100000 in
set_option maxHeartbeats 60000000 in
theorem qlin {w W : World} {c x count size i : Nat} {K : Nat → Re} {p : Option Addr} (len cap : Nat) (Q : Exit → Act → World → Prop)
    (u3 u4 u5 u6 u9 u10 u11 u12 u13 u14 u15 u16 u17 u18 u19 u20 u21 u22 u23 u24 u25 u26 u27 u28 u29 u30 u31 u32 u33 u34 u35 u36 u37 u38 u39 u40 u41 u42 u43 u44 u45 u46 u47 u48 u49 u50 u51 u52 u56 u57 u58 u59 u60 u61 u62 u63 u64 u65 u66 u67 u68 u69 u70 u71 u72 u73 u74 u75 u76 u77 u78 u79 u80 u81 u82 u83 u84 u85 u86 u87 u88 u89 u90 u91 u92 u93 u94 u95 u96 u97 u98 u99 u100 u101 u102 u103 u104 u105 u106 u107 u108 u109 u110 u111 u112 u113 u114 u115 u116 u117 u118 u119 u120 u121 u122 u123 u124 u125 u126 u127 u128 u129 u130 u131 u132 u133 u134 u135 u136 u137 u138 u139 u140 u141 u142 u143 u144 u145 u146 u147 u148 u149 u150 u151 u152 u153 u154 u155 u156 u157 u158 u159 u160 u161 u162 u163 u164 u165 u166 u167 u168 u169 u170 u171 u172 u173 u174 u175 u176 u177 u178 u179 u180 u181 u182 u183 u184 u185 u186 u187 u188 u189 u190 u191 u192 u193 u194 u195 u196 u197 u198 u199 u200 u201 u202 u204 u205 u206 u207 u208 u209 u210 u211 u212 u213 u214 u215 u216 u217 u218 u219 u220 u221 u222 u223 u224 u225 u226 u227 u228 u229 u230 u231 u232 u233 u234 u235 u236 u237 u238 u239 u240 u241 u242 u243 u244 u245 u246 u247 u248 u249 u250 u251 u252 u253 u254 u255 : Value)
    (HS : Hid (PSx w W c x count size NoBlock K K))
    (HD : Hid (∀ (w' : World), PSx w w' c x count size NoBlock K K → ∀ y6 y24 y203 y204 y205 y206 y207 y208 y209 y210 y211 y212 y213 y214 y215 y216 y217 y218 y219 y220 y221 y222 y223 y224 y225 y226 y227 y228 y229 y230 y231 y232 y233 y234 y235 y236 y237 y238 : Value, Q Exit.normal ⟨(.int .i64 (count : Int) :: .int .i64 (size : Int) :: .slice p len cap :: u3 :: u4 :: u5 :: y6 :: .pointer (some ⟨c, 0, none⟩) :: .pointer (some ⟨x, 0, none⟩) :: u9 :: u10 :: u11 :: u12 :: u13 :: u14 :: u15 :: u16 :: u17 :: u18 :: u19 :: u20 :: u21 :: u22 :: u23 :: y24 :: u25 :: u26 :: u27 :: u28 :: u29 :: u30 :: u31 :: u32 :: u33 :: u34 :: u35 :: u36 :: u37 :: u38 :: u39 :: u40 :: u41 :: u42 :: u43 :: u44 :: u45 :: u46 :: u47 :: u48 :: u49 :: u50 :: u51 :: u52 :: .slice p len cap :: .int .i64 (len : Int) :: .int .i64 (i : Int) :: u56 :: u57 :: u58 :: u59 :: u60 :: u61 :: u62 :: u63 :: u64 :: u65 :: u66 :: u67 :: u68 :: u69 :: u70 :: u71 :: u72 :: u73 :: u74 :: u75 :: u76 :: u77 :: u78 :: u79 :: u80 :: u81 :: u82 :: u83 :: u84 :: u85 :: u86 :: u87 :: u88 :: u89 :: u90 :: u91 :: u92 :: u93 :: u94 :: u95 :: u96 :: u97 :: u98 :: u99 :: u100 :: u101 :: u102 :: u103 :: u104 :: u105 :: u106 :: u107 :: u108 :: u109 :: u110 :: u111 :: u112 :: u113 :: u114 :: u115 :: u116 :: u117 :: u118 :: u119 :: u120 :: u121 :: u122 :: u123 :: u124 :: u125 :: u126 :: u127 :: u128 :: u129 :: u130 :: u131 :: u132 :: u133 :: u134 :: u135 :: u136 :: u137 :: u138 :: u139 :: u140 :: u141 :: u142 :: u143 :: u144 :: u145 :: u146 :: u147 :: u148 :: u149 :: u150 :: u151 :: u152 :: u153 :: u154 :: u155 :: u156 :: u157 :: u158 :: u159 :: u160 :: u161 :: u162 :: u163 :: u164 :: u165 :: u166 :: u167 :: u168 :: u169 :: u170 :: u171 :: u172 :: u173 :: u174 :: u175 :: u176 :: u177 :: u178 :: u179 :: u180 :: u181 :: u182 :: u183 :: u184 :: u185 :: u186 :: u187 :: u188 :: u189 :: u190 :: u191 :: u192 :: u193 :: u194 :: u195 :: u196 :: u197 :: u198 :: u199 :: u200 :: u201 :: u202 :: y203 :: y204 :: y205 :: y206 :: y207 :: y208 :: y209 :: y210 :: y211 :: y212 :: y213 :: y214 :: y215 :: y216 :: y217 :: y218 :: y219 :: y220 :: y221 :: y222 :: y223 :: y224 :: y225 :: y226 :: y227 :: y228 :: y229 :: y230 :: y231 :: y232 :: y233 :: y234 :: y235 :: y236 :: y237 :: y238 :: u239 :: u240 :: u241 :: u242 :: u243 :: u244 :: u245 :: u246 :: u247 :: u248 :: u249 :: u250 :: u251 :: u252 :: u253 :: u254 :: u255 :: [] : List Value).toArray, []⟩ w')) :
    Code.wp Try.prog (blockP 204) Q ⟨(.int .i64 (count : Int) :: .int .i64 (size : Int) :: .slice p len cap :: u3 :: u4 :: u5 :: u6 :: .pointer (some ⟨c, 0, none⟩) :: .pointer (some ⟨x, 0, none⟩) :: u9 :: u10 :: u11 :: u12 :: u13 :: u14 :: u15 :: u16 :: u17 :: u18 :: u19 :: u20 :: u21 :: u22 :: u23 :: u24 :: u25 :: u26 :: u27 :: u28 :: u29 :: u30 :: u31 :: u32 :: u33 :: u34 :: u35 :: u36 :: u37 :: u38 :: u39 :: u40 :: u41 :: u42 :: u43 :: u44 :: u45 :: u46 :: u47 :: u48 :: u49 :: u50 :: u51 :: u52 :: .slice p len cap :: .int .i64 (len : Int) :: .int .i64 (i : Int) :: u56 :: u57 :: u58 :: u59 :: u60 :: u61 :: u62 :: u63 :: u64 :: u65 :: u66 :: u67 :: u68 :: u69 :: u70 :: u71 :: u72 :: u73 :: u74 :: u75 :: u76 :: u77 :: u78 :: u79 :: u80 :: u81 :: u82 :: u83 :: u84 :: u85 :: u86 :: u87 :: u88 :: u89 :: u90 :: u91 :: u92 :: u93 :: u94 :: u95 :: u96 :: u97 :: u98 :: u99 :: u100 :: u101 :: u102 :: u103 :: u104 :: u105 :: u106 :: u107 :: u108 :: u109 :: u110 :: u111 :: u112 :: u113 :: u114 :: u115 :: u116 :: u117 :: u118 :: u119 :: u120 :: u121 :: u122 :: u123 :: u124 :: u125 :: u126 :: u127 :: u128 :: u129 :: u130 :: u131 :: u132 :: u133 :: u134 :: u135 :: u136 :: u137 :: u138 :: u139 :: u140 :: u141 :: u142 :: u143 :: u144 :: u145 :: u146 :: u147 :: u148 :: u149 :: u150 :: u151 :: u152 :: u153 :: u154 :: u155 :: u156 :: u157 :: u158 :: u159 :: u160 :: u161 :: u162 :: u163 :: u164 :: u165 :: u166 :: u167 :: u168 :: u169 :: u170 :: u171 :: u172 :: u173 :: u174 :: u175 :: u176 :: u177 :: u178 :: u179 :: u180 :: u181 :: u182 :: u183 :: u184 :: u185 :: u186 :: u187 :: u188 :: u189 :: u190 :: u191 :: u192 :: u193 :: u194 :: u195 :: u196 :: u197 :: u198 :: u199 :: u200 :: u201 :: u202 :: .int .i64 0 :: u204 :: u205 :: u206 :: u207 :: u208 :: u209 :: u210 :: u211 :: u212 :: u213 :: u214 :: u215 :: u216 :: u217 :: u218 :: u219 :: u220 :: u221 :: u222 :: u223 :: u224 :: u225 :: u226 :: u227 :: u228 :: u229 :: u230 :: u231 :: u232 :: u233 :: u234 :: u235 :: u236 :: u237 :: u238 :: u239 :: u240 :: u241 :: u242 :: u243 :: u244 :: u245 :: u246 :: u247 :: u248 :: u249 :: u250 :: u251 :: u252 :: u253 :: u254 :: u255 :: [] : List Value).toArray, []⟩ W := by
  conv => arg 2; whnf
  go_wp2
  go_loopg [203] 2 (fun g s203 wr => ((s203 = .int .i64 0 ∧ g = 2) ∨ (s203 = .int .i64 1 ∧ g = 1) ∨ (s203 = .int .i64 2 ∧ g = 0)) ∧ Hid (PSx w wr c x count size NoBlock K K))
  case atStart => exact ⟨.inl ⟨rfl, rfl⟩, HS⟩
  case round =>
    obtain ⟨three, HL⟩ := hrel
    rcases three with ⟨rfl, hg⟩ | ⟨rfl, hg⟩ | ⟨rfl, hg⟩
    · obtain ⟨G, C, U, Q0, hp⟩ := HL.out
      obtain ⟨p0, ca0, c0, c2, hq⟩ := t_cells0 hp
      have CL := Lib.hid (fun W (t : Turn NoBlock wr W) => t_len0 (hp.past t))
      have CS := Lib.hid (fun W (t : Turn NoBlock wr W) => t_shows0 (hp.past t))
      have CO := Lib.hid (fun W (t : Turn NoBlock wr W) => (hp.past t).k.open0)
      generalize (K 0).op = o at *
      generalize (Q0 0).length = ql at *
      generalize shF count size (K 0) (K 1) = sh at *
      have hbo : (o == !o) = false := by cases o <;> rfl
      simp only [Nat.reduceAdd] at c2
      clear hp
      go_upto_region 47 with (fail)
      go_region_held3 (fun W => W.cell? ⟨x, 2, none⟩ = some (.bool !o) ∧ W.cell? ⟨x, 0, none⟩ = some (.slice p0 ql ca0)) (first | exact ⟨c2, c0⟩ | exact S8.out | exact S9.out) (first
        | (go_at_call 47; (with_reducible refine (CL.out _ (by first | exact Turn.refl _ _ | exact (Turn.refl _ _).drew)).mono ?_); rintro y w2 ⟨rfl, rfl⟩)
        | (go_at_call 48; (with_reducible refine (CO.out _ (by first | exact Turn.refl _ _ | exact (Turn.refl _ _).drew)).mono ?_); rintro y w2 ⟨rfl, rfl⟩)
        | (go_at_call 49; (with_reducible refine (CS.out _ (by first | exact Turn.refl _ _ | exact (Turn.refl _ _).drew)).1.mono ?_); rintro y w8 ⟨rfl, t8⟩; have T8 := Lib.hid (TT (show Turn NoBlock wr wr.drew from (Turn.refl _ _).drew) t8); have S8 := Lib.hid (And.intro (T8.out.cell c2 (fun h => h)) (T8.out.cell c0 (fun h => h))); clear t8)
        | (go_at_call 50; (with_reducible refine (CS.out _ T8.out).2.mono ?_); rintro y w9 ⟨rfl, t9⟩; have T9 := Lib.hid (TT T8.out t9); have S9 := Lib.hid (And.intro (T9.out.cell c2 (fun h => h)) (T9.out.cell c0 (fun h => h))); clear t9))
      go_wp2
      go_roundg 1
      case measure => omega
      case rel => exact ⟨.inr (.inl ⟨by go_num, rfl⟩), Lib.hid (HL.out.past T9.out)⟩
    · obtain ⟨G, C, U, Q0, hp⟩ := HL.out
      obtain ⟨p0, ca0, c0, c2, hq⟩ := t_cells1 hp
      have CL := Lib.hid (fun W (t : Turn NoBlock wr W) => t_len1 (hp.past t))
      have CS := Lib.hid (fun W (t : Turn NoBlock wr W) => t_shows1 (hp.past t))
      have CO := Lib.hid (fun W (t : Turn NoBlock wr W) => (hp.past t).k.open1)
      generalize (K 1).op = o at *
      generalize (Q0 1).length = ql at *
      generalize shF count size (K 1) (K 0) = sh at *
      have hbo : (o == !o) = false := by cases o <;> rfl
      simp only [Nat.reduceAdd] at c2
      clear hp
      go_upto_region 47 with (fail)
      go_region_held3 (fun W => W.cell? ⟨x, 3, none⟩ = some (.bool !o) ∧ W.cell? ⟨x, 1, none⟩ = some (.slice p0 ql ca0)) (first | exact ⟨c2, c0⟩ | exact S8.out | exact S9.out) (first
        | (go_at_call 47; (with_reducible refine (CL.out _ (by first | exact Turn.refl _ _ | exact (Turn.refl _ _).drew)).mono ?_); rintro y w2 ⟨rfl, rfl⟩)
        | (go_at_call 48; (with_reducible refine (CO.out _ (by first | exact Turn.refl _ _ | exact (Turn.refl _ _).drew)).mono ?_); rintro y w2 ⟨rfl, rfl⟩)
        | (go_at_call 49; (with_reducible refine (CS.out _ (by first | exact Turn.refl _ _ | exact (Turn.refl _ _).drew)).1.mono ?_); rintro y w8 ⟨rfl, t8⟩; have T8 := Lib.hid (TT (show Turn NoBlock wr wr.drew from (Turn.refl _ _).drew) t8); have S8 := Lib.hid (And.intro (T8.out.cell c2 (fun h => h)) (T8.out.cell c0 (fun h => h))); clear t8)
        | (go_at_call 50; (with_reducible refine (CS.out _ T8.out).2.mono ?_); rintro y w9 ⟨rfl, t9⟩; have T9 := Lib.hid (TT T8.out t9); have S9 := Lib.hid (And.intro (T9.out.cell c2 (fun h => h)) (T9.out.cell c0 (fun h => h))); clear t9))
      go_wp2
      go_roundg 0
      case measure => omega
      case rel => exact ⟨.inr (.inr ⟨by go_num, rfl⟩), Lib.hid (HL.out.past T9.out)⟩
    · go_wp2
      exact HD.out _ HL.out _ _ _ _ _ _ _ _ _ _ _ _ _ _ _ _ _ _ _ _ _ _ _ _ _ _ _ _ _ _ _ _ _ _ _ _ _ _
end Go.Proofs.Ytocaebcbmfejbaa
