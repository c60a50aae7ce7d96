/-
  TimerPlays' switch by the kinds of the calls. No conditions but what the loop lays.
-/
import Derived.Test.YtcbphfpfdfgehaaTViewO
import Derived.Test.YtcbphfpfdfgehaaLawPl0
import Derived.Test.YtcbphfpfdfgehaaLawPlR
import Derived.Deep.DeepCutAuto
import Derived.Deep.CutBlock
namespace Go.Proofs.Ytcbphfpfdfgehaa
open Go.ChangeShapes Go.WideShapes Go.ChangeAt Go.RowKit

/-- A block of a function's code, by its number. -/
def findK (n : Nat) : Code → Option Code
  | .block i y => if (i == n) = true then some (.block i y) else findK n y
  | .cond _ x y => match findK n x with
    | some z => some z
    | none => findK n y
  | .seq x y => match findK n x with
    | some z => some z
    | none => findK n y
  | .loop x => findK n x
  | .scope x => findK n x
  | _ => none
noncomputable def blkP (n : Nat) : Code := (Try.f4.body.bind (findK n)).getD .skip

set_option linter.unusedVariables false
set_option maxRecDepth 100000 in
set_option maxHeartbeats 60000000 in
theorem plsw {w W : World} {c x ob : Nat} {most na kind key n : Int} {L : List En} (Q : Exit → Act → World → Prop)
    (u0 u1 u2 u3 u4 u7 u9 u10 u11 u12 u13 u14 u15 u16 u17 u18 u19 u20 u21 u22 u23 u24 u25 u26 u27 u28 u29 u30 u31 u32 u33 u34 u35 u36 u37 u38 u39 u40 u41 u42 u43 u44 u45 u46 u47 u48 u49 u50 u51 u52 u53 u54 u55 u56 u57 u58 u59 u60 u61 u62 u64 u65 u66 u67 u68 u69 u70 u71 u72 u73 u74 u75 u76 u77 u78 u79 u80 u81 u82 u83 u84 u85 u86 u87 u88 u89 u90 u91 u92 u93 u94 u95 u96 u97 u98 u99 u100 u101 u102 u103 u104 u105 u106 u107 u108 u109 u110 u111 u112 u113 u114 u115 u116 u117 u118 u119 u120 u121 u122 u123 u124 u125 u126 u127 u128 u129 u130 u131 u132 u133 u134 u135 u136 u137 u138 u139 u140 u141 u142 u143 u144 u145 u146 u147 u148 u149 u150 u151 u152 u153 u154 u155 u156 u157 u158 u159 u160 u161 u162 u163 u164 u165 u166 u167 u168 u169 u170 u171 u172 u173 u174 u175 u176 u177 u178 u179 u180 u181 u182 u183 u184 u185 u186 u187 u188 u189 u190 u191 u192 u193 u194 u195 u196 u197 u198 u199 u200 u201 u202 u203 u204 u205 u206 u207 u208 u209 u210 u211 u212 u213 u214 u215 u216 u217 u218 u219 u220 u221 u222 u223 u224 u225 u226 u227 u228 u229 u230 u231 u232 u233 u234 u235 u236 u237 u238 u239 u240 u241 u242 u243 u244 u245 u246 u247 u248 u249 u250 u251 u252 u253 u254 u255 u256 u257 u258 u259 u260 u261 u262 u263 u264 u265 u266 u267 u268 : Value)
    (H5 : Hid (PB w W c x most na L na L ob kind key n NoBlock))
    (HRT : Hid (Right L ∧ L.length ≤ 65536 ∧ 0 ≤ na ∧ na ≤ 1099511627776))
    (HFK : Hid (fit kind ∧ fit key ∧ fit n))
    (HD : Hid (∀ (na' : Int) (L' : List En) (w' : World), PB w w' c x most na' L' na' L' ob kind key n NoBlock → ∀ y9 y10 y11 y12 y13 y14 y15 y16 y17 y18 y64 y65 y66 y67 y68 y69 y70 y71 y72 y73 y74 y75 y76 y77 y78 y79 y80 y81 y82 y83 y84 y85 y86 y87 y88 y89 y90 y91 y92 y93 y94 y95 y96 y97 y98 y99 y100 y101 y102 y103 y104 y105 y106 y107 y108 y109 y110 y111 y112 y113 y114 y115 y116 y117 y118 y119 y120 y121 y122 y123 y124 y125 y126 y127 y128 y129 y130 y131 y132 y133 y134 y135 y136 y137 y138 y139 y140 y141 y142 : Value, Q Exit.normal ⟨(u0 :: u1 :: u2 :: u3 :: u4 :: .pointer (some ⟨c, 0, none⟩) :: .pointer (some ⟨x, 0, none⟩) :: u7 :: .pointer (some ⟨ob, 0, none⟩) :: y9 :: y10 :: y11 :: y12 :: y13 :: y14 :: y15 :: y16 :: y17 :: y18 :: u19 :: u20 :: u21 :: u22 :: u23 :: u24 :: u25 :: u26 :: u27 :: u28 :: u29 :: u30 :: u31 :: u32 :: u33 :: u34 :: u35 :: u36 :: u37 :: u38 :: u39 :: u40 :: u41 :: u42 :: u43 :: u44 :: u45 :: u46 :: u47 :: u48 :: u49 :: u50 :: u51 :: u52 :: u53 :: u54 :: u55 :: u56 :: u57 :: u58 :: u59 :: u60 :: u61 :: u62 :: .int .i64 kind :: y64 :: y65 :: y66 :: y67 :: y68 :: y69 :: y70 :: y71 :: y72 :: y73 :: y74 :: y75 :: y76 :: y77 :: y78 :: y79 :: y80 :: y81 :: y82 :: y83 :: y84 :: y85 :: y86 :: y87 :: y88 :: y89 :: y90 :: y91 :: y92 :: y93 :: y94 :: y95 :: y96 :: y97 :: y98 :: y99 :: y100 :: y101 :: y102 :: y103 :: y104 :: y105 :: y106 :: y107 :: y108 :: y109 :: y110 :: y111 :: y112 :: y113 :: y114 :: y115 :: y116 :: y117 :: y118 :: y119 :: y120 :: y121 :: y122 :: y123 :: y124 :: y125 :: y126 :: y127 :: y128 :: y129 :: y130 :: y131 :: y132 :: y133 :: y134 :: y135 :: y136 :: y137 :: y138 :: y139 :: y140 :: y141 :: y142 :: u143 :: u144 :: u145 :: u146 :: u147 :: u148 :: u149 :: u150 :: u151 :: u152 :: u153 :: u154 :: u155 :: u156 :: u157 :: u158 :: u159 :: u160 :: u161 :: u162 :: u163 :: u164 :: u165 :: u166 :: u167 :: u168 :: u169 :: u170 :: u171 :: u172 :: u173 :: u174 :: u175 :: u176 :: u177 :: u178 :: u179 :: u180 :: u181 :: u182 :: u183 :: u184 :: u185 :: u186 :: u187 :: u188 :: u189 :: u190 :: u191 :: u192 :: u193 :: u194 :: u195 :: u196 :: u197 :: u198 :: u199 :: u200 :: u201 :: u202 :: u203 :: u204 :: u205 :: u206 :: u207 :: u208 :: u209 :: u210 :: u211 :: u212 :: u213 :: u214 :: u215 :: u216 :: u217 :: u218 :: u219 :: u220 :: u221 :: u222 :: u223 :: u224 :: u225 :: u226 :: u227 :: u228 :: u229 :: u230 :: u231 :: u232 :: u233 :: u234 :: u235 :: u236 :: u237 :: u238 :: u239 :: u240 :: u241 :: u242 :: u243 :: u244 :: u245 :: u246 :: u247 :: u248 :: u249 :: u250 :: u251 :: u252 :: u253 :: u254 :: u255 :: u256 :: u257 :: u258 :: u259 :: u260 :: u261 :: u262 :: u263 :: u264 :: u265 :: u266 :: u267 :: u268 :: [] : List Value).toArray, []⟩ w')) :
    Code.wp Try.prog (blkP 2) Q ⟨(u0 :: u1 :: u2 :: u3 :: u4 :: .pointer (some ⟨c, 0, none⟩) :: .pointer (some ⟨x, 0, none⟩) :: u7 :: .pointer (some ⟨ob, 0, none⟩) :: u9 :: u10 :: u11 :: u12 :: u13 :: u14 :: u15 :: u16 :: u17 :: u18 :: u19 :: u20 :: u21 :: u22 :: u23 :: u24 :: u25 :: u26 :: u27 :: u28 :: u29 :: u30 :: u31 :: u32 :: u33 :: u34 :: u35 :: u36 :: u37 :: u38 :: u39 :: u40 :: u41 :: u42 :: u43 :: u44 :: u45 :: u46 :: u47 :: u48 :: u49 :: u50 :: u51 :: u52 :: u53 :: u54 :: u55 :: u56 :: u57 :: u58 :: u59 :: u60 :: u61 :: u62 :: .int .i64 kind :: u64 :: u65 :: u66 :: u67 :: u68 :: u69 :: u70 :: u71 :: u72 :: u73 :: u74 :: u75 :: u76 :: u77 :: u78 :: u79 :: u80 :: u81 :: u82 :: u83 :: u84 :: u85 :: u86 :: u87 :: u88 :: u89 :: u90 :: u91 :: u92 :: u93 :: u94 :: u95 :: u96 :: u97 :: u98 :: u99 :: u100 :: u101 :: u102 :: u103 :: u104 :: u105 :: u106 :: u107 :: u108 :: u109 :: u110 :: u111 :: u112 :: u113 :: u114 :: u115 :: u116 :: u117 :: u118 :: u119 :: u120 :: u121 :: u122 :: u123 :: u124 :: u125 :: u126 :: u127 :: u128 :: u129 :: u130 :: u131 :: u132 :: u133 :: u134 :: u135 :: u136 :: u137 :: u138 :: u139 :: u140 :: u141 :: u142 :: u143 :: u144 :: u145 :: u146 :: u147 :: u148 :: u149 :: u150 :: u151 :: u152 :: u153 :: u154 :: u155 :: u156 :: u157 :: u158 :: u159 :: u160 :: u161 :: u162 :: u163 :: u164 :: u165 :: u166 :: u167 :: u168 :: u169 :: u170 :: u171 :: u172 :: u173 :: u174 :: u175 :: u176 :: u177 :: u178 :: u179 :: u180 :: u181 :: u182 :: u183 :: u184 :: u185 :: u186 :: u187 :: u188 :: u189 :: u190 :: u191 :: u192 :: u193 :: u194 :: u195 :: u196 :: u197 :: u198 :: u199 :: u200 :: u201 :: u202 :: u203 :: u204 :: u205 :: u206 :: u207 :: u208 :: u209 :: u210 :: u211 :: u212 :: u213 :: u214 :: u215 :: u216 :: u217 :: u218 :: u219 :: u220 :: u221 :: u222 :: u223 :: u224 :: u225 :: u226 :: u227 :: u228 :: u229 :: u230 :: u231 :: u232 :: u233 :: u234 :: u235 :: u236 :: u237 :: u238 :: u239 :: u240 :: u241 :: u242 :: u243 :: u244 :: u245 :: u246 :: u247 :: u248 :: u249 :: u250 :: u251 :: u252 :: u253 :: u254 :: u255 :: u256 :: u257 :: u258 :: u259 :: u260 :: u261 :: u262 :: u263 :: u264 :: u265 :: u266 :: u267 :: u268 :: [] : List Value).toArray, []⟩ W := by
  conv => arg 2; whnf
  obtain ⟨m1, m2⟩ := H5.out.bx.cells
  by_cases q1 : kind = 1
  · have b1 : (kind == 1) = true := by simpa using q1
    have c5 := H5.out.pl.set key n HFK.out.2.1 HFK.out.2.2
    have c6 := fun (W6 : World) (L' : List En) (h6 : PB w W6 c x most na L' na L ob kind key n NoBlock) => h6.pl.rset HRT.out.1 HRT.out.2.1 key n HFK.out.2.1 HFK.out.2.2
    obtain ⟨sb, hsb⟩ : ∃ sb, setB na n = sb := ⟨_, rfl⟩
    obtain ⟨ss, hss⟩ : ∃ ss, setS most na L key n = ss := ⟨_, rfl⟩
    rw [hsb, hss] at c5 c6
    have C5 := Lib.hid c5
    have C6 := Lib.hid c6
    clear c5 c6 hsb hss q1
    go_wp2_with (first
      | (go_at_call 23; (with_reducible refine C5.out.mono ?_); rintro e w5 ⟨rfl, k5, p5⟩; have h6 := H5.out.kp k5 p5; obtain ⟨v1, v2⟩ := h6.bx.cells; have H6 := Lib.hid h6; clear h6 k5 p5)
      | (go_at_call 24; (with_reducible refine (C6.out _ _ H6.out).mono ?_); rintro e w6 ⟨rfl, k6, t6⟩; have H7 := Lib.hid (H6.out.tx k6 t6); clear k6 t6))
    exact HD.out _ _ _ H7.out _ _ _ _ _ _ _ _ _ _ _ _ _ _ _ _ _ _ _ _ _ _ _ _ _ _ _ _ _ _ _ _ _ _ _ _ _ _ _ _ _ _ _ _ _ _ _ _ _ _ _ _ _ _ _ _ _ _ _ _ _ _ _ _ _ _ _ _ _ _ _ _ _ _ _ _ _ _ _ _ _ _ _ _ _ _ _ _ _
  · by_cases q2 : kind = 2
    · have b1 : (kind == 1) = false := by simpa using q1
      have b2 : (kind == 2) = true := by simpa using q2
      obtain ⟨i, hi⟩ : ∃ i, At L key i := ⟨_, at_ex L key⟩
      have c5 := H5.out.pl.cancel key HFK.out.2.1
      have c6 := fun (W6 : World) (L' : List En) (h6 : PB w W6 c x most na L' na L ob kind key n NoBlock) => h6.pl.rfind key i hi
      have c7 := fun (W6 : World) (L' : List En) (h6 : PB w W6 c x most na L' na L ob kind key n NoBlock) => h6.pl.rdrop HRT.out.1 key i hi
      have hh := hi.has
      unfold canS at c5
      unfold fndI at c6 c7
      by_cases hil : i < L.length
      · rw [decide_eq_true hil] at hh
        rw [hh, if_pos rfl] at c5
        simp only [if_pos hil] at c6 c7
        have C5 := Lib.hid c5
        have C6 := Lib.hid c6
        have C7 := Lib.hid c7
        have hig : (0 : Int) ≤ (i : Int) := by omega
        clear c5 c6 c7 hh hi q1 q2
        go_wp2_with (first
          | (go_at_call 25; (with_reducible refine C5.out.mono ?_); rintro e w5 ⟨rfl, k5, p5⟩; have h6 := H5.out.kp k5 p5; obtain ⟨v1, v2⟩ := h6.bx.cells; have H6 := Lib.hid h6; clear h6 k5 p5)
          | (go_at_call 26; (with_reducible refine (C6.out _ _ H6.out).mono ?_); rintro e w6 ⟨rfl, rfl⟩)
          | (go_at_call 27; (with_reducible refine (C7.out _ _ H6.out).mono ?_); rintro e w7 ⟨rfl, k7, t7⟩; have H7 := Lib.hid (H6.out.tx k7 t7); clear k7 t7))
        exact HD.out _ _ _ H7.out _ _ _ _ _ _ _ _ _ _ _ _ _ _ _ _ _ _ _ _ _ _ _ _ _ _ _ _ _ _ _ _ _ _ _ _ _ _ _ _ _ _ _ _ _ _ _ _ _ _ _ _ _ _ _ _ _ _ _ _ _ _ _ _ _ _ _ _ _ _ _ _ _ _ _ _ _ _ _ _ _ _ _ _ _ _ _ _ _
      · rw [decide_eq_false hil] at hh
        rw [hh, if_neg (by simp)] at c5
        simp only [if_neg hil] at c6 c7
        have C5 := Lib.hid c5
        have C6 := Lib.hid c6
        have C7 := Lib.hid c7
        clear c5 c6 c7 hh hi q1 q2
        go_wp2_with (first
          | (go_at_call 25; (with_reducible refine C5.out.mono ?_); rintro e w5 ⟨rfl, k5, p5⟩; have h6 := H5.out.kp k5 p5; obtain ⟨v1, v2⟩ := h6.bx.cells; have H6 := Lib.hid h6; clear h6 k5 p5)
          | (go_at_call 26; (with_reducible refine (C6.out _ _ H6.out).mono ?_); rintro e w6 ⟨rfl, rfl⟩)
          | (go_at_call 27; (with_reducible refine (C7.out _ _ H6.out).mono ?_); rintro e w7 ⟨rfl, k7, t7⟩; have H7 := Lib.hid (H6.out.tx k7 t7); clear k7 t7))
        exact HD.out _ _ _ H7.out _ _ _ _ _ _ _ _ _ _ _ _ _ _ _ _ _ _ _ _ _ _ _ _ _ _ _ _ _ _ _ _ _ _ _ _ _ _ _ _ _ _ _ _ _ _ _ _ _ _ _ _ _ _ _ _ _ _ _ _ _ _ _ _ _ _ _ _ _ _ _ _ _ _ _ _ _ _ _ _ _ _ _ _ _ _ _ _ _
    · by_cases q3 : kind = 3
      · have b1 : (kind == 1) = false := by simpa using q1
        have b2 : (kind == 2) = false := by simpa using q2
        have b3 : (kind == 3) = true := by simpa using q3
        by_cases hbad : n < 0 ∨ 1099511627776 - na < n
        · have CI := Lib.hid (fun W => ints_eq W (.slice none 0 0) (.slice none 0 0) [] (by simp) (wrow_nil W 3 1) (wrow_nil W 3 1))
          have C5 := Lib.hid (H5.out.pl.advance_no n hbad)
          have C6 := Lib.hid (H5.out.pl.radvance_no HRT.out.2.2 n hbad)
          clear hbad q1 q2 q3
          go_wp2_with (first
            | (go_at_call 28; (with_reducible refine C5.out.mono ?_); rintro e w5 ⟨rfl, rfl⟩)
            | (go_at_call 29; (with_reducible refine C6.out.mono ?_); rintro e w6 ⟨rfl, rfl⟩)
            | (go_at_call 30; (with_reducible refine (CI.out _).mono ?_); rintro e w7 ⟨rfl, t7⟩; have H7 := Lib.hid (H5.out.past t7); clear t7))
          exact HD.out _ _ _ H7.out _ _ _ _ _ _ _ _ _ _ _ _ _ _ _ _ _ _ _ _ _ _ _ _ _ _ _ _ _ _ _ _ _ _ _ _ _ _ _ _ _ _ _ _ _ _ _ _ _ _ _ _ _ _ _ _ _ _ _ _ _ _ _ _ _ _ _ _ _ _ _ _ _ _ _ _ _ _ _ _ _ _ _ _ _ _ _ _ _
        · obtain ⟨na', hna⟩ : ∃ na', na + n = na' := ⟨_, rfl⟩
          have hB := Lib.hid (show 0 ≤ n ∧ na' ≤ 1099511627776 by omega)
          have C5 := Lib.hid (H5.out.pl.advance n na' hB.out.1 hna hB.out.2)
          have C6 := Lib.hid (fun (W6 : World) (L' : List En) (X : Nat → Prop) (h6 : PB w W6 c x most na' L' na L ob kind key n X) => h6.pl.radvance HRT.out.2.2 n na' hB.out.1 hna hB.out.2)
          have HLE := Lib.hid (show (keysOf (gone L na')).length ≤ 1000000000 from by
            have h8 := congrArg List.length (gone_rest L na')
            rw [List.length_append] at h8
            have := HRT.out.2.1
            unfold keysOf
            rw [List.length_map]
            omega)
          clear hbad q1 q2 q3 hna
          go_wp2_with (first
            | (go_at_call 28; (with_reducible refine C5.out.mono ?_); rintro e w5 ⟨v5, rfl, n5, k5, p5⟩; have h6 := H5.out.kp (Y := Blk v5) (k5.fewer (fun q hq => hq.elim (fun h => .inl (.inl h)) .inr)) p5; obtain ⟨v1, v2⟩ := h6.bx.cells; have H6 := Lib.hid h6; have N5 := Lib.hid n5; clear h6 k5 p5 n5)
            | (go_at_call 29; (with_reducible refine (C6.out _ _ _ H6.out).mono ?_); rintro e w6 ⟨v6, rfl, n6, k6, t6⟩; have N6 := Lib.hid (And.intro n6 (N5.out.kept t6 (fun q hq => H6.out.pl.off (.inr hq)))); have H7 := Lib.hid ((H6.out.tx k6 t6).fewer (Y := NoBlock) (fun _ h => h.elim)); clear k6 t6 n6)
            | (go_at_call 30; (with_reducible refine (ints_eq _ _ _ _ HLE.out N6.out.2 N6.out.1).mono ?_); rintro e w7 ⟨rfl, t7⟩; have H8 := Lib.hid (H7.out.past t7); clear t7))
          exact HD.out _ _ _ H8.out _ _ _ _ _ _ _ _ _ _ _ _ _ _ _ _ _ _ _ _ _ _ _ _ _ _ _ _ _ _ _ _ _ _ _ _ _ _ _ _ _ _ _ _ _ _ _ _ _ _ _ _ _ _ _ _ _ _ _ _ _ _ _ _ _ _ _ _ _ _ _ _ _ _ _ _ _ _ _ _ _ _ _ _ _ _ _ _ _
      · have b1 : (kind == 1) = false := by simpa using q1
        have b2 : (kind == 2) = false := by simpa using q2
        have b3 : (kind == 3) = false := by simpa using q3
        clear q1 q2 q3
        go_wp2_with fail
        exact HD.out _ _ _ H5.out _ _ _ _ _ _ _ _ _ _ _ _ _ _ _ _ _ _ _ _ _ _ _ _ _ _ _ _ _ _ _ _ _ _ _ _ _ _ _ _ _ _ _ _ _ _ _ _ _ _ _ _ _ _ _ _ _ _ _ _ _ _ _ _ _ _ _ _ _ _ _ _ _ _ _ _ _ _ _ _ _ _ _ _ _ _ _ _ _
end Go.Proofs.Ytcbphfpfdfgehaa
