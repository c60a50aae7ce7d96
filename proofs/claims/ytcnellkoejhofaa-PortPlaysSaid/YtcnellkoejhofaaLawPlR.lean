/-
  What PortPlays holds against each other behind each call. No conditions but what the loop lays.
-/
import Derived.Test.YtcnellkoejhofaaLawPlB
import Derived.Deep.DeepCutAuto
import Derived.Deep.RegionHeld3
namespace Go.Proofs.Ytcnellkoejhofaa
open Go.ChangeShapes Go.WideShapes Go.ChangeAt Go.RowKit

set_option linter.unusedVariables false
set_option maxRecDepth 100000 in
set_option maxHeartbeats 60000000 in
theorem plr33 {w W : World} {c x B cnt : Nat} {depth most kind ob ky n : Int} {QQ : List Pk} {Ws : List Wc} (Q : Exit → Act → World → Prop)
    (u0 u1 u2 u3 u4 u5 u6 u9 u12 u13 u14 u15 u17 u18 u19 u20 u21 u22 u23 u24 u25 u26 u27 u28 u29 u30 u31 u32 u33 u34 u35 u36 u37 u38 u39 u40 u41 u42 u43 u44 u45 u46 u47 u48 u49 u50 u51 u52 u53 u54 u55 u56 u57 u58 u59 u60 u61 u62 u63 u64 u65 u66 u67 u68 u69 u70 u71 u72 u73 u74 u75 u76 u77 u78 u79 u80 u81 u82 u83 u84 u85 u86 u87 u88 u89 u90 u91 u92 u93 u94 u95 u96 u97 u98 u99 u100 u101 u102 u103 u104 u105 u106 u107 u108 u109 u110 u111 u112 u113 u114 u115 u116 u117 u118 u119 u120 u121 u122 u123 u124 u125 u126 u127 u128 u129 u130 u131 u132 u133 u134 u135 u136 u137 u138 u139 u140 u141 u142 u143 u144 u145 u146 u147 u148 u149 u150 u151 u152 u153 u154 u155 u156 u157 u158 u159 u160 u161 u162 u163 u164 u165 u166 u167 u168 u169 u170 u171 u172 u173 u174 u175 u176 u177 u178 u179 u180 u181 u182 u183 u184 u185 u186 u187 u188 u189 u190 u191 u192 u193 u194 u195 u196 u197 u198 u199 u200 u201 u202 u203 u204 u205 u206 u207 u208 u209 u210 u211 u212 u213 u214 u215 u216 u217 u218 u219 u220 : Value)
    (H5 : Hid (PB w W c x depth most QQ Ws QQ Ws B kind ob ky n NoBlock)) (HXF : Hid (fit ob)) (HC : Hid ((ofO Ws ob).length = cnt))
    (HD : Hid (∀ (w' : World), Turn NoBlock W w' → ∀ y179 y180 y181 y182 y183 y184 y185 y186 y187 y188 y189 y190 y191 y192 y193 y194 y195 y196 y197 y198 y199 y200 y201 y202 y203 y204 y205 y206 y207 y208 y209 y210 y211 y212 y213 y214 y215 y216 y217 : Value, Q Exit.normal ⟨(u0 :: u1 :: u2 :: u3 :: u4 :: u5 :: u6 :: .pointer (some ⟨c, 0, none⟩) :: .pointer (some ⟨x, 0, none⟩) :: u9 :: .pointer (some ⟨B, 0, none⟩) :: .bool true :: u12 :: u13 :: u14 :: u15 :: .int .i64 (cnt : Int) :: u17 :: u18 :: u19 :: u20 :: u21 :: u22 :: u23 :: u24 :: u25 :: u26 :: u27 :: u28 :: u29 :: u30 :: u31 :: u32 :: u33 :: u34 :: u35 :: u36 :: u37 :: u38 :: u39 :: u40 :: u41 :: u42 :: u43 :: u44 :: u45 :: u46 :: u47 :: u48 :: u49 :: u50 :: u51 :: u52 :: u53 :: u54 :: u55 :: u56 :: u57 :: u58 :: u59 :: u60 :: u61 :: u62 :: u63 :: u64 :: u65 :: u66 :: u67 :: u68 :: u69 :: u70 :: u71 :: u72 :: u73 :: u74 :: u75 :: u76 :: u77 :: u78 :: u79 :: u80 :: u81 :: u82 :: u83 :: u84 :: u85 :: u86 :: u87 :: u88 :: u89 :: u90 :: u91 :: u92 :: u93 :: u94 :: u95 :: u96 :: u97 :: u98 :: u99 :: u100 :: u101 :: u102 :: u103 :: u104 :: u105 :: u106 :: u107 :: u108 :: u109 :: u110 :: u111 :: u112 :: u113 :: u114 :: u115 :: u116 :: u117 :: u118 :: u119 :: u120 :: u121 :: u122 :: u123 :: u124 :: u125 :: u126 :: u127 :: u128 :: u129 :: u130 :: u131 :: u132 :: u133 :: u134 :: u135 :: u136 :: u137 :: u138 :: u139 :: u140 :: u141 :: u142 :: u143 :: u144 :: u145 :: u146 :: u147 :: u148 :: u149 :: u150 :: u151 :: u152 :: u153 :: u154 :: u155 :: u156 :: u157 :: u158 :: u159 :: u160 :: u161 :: u162 :: u163 :: u164 :: u165 :: u166 :: u167 :: u168 :: u169 :: u170 :: u171 :: u172 :: u173 :: u174 :: u175 :: u176 :: u177 :: u178 :: y179 :: y180 :: y181 :: y182 :: y183 :: y184 :: y185 :: y186 :: y187 :: y188 :: y189 :: y190 :: y191 :: y192 :: y193 :: y194 :: y195 :: y196 :: y197 :: y198 :: y199 :: y200 :: y201 :: y202 :: y203 :: y204 :: y205 :: y206 :: y207 :: y208 :: y209 :: y210 :: y211 :: y212 :: y213 :: y214 :: y215 :: y216 :: y217 :: .bool false :: u219 :: u220 :: [] : List Value).toArray, []⟩ w')) :
    Code.wp Try.prog (regP 33) Q ⟨(u0 :: u1 :: u2 :: u3 :: u4 :: u5 :: u6 :: .pointer (some ⟨c, 0, none⟩) :: .pointer (some ⟨x, 0, none⟩) :: u9 :: .pointer (some ⟨B, 0, none⟩) :: .bool true :: u12 :: u13 :: u14 :: u15 :: .int .i64 (cnt : Int) :: u17 :: u18 :: u19 :: u20 :: u21 :: u22 :: u23 :: u24 :: u25 :: u26 :: u27 :: u28 :: u29 :: u30 :: u31 :: u32 :: u33 :: u34 :: u35 :: u36 :: u37 :: u38 :: u39 :: u40 :: u41 :: u42 :: u43 :: u44 :: u45 :: u46 :: u47 :: u48 :: u49 :: u50 :: u51 :: u52 :: u53 :: u54 :: u55 :: u56 :: u57 :: u58 :: u59 :: u60 :: u61 :: u62 :: u63 :: u64 :: u65 :: u66 :: u67 :: u68 :: u69 :: u70 :: u71 :: u72 :: u73 :: u74 :: u75 :: u76 :: u77 :: u78 :: u79 :: u80 :: u81 :: u82 :: u83 :: u84 :: u85 :: u86 :: u87 :: u88 :: u89 :: u90 :: u91 :: u92 :: u93 :: u94 :: u95 :: u96 :: u97 :: u98 :: u99 :: u100 :: u101 :: u102 :: u103 :: u104 :: u105 :: u106 :: u107 :: u108 :: u109 :: u110 :: u111 :: u112 :: u113 :: u114 :: u115 :: u116 :: u117 :: u118 :: u119 :: u120 :: u121 :: u122 :: u123 :: u124 :: u125 :: u126 :: u127 :: u128 :: u129 :: u130 :: u131 :: u132 :: u133 :: u134 :: u135 :: u136 :: u137 :: u138 :: u139 :: u140 :: u141 :: u142 :: u143 :: u144 :: u145 :: u146 :: u147 :: u148 :: u149 :: u150 :: u151 :: u152 :: u153 :: u154 :: u155 :: u156 :: u157 :: u158 :: u159 :: u160 :: u161 :: u162 :: u163 :: u164 :: u165 :: u166 :: u167 :: u168 :: u169 :: u170 :: u171 :: u172 :: u173 :: u174 :: u175 :: u176 :: u177 :: u178 :: u179 :: u180 :: u181 :: u182 :: u183 :: u184 :: u185 :: u186 :: u187 :: u188 :: u189 :: u190 :: u191 :: u192 :: u193 :: u194 :: u195 :: u196 :: u197 :: u198 :: u199 :: u200 :: u201 :: u202 :: u203 :: u204 :: u205 :: u206 :: u207 :: u208 :: u209 :: u210 :: u211 :: u212 :: u213 :: u214 :: u215 :: u216 :: u217 :: u218 :: u219 :: u220 :: [] : List Value).toArray, []⟩ W := by
  conv => arg 2; whnf
  obtain ⟨vq, vw, h1, h2, h3⟩ := H5.out.pp.ex
  obtain ⟨pq, cq, hvq⟩ := WRow.sl h2.q
  obtain ⟨pw, cw, hvw⟩ := WRow.sl h2.ws
  have hql := h1.ok.qlen
  have hwl := h1.ok.wlen
  have CP := (H5.out.past (Turn.refl NoBlock W).drew).pp.packets
  have CS := fun W' v' (r : PRow v' QQ W') (t : Turn NoBlock W W') => same_any W' v' vq QQ r.rdp (h2.past t).q.rdp (by omega)
  have CL := fun W' (t : Turn NoBlock W W') => (H5.out.past t).pp.len
  have CW := fun W' (t : Turn NoBlock W W') => (H5.out.past t).pp.watches
  have CO := fun W' (t : Turn NoBlock W W') => (H5.out.past t).pp.watched ob HXF.out
  have HS := fun W' (t : Turn NoBlock W W') => And.intro (h2.past t).hd.c0 (And.intro (h2.past t).hd.c1 (H5.out.past t).cells.2.1)
  obtain ⟨q, hq⟩ : ∃ q, QQ.length = q := ⟨_, rfl⟩
  obtain ⟨y, hy⟩ : ∃ y, Ws.length = y := ⟨_, rfl⟩
  rw [hq] at hvq hql
  rw [hy] at hvw hwl
  subst hvq hvw
  simp only [hq] at CL
  simp only [hy] at CW
  simp only [HC.out] at CO
  have s0 := HS _ (Turn.refl NoBlock W).drew
  have CPH := Lib.hid CP
  have CSH := Lib.hid CS
  have CLH := Lib.hid CL
  have CWH := Lib.hid CW
  have COH := Lib.hid CO
  have HSH := Lib.hid HS
  have HQ := Lib.hid hq
  clear h1 h2 h3 CP CS CL CW CO HS hq hy
  go_region_held3 (fun W' => W'.cell? ⟨x, 0, none⟩ = some (.slice pq q cq) ∧ W'.cell? ⟨x, 1, none⟩ = some (.slice pw y cw) ∧ W'.cell? ⟨B, 1, none⟩ = some (.int .i64 ob))
    (first | exact s0 | exact s6 | exact s7)
    ((first
      | (go_at_call 23; (with_reducible refine (CPH.out).mono ?_); rintro e w6 ⟨v6, rfl, r6, b6, t6⟩; have T6 := Lib.hid (TT (Turn.refl NoBlock W).drew t6); have s6 := HSH.out _ T6.out; obtain ⟨p6, c6, he6⟩ := WRow.sl r6; rw [HQ.out] at he6; subst he6; have R6 := Lib.hid r6; clear r6 b6 t6)
      | (go_at_call 14; (with_reducible refine (CSH.out _ _ R6.out T6.out).mono ?_); rintro e w7 ⟨rfl, t7⟩; have T7 := Lib.hid (TT T6.out t7); have s7 := HSH.out _ T7.out; clear t7)
      | (go_at_call 24; (with_reducible refine (CLH.out _ T7.out).mono ?_); rintro e w8 ⟨rfl, rfl⟩)
      | (go_at_call 25; (with_reducible refine (CWH.out _ T7.out).mono ?_); rintro e w8 ⟨rfl, rfl⟩)
      | (go_at_call 26; (with_reducible refine (COH.out _ T7.out).mono ?_); rintro e w8 ⟨rfl, rfl⟩)))
  exact HD.out _ T7.out _ _ _ _ _ _ _ _ _ _ _ _ _ _ _ _ _ _ _ _ _ _ _ _ _ _ _ _ _ _ _ _ _ _ _ _ _ _ _
end Go.Proofs.Ytcnellkoejhofaa
