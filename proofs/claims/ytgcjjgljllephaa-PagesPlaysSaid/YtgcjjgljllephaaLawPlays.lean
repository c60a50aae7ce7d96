/-
  PagesPlays: a pool and the reference answer alike. No conditions but that the script's calls are numbers of 64 bits, at most 120.
-/
import Derived.Test.YtgcjjgljllephaaLPlAll
import Derived.Deep.DeepCutAuto
import Derived.Deep.LoopGhost
import Derived.Deep.RegionHeld3
import Derived.BigQuiet
namespace Go.Proofs.Ytgcjjgljllephaa
open Go.ChangeShapes Go.WideShapes Go.ChangeAt Go.RowKit

theorem users_cast (L : List Pg) (f : Int) : decide (usersL L f ≠ 0) = true ∨ usersL L f = 0 := by
  by_cases h : usersL L f = 0
  · exact .inr h
  · exact .inl (by simpa using h)
section
variable {w wr : World} {a x n i : Nat} {F G : Nat → Prop} {L : List Pg}
theorem DSt.past {w2 : World} (h : DSt w wr a x n i F G L) (t : Turn NoBlock wr w2) : DSt w w2 a x n i F G L := ⟨h.st.past t, h.inv, h.len⟩
theorem d_has (h : DSt w wr a x n i F G L) (f : Int) : Calls Try.prog 16 #[.pointer (some ⟨x, 0, none⟩), .int .i64 f] wr fun e w' => e = .returned (.bool (decide (usersL L f ≠ 0))) ∧ wr = w' := rhas_any h.st.ref f
theorem d_users (h : DSt w wr a x n i F G L) (f : Int) : Calls Try.prog 27 #[.pointer (some ⟨a, 0, none⟩), .int .i64 f] wr fun e w' => e = .returned (.int .i64 (usersL L f)) ∧ wr = w' := users_any h.st.pool f
theorem d_used (h : DSt w wr a x n i F G L) : Calls Try.prog 28 #[.pointer (some ⟨a, 0, none⟩)] wr fun e w' => e = .returned (.int .i64 (usedN L)) ∧ ∃ m, w' = wr.drewN m := used_any h.st.pool
theorem d_rused (h : DSt w wr a x n i F G L) : Calls Try.prog 29 #[.pointer (some ⟨x, 0, none⟩)] wr fun e w' => e = .returned (.int .i64 (usedN L)) ∧ wr = w' := rused_any h.st.ref
theorem d_room (h : DSt w wr a x n i F G L) : Calls Try.prog 30 #[.pointer (some ⟨a, 0, none⟩)] wr fun e w' => e = .returned (.int .i64 ((n : Int) - usedN L)) ∧ ∃ m, w' = wr.drewN m := by
  have c := room_any h.st.pool
  rwa [h.len] at c
end

set_option maxRecDepth 100000 in
set_option maxHeartbeats 4000000 in
theorem plays_past (n : Int) (p : Option Addr) (len cap : Nat) (w : World) (h : n < 0 ∨ 65536 < n ∨ 120 < len) :
    Calls Try.prog 3 #[.int .i64 n, .slice p len cap] w fun e w' => e = .returned (.bool true) ∧ Turn NoBlock w w' := by
  by_cases hn : n < 0 ∨ 65536 < n
  · have c1 := new_no n w hn
    clear h
    rcases hn with hn | hn
    · go_enter Try.func3, Try.ntmps3
      go_wp2_with (first
        | (go_at_call 12; (with_reducible refine c1.mono ?_); rintro x w1 ⟨rfl, rfl⟩)
        | (go_at_call 13; (with_reducible refine (awake_b (Turn.refl NoBlock _)).mono ?_); rintro x w2 ⟨rfl, t2⟩; have K2 := Lib.hid t2; clear t2))
      go_ret
      exact ⟨rfl, K2.out⟩
    · have hn0 : ¬ n < 0 := by omega
      go_enter Try.func3, Try.ntmps3
      go_wp2_with (first
        | (go_at_call 12; (with_reducible refine c1.mono ?_); rintro x w1 ⟨rfl, rfl⟩)
        | (go_at_call 13; (with_reducible refine (awake_b (Turn.refl NoBlock _)).mono ?_); rintro x w2 ⟨rfl, t2⟩; have K2 := Lib.hid t2; clear t2))
      go_ret
      exact ⟨rfl, K2.out⟩
  · obtain ⟨m, rfl⟩ : ∃ m : Nat, n = m := ⟨n.toNat, by omega⟩
    have c1 := new_yes m w (by omega)
    have hl : (120 : Int) < len := by omega
    have hm6 : (m : Int) ≤ 65536 := by omega
    clear h hn
    go_enter Try.func3, Try.ntmps3
    go_wp2_with (first
      | (go_at_call 12; (with_reducible refine c1.mono ?_); rintro x w1 ⟨rfl, F1, h1, t1, l1⟩; have K1 := Lib.hid t1; clear h1 t1 l1)
      | (go_at_call 13; (with_reducible refine (awake_b K1.out).mono ?_); rintro x w2 ⟨rfl, t2⟩; have K2 := Lib.hid t2; clear t2))
    go_ret
    exact ⟨rfl, K2.out⟩

set_option maxRecDepth 100000 in
set_option maxHeartbeats 60000000 in
theorem plays_walk (n : Nat) (p : Option Addr) (len cap : Nat) (os : Nat → OpW) (w : World) (hn : n ≤ 65536) (hlen : len ≤ 120) (hos : OpsAt w p len os) (hok : OpsOK w len os) :
    Calls Try.prog 3 #[.int .i64 n, .slice p len cap] w fun e w' => e = .returned (.bool true) ∧ Turn NoBlock w w' := by
  have c1 := new_yes n w (by omega)
  obtain ⟨a, haw⟩ : ∃ a, w.heap.size = a := ⟨_, rfl⟩
  rw [haw] at c1
  have Haw := Lib.hid haw
  have HO := Lib.hid (fun wr (t : Turn NoBlock w wr) j (hj : j < len) => by
    obtain ⟨b, off, hp, ho⟩ := hos (by omega)
    exact (⟨b, off, hp, fun i hi => by
      have h := ho j hj i hi
      obtain ⟨v, hv⟩ : ∃ v, (os j).cells[i]? = some v := ⟨_, List.getElem?_eq_getElem (by simp [OpW.cells]; omega)⟩
      rw [hv] at h
      exact (t.cell h (fun h => h)).trans hv.symm⟩ : ∃ b off, p = some ⟨b, off, none⟩ ∧ ∀ i, i < 5 → wr.cell? ⟨b, off + j * 5 + i, none⟩ = (os j).cells[i]?))
  have HOk := Lib.hid hok
  clear haw hos hok
  have Hn := Lib.hid hn
  go_enter Try.func3, Try.ntmps3
  go_wp2_with (first
    | (go_at_call 12; (with_reducible refine c1.mono ?_); rintro y w1 ⟨rfl, F1, h1, t1, l1⟩; have K1 := Lib.hid (And.intro h1 (And.intro t1 l1)); clear h1 t1 l1))
  obtain ⟨x, hx⟩ : ∃ x, w1.heap.size = x := ⟨_, rfl⟩
  obtain ⟨G1, HD⟩ : ∃ G1, Hid (DSt w (w1.alloc (.cells #[.slice none 0 0, .slice none 0 0, .int .i64 n] 30)) a x n 0 F1 G1 (List.replicate n Pg.none)) := by
    obtain ⟨h1, t1, l1⟩ := K1.out
    have hr := ref_new w1 n Hn.out
    rw [hx] at hr
    have s1 := t1.size
    refine ⟨_, Lib.hid ⟨⟨h1.past ((Turn.refl _ _).alloc _), hr, fun j hj hg => ?_, t1.trans ((Turn.refl NoBlock w1).alloc _) (fun _ h => .inl h), fun j hj => by have := l1 j hj; have := Haw.out; omega, fun j hj => ?_⟩, Inv.start n, by simp⟩⟩
    · rcases hg with hg | hg | hg | ⟨k, v, hv, hg⟩
      · have := h1.lt hj; omega
      · simp [Blk, Value.ownBlock] at hg
      · simp [Blk, Value.ownBlock] at hg
      · simp at hv
    · rcases hj with hj | hj | hj | ⟨k, v, hv, hj⟩
      · omega
      · simp [Blk, Value.ownBlock] at hj
      · simp [Blk, Value.ownBlock] at hj
      · simp at hv
  rw [hx]
  clear hx
  generalize w1.alloc (.cells #[.slice none 0 0, .slice none 0 0, .int .i64 n] 30) = W0 at *
  go_loopg [62] len (fun g s wr => ∃ (i : Nat) (F G : Nat → Prop) (L : List Pg), g = len - i ∧ i ≤ len ∧ s = .int .i64 i ∧ Hid (DSt w wr a x n i F G L))
  case atStart => exact ⟨0, F1, G1, _, by omega, by omega, rfl, HD⟩
  case round =>
    obtain ⟨i, F, G, L, hg, hi, rfl, HA⟩ := hrel
    by_cases hlt : i < len
    · obtain ⟨b, off, rfl, hcs⟩ := HO.out wr HA.out.st.turn i hlt
      have d0 := hcs 0 (by omega)
      have d1 := hcs 1 (by omega)
      have d2 := hcs 2 (by omega)
      have d3 := hcs 3 (by omega)
      have d4 := hcs 4 (by omega)
      have hfit := (HOk.out i hlt).1
      have hsrc := (HOk.out i hlt).2
      clear hcs
      generalize os i = o at *
      obtain ⟨kd, kf, ka, kn, lp, ll, lc, bs⟩ := o
      simp only [OpW.cells, List.getElem?_cons_zero, List.getElem?_cons_succ, Nat.add_zero] at d0 d1 d2 d3 d4
      by_cases hll : 200 < ll
      · have hll2 : (200 : Int) < ll := by omega
        go_wp2_with (go_at_call 13; (with_reducible refine (awake_b (HA.out.st.turn.alloc _)).mono ?_); rintro y w9 ⟨rfl, t9⟩; have K9 := Lib.hid t9; clear t9)
        go_ret
        exact ⟨rfl, K9.out⟩
      · have hll2 : (ll : Int) ≤ 200 := by omega
        obtain ⟨ob, hob⟩ : ∃ ob, wr.heap.size = ob := ⟨_, rfl⟩
        obtain ⟨W, hW⟩ : ∃ W, W = wr.alloc (.cells #[.int .i64 kd, .int .i64 kf, .int .i64 ka, .int .i64 kn, .slice lp ll lc] 33) := ⟨_, rfl⟩
        have hb : W.heap[ob]? = some (.cells #[.int .i64 kd, .int .i64 kf, .int .i64 ka, .int .i64 kn, .slice lp ll lc] 33 (0, 0)) := by rw [hW, ← hob]; exact heap_alloc_new wr _
        have k0 := cell_at hb 0
        have k1 := cell_at hb 1
        have k2 := cell_at hb 2
        have k3 := cell_at hb 3
        have k4 := cell_at hb 4
        simp at k0 k1 k2 k3 k4
        have HB := Lib.hid (show BSt w W a x n i ob F G L from ⟨by rw [hW]; exact HA.out.past ((Turn.refl _ _).alloc _), lt_of_block hb, (HA.out.st.news (by omega)).2.1, (HA.out.st.news (by omega)).2.2⟩)
        go_upto_if 73 with fail
        rw [← hW]
        clear hW hob hb d0 d1 d2 d3 d4
        refine plAll len cap ll lc kd kf ka kn bs _ _ _ _ _ _ _ _ _ _ _ _ _ _ _ _ _ _ _ _ _ _ _ _ _ _ _ _ _ _ _ _ _ _ _ _ _ _ _ _ _ _ _ _ _ _ _ _ _ _ _ _ _ _ _ _ _ _ _ _ _ _ _ _ _ _ _ _ _ _ _ _ _ _ _ _ _ _ _ _ _ _ _ _ _ _ _ _ _ _ _ _ _ _ _ _ _ _ _ _ _ _ _ _ _ _ _ _ _ _ _ _ _ _ _ _ _ _ _ _ _ _ _ _ _ _ _ _ _ _ _ _ _ _ _ _ _ _ _ _ _ _ _ _ _ _ _ _ _ _ _ _ _ _ _ _ _ _ _ _ _ _ _ _ _ _ _ _ _ _ _ _ _ _ _ _ _ _ _ _ _ _ _ _ _ _ _ _ _ _ _ _ _ _ _ _ _ _ _ _ _ _ _ _ _ _ _ _ _ _ _ _ _ _ _ _ _ _ _ _ _ _ _ _ _ _ _ _ _ _ _ _ _ _ _ _ _ _ _ _ _ _ _ _ _ _ _ _ _ _ _ _ _ _ _ _ _ _ _ _ _ _ _ _ _ _ _ _ _ _ _ _ _ _ _ _ _ _ _ _ _ _ _ _ _ _ _ _ _ _ _ _ _ _ _ _ _ k0 k1 k2 k3 k4 hfit.2 (by omega) hll2 (Lib.hid hsrc.1) (Lib.hid hsrc.2.2) HB (Lib.hid ?_)
        intro F2 G2 L2 w2 hB2 hk1 _y9 _y10 _y11 _y12 _y13 _y14 _y15 _y16 _y17 _y18 _y19 _y20 _y21 _y22 _y23 _y24 _y25 _y73 _y74 _y75 _y76 _y77 _y78 _y79 _y80 _y81 _y82 _y83 _y84 _y85 _y86 _y87 _y88 _y89 _y90 _y91 _y92 _y93 _y94 _y95 _y96 _y97 _y98 _y99 _y100 _y101 _y102 _y103 _y104 _y105 _y106 _y107 _y108 _y109 _y110 _y111 _y112 _y113 _y114 _y115 _y116 _y117 _y118 _y119 _y120 _y121 _y122 _y123 _y124 _y125 _y126 _y127 _y128 _y129 _y130 _y131 _y132 _y133 _y134 _y135 _y136 _y137 _y138 _y139 _y140 _y141 _y142 _y143 _y144 _y145 _y146 _y147 _y148 _y149 _y150 _y151 _y152 _y153 _y154 _y155 _y156 _y157 _y158 _y159 _y160 _y161 _y162 _y163 _y164 _y165 _y166 _y167 _y168 _y169 _y170 _y171 _y172 _y173 _y174 _y175 _y176 _y177 _y178 _y179 _y180 _y181 _y182 _y183 _y184 _y185 _y186 _y187 _y188 _y189 _y190 _y191 _y192 _y193 _y194 _y195 _y196 _y197 _y198 _y199 _y200 _y201 _y202 _y203 _y204 _y205 _y206 _y207 _y208 _y209 _y210 _y211 _y212 _y213 _y214 _y215 _y216 _y217 _y218 _y219 _y220 _y221 _y222 _y223 _y224 _y225 _y226 _y227 _y228 _y229 _y230 _y231 _y232 _y233 _y234 _y235 _y236 _y237 _y238 _y239
        have KB := Lib.hid hB2
        have cH := rhas_any hB2.d.st.ref kf
        have cU0 := users_any hB2.d.st.pool kf
        have cN0 := Lib.hid (d_used hB2.d)
        have cU := fun m => users_any (hB2.past ((Turn.refl _ _).drewN m)).d.st.pool kf
        have cN := Lib.hid (fun m => d_used (hB2.past ((Turn.refl _ _).drewN m)).d)
        have cM := Lib.hid (fun m => d_rused (hB2.past ((Turn.refl _ _).drewN m)).d)
        have cO := Lib.hid (fun m => d_room (hB2.past ((Turn.refl _ _).drewN m)).d)
        have hul := used_len L2
        rw [hB2.d.len] at hul
        have hqn : (usedN L2 : Int) ≤ (n : Int) := by omega
        have hnn : (n : Int) ≤ 65536 := by have := Hn.out; omega
        obtain ⟨q, hq⟩ : ∃ q, usedN L2 = q := ⟨_, rfl⟩
        rw [hq] at cN cN0 cM cO hqn
        clear hq hul k0 k1 k2 k3 k4
        by_cases hu : usersL L2 kf = 0
        · have hd : decide (usersL L2 kf ≠ 0) = false := by simp [hu]
          rw [hd] at cH
          simp only [hu] at cU cU0
          have cU := Lib.hid cU
          clear hB2 hu hd
          go_wp2_with (first
            | (go_at_call 16; (with_reducible refine cH.mono ?_); rintro y w3 ⟨rfl, rfl⟩)
            | (go_at_call 27; (with_reducible refine (cU.out _).mono ?_); rintro y w3 ⟨rfl, rfl⟩)
            | (go_at_call 27; (with_reducible refine cU0.mono ?_); rintro y w3 ⟨rfl, rfl⟩)
            | (go_at_call 28; (with_reducible refine cN0.out.mono ?_); rintro y w6 ⟨rfl, m6, rfl⟩)
            | (go_at_call 28; (with_reducible refine (cN.out _).mono ?_); rintro y w6 ⟨rfl, m6, rfl⟩)
            | (go_at_call 29; (with_reducible refine (cM.out _).mono ?_); rintro y w7 ⟨rfl, rfl⟩)
            | (go_at_call 30; (with_reducible refine (cO.out _).mono ?_); rintro y w7 ⟨rfl, m7, rfl⟩; have K7 := Lib.hid (KB.out.past ((Turn.refl _ _).drewN (m6 + m7)))))
          go_roundg (len - (i + 1))
          case measure => omega
          case rel => exact ⟨i + 1, F2, G2, L2, rfl, by omega, by go_num, Lib.hid (KB.out.past ((Turn.refl _ _).drewN _)).d⟩
        · have hd : decide (usersL L2 kf ≠ 0) = true := by simp [hu]
          rw [hd] at cH
          obtain ⟨k, u, bb, v0, vd, vu, cp, ds, bz, us, hke, hue, hR⟩ := hB2.d.st.ref.frame kf hu
          obtain ⟨g, N, c, s1, s2, s3, s4, s5, s6, -⟩ := hR.store
          simp only [hue] at cU cU0
          have hub : (u : Int) < 4611686018427387904 := by have := hB2.d.inv.bound2 (by omega) kf; omega
          have hup : (0 : Int) < u := by omega
          subst hke
          have cU := Lib.hid cU
          clear hB2 hu hd hR hue
          go_wp2_with (first
            | (go_at_call 16; (with_reducible refine cH.mono ?_); rintro y w3 ⟨rfl, rfl⟩)
            | (go_quiet (fail))
            | (go_at_call 27; (with_reducible refine (cU.out _).mono ?_); rintro y w3 ⟨rfl, rfl⟩)
            | (go_at_call 27; (with_reducible refine cU0.mono ?_); rintro y w3 ⟨rfl, rfl⟩)
            | (go_at_call 28; (with_reducible refine cN0.out.mono ?_); rintro y w6 ⟨rfl, m6, rfl⟩)
            | (go_at_call 28; (with_reducible refine (cN.out _).mono ?_); rintro y w6 ⟨rfl, m6, rfl⟩)
            | (go_at_call 29; (with_reducible refine (cM.out _).mono ?_); rintro y w7 ⟨rfl, rfl⟩)
            | (go_at_call 30; (with_reducible refine (cO.out _).mono ?_); rintro y w7 ⟨rfl, m7, rfl⟩))
          go_roundg (len - (i + 1))
          case measure => omega
          case rel => exact ⟨i + 1, F2, G2, L2, rfl, by omega, by go_num, Lib.hid (KB.out.past ((Turn.refl _ _).drewN _)).d⟩
    · obtain rfl : i = len := by omega
      obtain ⟨vd, vu, cp, ds, bz, us, hM, ⟨o1, o2, o3, o4⟩, hG, hL⟩ := HA.out.st.ref
      have r1 := hM.c1
      obtain ⟨pu, cu, hvu⟩ := hM.sliceU
      obtain ⟨m, hm⟩ : ∃ m, us.length = m := ⟨_, rfl⟩
      rw [hvu, hm] at r1
      have hm6 : m ≤ 65536 := by omega
      clear hM o1 o2 o3 o4 hG hL hvu hm
      go_wp2
      go_loopg [280] m (fun g s280 wx => ∃ j : Nat, j ≤ m ∧ g = m - j ∧ s280 = .int .i64 j ∧ Hid (DSt w wx a x n i F G L))
      case atStart => exact ⟨0, by omega, by omega, rfl, HA⟩
      case round =>
        obtain ⟨j, hj, hgj, rfl, HJ⟩ := hrel
        by_cases hlt2 : j < m
        · by_cases hs : withinS L j 0 64 = 0
          · have cP := read_any HJ.out.st.pool j 0 64 hs
            have cR := Lib.hid (fun (w4 : World) (h : DSt w w4 a x n i F G L) => rread_any h.st.ref j 0 64 hs)
            obtain ⟨rs, hrs⟩ : ∃ rs, readB L j 0 64 = rs := ⟨_, rfl⟩
            rw [hrs] at cP cR
            clear hs hrs
            go_wp2_with (first
              | (go_at_call 21; (with_reducible refine cP.mono ?_); rintro y w4 ⟨v4, rfl, B4, f4, t4⟩; have K4 := Lib.hid (And.intro (HJ.out.past t4) B4); clear B4 f4 t4)
              | (go_at_call 22; (with_reducible refine (cR.out _ K4.out.1).mono ?_); rintro y w5 ⟨v5, rfl, B5, f5, t5⟩; have K5 := Lib.hid (And.intro (K4.out.1.past t5) (And.intro B5 (show Byts v4 rs w5 from (own_byts _ _).kept _ _ _ K4.out.2 t5 (fun _ _ h => h)))); clear B5 f5 t5)
              | (go_at_call 23; (with_reducible refine (same_any _ _ _ _ K5.out.2.2.src K5.out.2.1.src).mono ?_); rintro y w6 ⟨rfl, rfl⟩))
            go_roundg (m - (j + 1))
            case measure => omega
            case rel => exact ⟨j + 1, by omega, by omega, by go_num, Lib.hid K5.out.1⟩
          · have cP := read_no HJ.out.st.pool j 0 64 hs
            have cR := rread_no HJ.out.st.ref j 0 64 hs
            generalize withinS L j 0 64 = S at *
            have cS := fun w => same_any w (.slice none 0 0) (.slice none 0 0) [] (.inl ⟨⟨_, _, rfl⟩, rfl⟩) (.inl ⟨⟨_, _, rfl⟩, rfl⟩)
            have cS := Lib.hid cS
            clear hs
            go_wp2_with (first
              | (go_at_call 21; (with_reducible refine cP.mono ?_); rintro y w4 ⟨rfl, rfl⟩)
              | (go_at_call 22; (with_reducible refine cR.mono ?_); rintro y w5 ⟨rfl, rfl⟩)
              | (go_at_call 23; (with_reducible refine (cS.out _).mono ?_); rintro y w6 ⟨rfl, rfl⟩))
            go_roundg (m - (j + 1))
            case measure => omega
            case rel => exact ⟨j + 1, by omega, by omega, by go_num, HJ⟩
        · obtain rfl : j = m := by omega
          go_wp2_with (go_at_call 13; (with_reducible refine (awake_b HJ.out.st.turn).mono ?_); rintro y w9 ⟨rfl, t9⟩; have K9 := Lib.hid t9; clear t9)
          go_ret
          exact ⟨rfl, K9.out⟩
end Go.Proofs.Ytgcjjgljllephaa
