/-
  A wait is let go: it stands in no line any more. Conditions: the waits lie in memory.
-/
import Derived.Test.YtabakjimlndhcaaBOps
namespace Go.Proofs.Ytabakjimlndhcaa
open Go.ChangeShapes Go.WideShapes Go.ChangeAt Go.RowKit

section
variable {w w' w1 : World} {c tm lm nT : Nat} {most : Int} {T : Int → Option Nat} {G A B : List Gw} {r : Int → Nat} {K : List Int} {g : Gw}
/-- What is owned is no more than it was. -/
theorem gfoot_sub {G G' : List Gw} {r : Int → Nat} {K K' : List Int} (hG : ∀ y ∈ G', ∃ z ∈ G, y.x = z.x ∧ y.iv = z.iv ∧ y.pv = z.pv ∧ ∀ e ∈ y.pl, e ∈ z.pl) (hK : ∀ n ∈ K', n ∈ K) {k : Nat} (h : GFoot c tm lm G' r K' k) : GFoot c tm lm G r K k := by
  rcases h with h | h | h | ⟨y, hy, h⟩ | ⟨n, hn, h⟩
  · exact .inl h
  · exact .inr (.inl h)
  · exact .inr (.inr (.inl h))
  · obtain ⟨z, hz, e1, e2, e3, e4⟩ := hG y hy
    refine .inr (.inr (.inr (.inl ⟨z, hz, ?_⟩)))
    rcases h with h | h | h | ⟨n, p, hp, h⟩
    · exact .inl (h.trans e1)
    · exact .inr (.inl (e2 ▸ h))
    · exact .inr (.inr (.inl (e3 ▸ h)))
    · exact .inr (.inr (.inr ⟨n, p, e4 _ hp, h⟩))
  · exact .inr (.inr (.inr (.inr ⟨n, hK n hn, h⟩)))
theorem sub_part {A B : List Gw} {g g' : Gw} (h1 : g'.x = g.x) (h2 : g'.iv = g.iv) (h3 : g'.pv = g.pv) (h4 : ∀ e ∈ g'.pl, e ∈ g.pl) : ∀ y ∈ A ++ g' :: B, ∃ z ∈ A ++ g :: B, y.x = z.x ∧ y.iv = z.iv ∧ y.pv = z.pv ∧ ∀ e ∈ y.pl, e ∈ z.pl := by
  intro y hy
  rcases List.mem_append.1 hy with h | h
  · exact ⟨y, List.mem_append_left _ h, rfl, rfl, rfl, fun _ h => h⟩
  · rcases List.mem_cons.1 h with rfl | h
    · exact ⟨g, by simp, h1, h2, h3, h4⟩
    · exact ⟨y, List.mem_append_right _ (List.mem_cons_of_mem _ h), rfl, rfl, rfl, fun _ h => h⟩
/-- Where the drop of g stands behind the first j of its places. -/
structure DropAt (w : World) (c : Nat) (most : Int) (tm lm : Nat) (T : Int → Option Nat) (nT : Nat) (A : List Gw) (g : Gw) (B : List Gw) (r : Int → Nat) (K : List Int) (j : Nat) (W : World) : Prop where
  ex : ∃ K', (∀ n ∈ K', n ∈ K) ∧ GMem W c most tm lm T nT (A ++ { g with pl := g.pl.drop j } :: B) r K' ∧ (Tight (A ++ g :: B) K → Tight (A ++ { g with pl := g.pl.drop j } :: B) K')
  turn : Turn (GFoot c tm lm (A ++ g :: B) r K) w W
set_option maxRecDepth 20000 in
set_option maxHeartbeats 1000000 in
theorem drop_any (h : GMem w c most tm lm T nT (A ++ g :: B) r K) (hpr : g.pr = g.pl.map Prod.snd) (ht : T g.a.t = some g.x) (hf : fit g.a.t) (hfl : ∀ e ∈ g.pl, fit e.1) (hlen : g.pl.length ≤ 100) :
    Calls Try.prog 61 #[.pointer (some ⟨c, 0, none⟩), .pointer (some ⟨g.x, 0, none⟩)] w fun e w' => e = .returned (.tuple #[]) ∧ (∃ K', (∀ n ∈ K', n ∈ K) ∧ GMem w' c most tm lm (updI T g.a.t none) (nT - 1) (A ++ B) r K' ∧ (Tight (A ++ g :: B) K → Tight (A ++ B) K')) ∧ Turn (GFoot c tm lm (A ++ g :: B) r K) w w' := by
  have hgm : g ∈ A ++ g :: B := by simp
  have hgo := h.obj g hgm
  have hd := h.drew
  have c1 := h.c1
  have x0 := hgo.x0
  obtain ⟨W1, hrun, hm1, t1⟩ := hd.tmap.drop tmapU g.a.t hf 0
  rw [ht] at hm1
  simp only [Option.isSome_some, if_true] at hm1
  have g1 := hd.who t1 hm1
  have T1 : Turn (GFoot c tm lm (A ++ g :: B) r K) w W1 := (TU (Turn.refl NoBlock w).drew).trans (t1.mono (G := GFoot c tm lm (A ++ g :: B) r K) (fun k hk => .inl (.inr (.inl hk)))) (fun _ h => .inl h)
  have HS := Lib.hid (show DropAt w c most tm lm (updI T g.a.t none) (nT - 1) A g B r K 0 W1 from ⟨⟨K, fun _ h => h, by rw [List.drop_zero]; exact g1, fun h => by rw [List.drop_zero]; exact h⟩, T1⟩)
  have x3 := (g1.obj g hgm).x3
  have hrow := (g1.obj g hgm).places
  obtain ⟨pp, cap, hpv⟩ := WRow.sl hrow
  obtain ⟨N, hN⟩ : ∃ N, g.pr.length = N := ⟨_, rfl⟩
  have hNl : g.pl.length = N := by rw [← hN, hpr, List.length_map]
  rw [hN] at hpv
  have HP := Lib.hid (And.intro hpr (And.intro hpv (And.intro hfl (And.intro hNl hN))))
  have hN9 : N ≤ 100 := by omega
  rw [hpv] at x3
  clear h hd hgo hm1 t1 g1 T1 hrow hpr hpv hfl hlen hNl ht hf hN
  go_enter Try.func61, Try.ntmps61
  go_wp2
  go_region
  go_wp2
  go_loopg [5, 19] N (fun z s5 s19 wr => ∃ j : Nat, j ≤ N ∧ z = N - j ∧ s19 = .int .i64 (j : Int) ∧ Hid (DropAt w c most tm lm (updI T g.a.t none) (nT - 1) A g B r K j wr))
  case atStart => exact ⟨0, by omega, by omega, rfl, HS⟩
  case round =>
    obtain ⟨j, hj, hz, rfl, HD⟩ := hrel
    by_cases hlt : j < N
    · have hjn : (j : Int) < (N : Int) := by omega
      obtain ⟨K', hsub, gm, htight⟩ := HD.out.ex
      obtain ⟨hpr, hpv, hfl, hNl, hN⟩ := HP.out
      obtain ⟨⟨n, p⟩, hnp⟩ : ∃ y, g.pl[j]? = some y := ⟨_, List.getElem?_eq_getElem (by omega)⟩
      have hdrop : g.pl.drop j = (n, p) :: g.pl.drop (j + 1) := by
        have hjl : j < g.pl.length := by omega
        rw [List.drop_eq_getElem_cons hjl]
        congr 1
        rw [List.getElem?_eq_getElem hjl] at hnp
        simpa using hnp
      have hn := hfl (n, p) (List.mem_of_getElem? hnp)
      have gmo := (gm.obj _ (by simp : ({ g with pl := g.pl.drop j } : Gw) ∈ A ++ { g with pl := g.pl.drop j } :: B)).places
      have hprj : g.pr[j]? = some p := by rw [hpr, List.getElem?_map, hnp]; rfl
      obtain ⟨ga, go, gc, he, -, -, -, hcells, -⟩ := WRow.shape gmo (by show 0 < g.pr.length; omega)
      replace he : g.pv = .slice (some ⟨ga, go, none⟩) g.pr.length gc := he
      rw [hpv, hN] at he
      simp only [Value.slice.injEq] at he
      obtain ⟨rfl, -, rfl⟩ := he
      have qj : wr.cell? ⟨ga, go + j, none⟩ = some (.pointer (some ⟨p, 0, none⟩)) := by
        have := hcells j (by show j < g.pr.length * 1; omega)
        rw [this]
        show (pcells g.pr)[j]? = _
        unfold pcells
        rw [List.getElem?_map, hprj]
        rfl
      obtain ⟨q, s, hK, p0, p2, p3, tp, tq, ts, hpq, hps, ⟨u3, q3⟩, ⟨u2, s2⟩, fq, fs, hqs, hW⟩ := gm.unlink (n := n) (p := p) hdrop
      unfold ptr at p2 p3 hW
      have fr1 := tq.free 3
      have fr2 := ts.free 2
      clear gmo hprj hcells hnp hpr hpv hNl hN hfl
      go_wp2
      have W1 := hW _ (.inl rfl)
      have W2 := hW _ (.inr rfl)
      have HW := Lib.hid (And.intro W1 W2)
      clear W1 W2 hW
      have z1 : (wr.setCell ⟨q, 3, none⟩ (.pointer (some ⟨s, 0, none⟩))).cell? ⟨p, 3, none⟩ = some (.pointer (some ⟨s, 0, none⟩)) := (World.cell?_setCell_other _ _ _ _ (by simp)).trans p3
      have z2 : (wr.setCell ⟨s, 2, none⟩ (.pointer (some ⟨q, 0, none⟩))).cell? ⟨p, 2, none⟩ = some (.pointer (some ⟨q, 0, none⟩)) := (World.cell?_setCell_other _ _ _ _ (by simp)).trans p2
      go_region
      obtain ⟨W5, hW5⟩ : ∃ W5, ((wr.setCell ⟨q, 3, none⟩ (.pointer (some ⟨s, 0, none⟩))).setCell ⟨s, 2, none⟩ (.pointer (some ⟨q, 0, none⟩))).drew.drew = W5 := ⟨_, rfl⟩
      obtain ⟨W4, hW4⟩ : ∃ W4, ((wr.setCell ⟨q, 3, none⟩ (.pointer (some ⟨s, 0, none⟩))).setCell ⟨s, 2, none⟩ (.pointer (some ⟨q, 0, none⟩))).drew = W4 := ⟨_, rfl⟩
      have y2 : W4.cell? ⟨p, 2, none⟩ = some (.pointer (some ⟨q, 0, none⟩)) := by
        rw [← hW4, World.cell?_drew]
        exact (World.cell?_setCell_other _ _ _ _ (by simp)).trans ((World.cell?_setCell_other _ _ _ _ (by simp)).trans p2)
      have y3 : W4.cell? ⟨p, 3, none⟩ = some (.pointer (some ⟨s, 0, none⟩)) := by
        rw [← hW4, World.cell?_drew]
        exact (World.cell?_setCell_other _ _ _ _ (by simp)).trans z1
      have y0 : W4.cell? ⟨p, 0, none⟩ = some (.int .i64 n) := by
        rw [← hW4, World.cell?_drew]
        exact (World.cell?_setCell_other _ _ _ _ (by simp)).trans ((World.cell?_setCell_other _ _ _ _ (by simp)).trans p0)
      have E45 := Lib.hid (show W4.drew = W5 by rw [← hW4]; exact hW5)
      have G5 : GMem W5 c most tm lm (updI T g.a.t none) (nT - 1) (A ++ { g with pl := g.pl.drop (j + 1) } :: B) r K' := by
        rw [← hW5]; exact HW.out.1.2.drew.drew
      have T5 : Turn (GFoot c tm lm (A ++ g :: B) r K) w W5 := by
        rw [← hW5]
        refine (HD.out.turn.trans (HW.out.1.1.turn.drew.drew.mono (G := GFoot c tm lm (A ++ g :: B) r K) ?_) (fun _ h => .inl h))
        rintro k (rfl | rfl)
        · exact .inl (gfoot_sub (sub_part (g := g) (g' := { g with pl := g.pl.drop j }) rfl rfl rfl (fun e he => List.mem_of_mem_drop (i := j) he)) hsub fq)
        · exact .inl (gfoot_sub (sub_part (g := g) (g' := { g with pl := g.pl.drop j }) rfl rfl rfl (fun e he => List.mem_of_mem_drop (i := j) he)) hsub fs)
      have hao : ∀ m, m ≠ n → inL (A ++ { g with pl := g.pl.drop (j + 1) } :: B) m = inL (A ++ { g with pl := g.pl.drop j } :: B) m := fun m hm => inL_part m (by
        unfold Gw.at
        rw [hdrop, List.lookup_cons]
        have : (m == n) = false := by simpa using hm
        rw [this])
      have HAO := Lib.hid hao
      have TI := Lib.hid htight
      have HN := Lib.hid hsub
      have c5 := G5.c2
      obtain ⟨bb, hbb⟩ : ∃ bb, decide (q = s) = bb := ⟨_, rfl⟩
      have heq : (binOp .eql 145 (.pointer (some ⟨q, 0, none⟩)) (.pointer (some ⟨s, 0, none⟩))).run Try.prog W4.drew = .ok (.bool (decide (q = s))) W4.drew := by
        rw [E45.out, ← hW5]
        exact eql_pl (HW.out.1.1.typ q (.inl rfl)).2 (HW.out.1.1.typ s (.inr rfl)).2
      rw [hbb] at heq
      rw [hW4]
      clear hW4 hW5 z1 z2 htight hsub q3 s2 p0 p2 p3 tp tq ts fr1 fr2 fq fs hao
      go_wp2
      go_region
      rw [E45.out]
      clear heq
      cases bb with
      | true =>
        obtain rfl : q = s := of_decide_eq_true hbb
        clear hbb
        have hin := hqs.1 rfl
        obtain ⟨W6, hr6, hm6, t6⟩ := G5.drew.lmap.drop lmapU n hn 0
        have hLn : (LK r K' n).isSome = true := by unfold LK; rw [if_pos hK]; rfl
        rw [hLn] at hm6
        simp only [if_true] at hm6
        have G6 := G5.drew.less hK hin t6 hm6
        have T6 : Turn (GFoot c tm lm (A ++ g :: B) r K) w W6 := T5.drew.trans (t6.mono (G := GFoot c tm lm (A ++ g :: B) r K) (fun k hk => .inl (.inr (.inr (.inl hk))))) (fun _ h => .inl h)
        have v0 : W5.cell? ⟨p, 0, none⟩ = some (.int .i64 n) := by rw [← E45.out, World.cell?_drew]; exact y0
        have HD6 := Lib.hid (show DropAt w c most tm lm (updI T g.a.t none) (nT - 1) A g B r K (j + 1) W6 from ⟨⟨K'.erase n, fun m hm => HN.out m (List.mem_of_mem_erase hm), G6, fun h0 m hm => by
          have hmn := (G5.nod.mem_erase_iff.1 hm)
          rw [HAO.out m hmn.1]
          exact TI.out h0 m hmn.2⟩, T6⟩)
        clear G5 G6 T5 T6 hm6 t6 hLn hin hqs
        go_wp2
        go_region
        go_wp2
        go_roundg (N - (j + 1))
        case measure => omega
        case rel => exact ⟨j + 1, by omega, by omega, by go_num, HD6⟩
      | false =>
        have hqq : ¬ q = s := of_decide_eq_false hbb
        have hne : inL (A ++ { g with pl := g.pl.drop (j + 1) } :: B) n ≠ [] := fun e => hqq (hqs.2 e)
        clear hbb
        have HD5 := Lib.hid (show DropAt w c most tm lm (updI T g.a.t none) (nT - 1) A g B r K (j + 1) W5 from ⟨⟨K', HN.out, G5, fun h0 m hm => by
          by_cases hmn : m = n
          · subst hmn; exact hne
          · rw [HAO.out m hmn]
            exact TI.out h0 m hm⟩, T5⟩)
        clear G5 T5 hne hqs
        go_wp2
        go_roundg (N - (j + 1))
        case measure => omega
        case rel => exact ⟨j + 1, by omega, by omega, by go_num, HD5⟩
    · obtain rfl : j = N := by omega
      go_wp2
      go_end0
      obtain ⟨K', hsub, gm, htight⟩ := HD.out.ex
      have he : g.pl.drop j = [] := List.drop_eq_nil_of_le (by have := HP.out.2.2.2.1; omega)
      have hL : ∀ m, inL (A ++ { g with pl := g.pl.drop j } :: B) m = inL (A ++ B) m := fun m => by
        rw [inL_app, inL_cons, inL_app]
        have : ({ g with pl := g.pl.drop j } : Gw).at m = none := by unfold Gw.at; rw [he]; rfl
        rw [this]
        rfl
      exact ⟨rfl, ⟨K', hsub, gm.gone he, fun h0 m hm => by rw [← hL]; exact htight h0 m hm⟩, HD.out.turn⟩
end
end Go.Proofs.Ytabakjimlndhcaa
