/-
  A wait is put in a line, last, if it does not stand there. Conditions: the waits lie in memory, it is the last of all.
-/
import Derived.Test.YtabakjimlndhcaaBDrop
namespace Go.Proofs.Ytabakjimlndhcaa
open Go.ChangeShapes Go.WideShapes Go.ChangeAt Go.RowKit

def addLn (l : List Int) (n : Int) : List Int := if n ∈ l then l else l ++ [n]
theorem eql_nil {w : World} {x : Nat} : (binOp .eql 102 (.pointer none) (.pointer (some ⟨x, 0, none⟩))).run Try.prog w = .ok (.bool false) w := by
  have h : ∀ d : Nat, (Op.equalIn (d + 1) 102 (.pointer none) (.pointer (some ⟨x, 0, none⟩))).run Try.prog w = .ok false w := fun d => by
    simp [Op.equalIn, run_underlying pwaitU]
  simp only [binOp]
  simp [Op.equal, Op.maxDepth, h 9999]
section
variable {w w' w1 : World} {c tm lm nT : Nat} {most : Int} {T : Int → Option Nat} {G A B : List Gw} {r : Int → Nat} {K : List Int} {g : Gw}
theorem GMem.lastIs2 (h : GMem w c most tm lm T nT (A ++ [g]) r K) {n : Int} (hK : n ∈ K) :
    ∃ q v, w.cell? ⟨r n, 2, none⟩ = some (.pointer (some ⟨q, 0, none⟩)) ∧ w.cell? ⟨q, 1, none⟩ = some (.pointer v) ∧ True ∧
      (binOp .eql 102 (.pointer v) (.pointer (some ⟨g.x, 0, none⟩))).run Try.prog w = .ok (.bool (decide (n ∈ g.pl.map Prod.fst))) w := by
  obtain ⟨q, v, h1, h2, h3, h4⟩ := h.lastIs hK
  have hg := (h.obj g (by simp)).xt
  rcases h3 with rfl | ⟨y, rfl, h5⟩
  · refine ⟨q, none, h1, h2, trivial, ?_⟩
    rw [eql_nil, decide_eq_false (h4 rfl)]
  · refine ⟨q, _, h1, h2, trivial, ?_⟩
    have hy : TBlk w y 106 := by
      have hb := (h.ring n hK).chain.back
      rw [h1] at hb
      by_cases hl : inL (A ++ [g]) n = []
      · rw [hl] at hb
        simp at hb
        have := (h.ring n hK).who
        have e : q = r n := ptr_inj hb
        rw [← e, h2] at this
        exact absurd this (by unfold ptr; simp)
      · obtain ⟨z, hz⟩ : ∃ z, (inL (A ++ [g]) n).getLast? = some z := by
          cases he : (inL (A ++ [g]) n).getLast? with
          | none => exact absurd (List.getLast?_eq_none_iff.1 he) hl
          | some z => exact ⟨z, rfl⟩
        rw [hz] at hb
        simp at hb
        have hzm := List.mem_of_getLast? hz
        have e : q = z := ptr_inj hb
        rw [← e] at hzm
        obtain ⟨y', hy', _, hP⟩ := h.inl hzm
        have := hP.who
        rw [h2] at this
        have e2 : y = y'.x := ptr_inj (by simpa using this)
        rw [e2]
        exact (h.obj y' hy').xt
    rw [eql_wt hy hg, decide_eq_decide.2 h5]
/-- g has become g': it stands in line n, too. -/
structure StoodAs (w : World) (c : Nat) (most : Int) (tm lm : Nat) (T : Int → Option Nat) (nT : Nat) (A : List Gw) (g g' : Gw) (r r' : Int → Nat) (K K' : List Int) (n : Int) (w' : World) : Prop where
  x : g'.x = g.x
  a : g'.a = g.a
  iv : g'.iv = g.iv
  pr : g'.pr = g'.pl.map Prod.snd
  ln : g'.pl.map Prod.fst = addLn (g.pl.map Prod.fst) n
  mem : GMem w' c most tm lm T nT (A ++ [g']) r' K'
  tight : Tight (A ++ [g]) K → Tight (A ++ [g']) K'
  foot : ∀ k, GFoot c tm lm (A ++ [g']) r' K' k → GFoot c tm lm (A ++ [g]) r K k ∨ w.heap.size ≤ k
  turn : Turn (GFoot c tm lm (A ++ [g]) r K) w w'
set_option maxRecDepth 20000 in
set_option maxHeartbeats 2000000 in
theorem stand_any (h : GMem w c most tm lm T nT (A ++ [g]) r K) (hpr : g.pr = g.pl.map Prod.snd) (n : Int) (hn : fit n) (hl : g.pl.length ≤ 100) (hKl : K.length ≤ 10000000) :
    Calls Try.prog 53 #[.pointer (some ⟨c, 0, none⟩), .pointer (some ⟨g.x, 0, none⟩), .int .i64 n] w fun e w' => e = .returned (.tuple #[]) ∧ ∃ g' r' K', StoodAs w c most tm lm T nT A g g' r r' K K' n w' := by
  have HPR := Lib.hid hpr
  have HL := Lib.hid (show g.pr.length ≤ 100 by rw [hpr, List.length_map]; exact hl)
  have c2 := h.c2
  have hlk := h.lmap.look2 lmapU zeroL n hn
  have hTight : ∀ (g' : Gw) (K1 : List Int), g'.pl = g.pl ∨ (∃ p, n ∉ g.pl.map Prod.fst ∧ g'.pl = g.pl ++ [(n, p)]) → (∀ m ∈ K1, m ∈ K ∨ m = n) → (n ∈ K1 → inL (A ++ [g']) n ≠ []) → Tight (A ++ [g]) K → Tight (A ++ [g']) K1 := by
    intro g' K1 hg hK1 hne h0 m hm
    by_cases hmn : m = n
    · subst hmn; exact hne hm
    · have := h0 m ((hK1 m hm).resolve_right hmn)
      rw [inL_app, inL_cons] at this ⊢
      have e : g'.at m = g.at m := by
        unfold Gw.at
        rcases hg with hg | ⟨p, hp, hg⟩
        · rw [hg]
        · rw [hg, look_snoc hp, if_neg hmn]
      rw [e]
      exact this
  by_cases hK : n ∈ K
  · have G1 := h
    have hK1 := hK
    have T1 : Turn (GFoot c tm lm (A ++ [g]) r K) w w := Turn.refl _ _
    have hFo : ∀ k, GFoot c tm lm (A ++ [g]) r K k → GFoot c tm lm (A ++ [g]) r K k ∨ w.heap.size ≤ k := fun _ h => .inl h
    have hTi : Tight (A ++ [g]) K → n ∈ g.pl.map Prod.fst → Tight (A ++ [g]) K := fun h _ => h
    have hTi' : Tight (A ++ [g]) K → ∀ p, n ∉ g.pl.map Prod.fst → ∀ {v l}, Tight (A ++ [{ g with pl := g.pl ++ [(n, p)], pv := v, pr := l }]) K := fun h0 p hp {v l} => hTight _ K (.inr ⟨p, hp, rfl⟩) (fun m hm => .inl hm) (fun _ => by
      rw [inL_app, inL_cons]
      have : ({ g with pl := g.pl ++ [(n, p)], pv := v, pr := l } : Gw).at n = some p := by unfold Gw.at; rw [look_snoc hp]; simp
      rw [this]
      simp) h0
    unfold LK at hlk
    rw [if_pos hK] at hlk
    unfold ptrOf at hlk
    simp only [Option.isSome_some] at hlk
    clear h hpr hTight hK hl hKl
    obtain ⟨q, v, a2, a1, -, heq⟩ := G1.lastIs2 hK1
    obtain ⟨bb, hbb⟩ : ∃ bb, decide (n ∈ g.pl.map Prod.fst) = bb := ⟨_, rfl⟩
    rw [hbb] at heq
    cases bb with
    | true =>
      have hin := of_decide_eq_true hbb
      have RES := Lib.hid (show ∃ g' r' K', StoodAs w c most tm lm T nT A g g' r r' K K' n w from
        ⟨g, r, K, rfl, rfl, rfl, HPR.out, by unfold addLn; rw [if_pos hin], G1, fun h0 => hTi h0 hin, hFo, T1⟩)
      clear G1 hbb hTi hTi' hFo hin T1 hK1
      go_enter Try.func53, Try.ntmps53
      go_wp2
      refine bodyPost_ret (results_none rfl _ _ _) rfl ?_
      exact ⟨rfl, RES.out⟩
    | false =>
      have hin := of_decide_eq_false hbb
      obtain ⟨q', b2, tq, tr, ⟨u3, q3⟩, fq, fr, hW⟩ := G1.linkin hK1 hin
      have hqq : q' = q := by
        have := b2.symm.trans a2
        unfold ptr at this
        simpa using this
      subst hqq
      unfold ptr at hW
      obtain ⟨p, hp⟩ : ∃ y, w.heap.size = y := ⟨_, rfl⟩
      obtain ⟨W2, hW2⟩ : ∃ y, w.alloc (.cells #[.int .i64 n, .pointer (some ⟨g.x, 0, none⟩), .pointer (some ⟨q', 0, none⟩), .pointer (some ⟨r n, 0, none⟩)] 149) = y := ⟨_, rfl⟩
      have tA : Turn NoBlock w W2 := by rw [← hW2]; exact (Turn.refl _ w).alloc _
      have hb : W2.heap[p]? = some (.cells #[.int .i64 n, .pointer (some ⟨g.x, 0, none⟩), .pointer (some ⟨q', 0, none⟩), .pointer (some ⟨r n, 0, none⟩)] 149 (0, 0)) := by rw [← hW2, ← hp]; exact heap_alloc_new w _
      have p2 : W2.cell? ⟨p, 2, none⟩ = some (.pointer (some ⟨q', 0, none⟩)) := cell_at hb 2
      have p3 : W2.cell? ⟨p, 3, none⟩ = some (.pointer (some ⟨r n, 0, none⟩)) := cell_at hb 3
      have hpq : p ≠ q' := fun e => by have := tq.lt; omega
      have hpr' : p ≠ r n := fun e => by have := tr.lt; omega
      have q3' := tA.cell q3 (fun h => h)
      have r2' := tA.cell a2 (fun h => h)
      have fr1 := (tq.kept tA (fun h => h)).free 3
      have fr2 := (tr.kept tA (fun h => h)).free 2
      have z1 : (W2.setCell ⟨q', 3, none⟩ (.pointer (some ⟨p, 0, none⟩))).cell? ⟨p, 3, none⟩ = some (.pointer (some ⟨r n, 0, none⟩)) := (World.cell?_setCell_other _ _ _ _ (by simp)).trans p3
      have z2 : (W2.setCell ⟨r n, 2, none⟩ (.pointer (some ⟨p, 0, none⟩))).cell? ⟨p, 2, none⟩ = some (.pointer (some ⟨q', 0, none⟩)) := (World.cell?_setCell_other _ _ _ _ (by simp)).trans p2
      rw [hp] at hW
      obtain ⟨T3, G3⟩ := hW W2 _ hW2.symm (.inl rfl)
      obtain ⟨W3, hW3⟩ : ∃ y, ((W2.setCell ⟨q', 3, none⟩ (.pointer (some ⟨p, 0, none⟩))).setCell ⟨r n, 2, none⟩ (.pointer (some ⟨p, 0, none⟩))).drew = y := ⟨_, rfl⟩
      have HW3 := Lib.hid hW3
      have T3' := T3.drew
      have G3' := G3.drew
      rw [hW3] at T3' G3'
      clear T3 G3 hW
      have hgo := G3'.obj { g with pl := g.pl ++ [(n, p)] } (by simp)
      have x3 : W3.cell? ⟨g.x, 3, none⟩ = some g.pv := hgo.x3
      have xf := hgo.xt.free 3
      have hrow : PRow g.pv g.pr W3 := hgo.places
      obtain ⟨pp, cap, hpv⟩ := WRow.sl hrow
      rw [hpv] at x3
      obtain ⟨W4, hW4⟩ : ∃ y, W3.alloc (.cells #[.pointer (some ⟨p, 0, none⟩)] 145) = y := ⟨_, rfl⟩
      have t4 : Turn NoBlock W3 W4 := by rw [← hW4]; exact (Turn.refl _ W3).alloc _
      have hrd : Rd W4 1 (.slice (some ⟨W3.heap.size, 0, none⟩) 1 1) 1 (pcells [p]) := by rw [← hW4]; exact rd_new W3 145 1 #[.pointer (some ⟨p, 0, none⟩)] rfl
      obtain ⟨iP, hiP, hzP, hsP, hbP⟩ := info_parts infoPp
      obtain ⟨v5, W5, hap, w5, t5, k5⟩ := WRow.append (WRow.kept hrow t4 (fun _ _ h => h)) 104 104 iP _ 8 placesT hiP hzP hsP hbP rfl (hrd.src 104 145 placesT (pcells_one _)) (by unfold maxLen; have := HL.out; omega) (by have := HL.out; omega)
      rw [hpv] at hap
      obtain ⟨p5, cap5, rfl⟩ := w5.sl
      have r5 : PRow (.slice p5 (g.pr.length + 1) cap5) (g.pr ++ [p]) W5 := by
        unfold PRow pcells
        rw [List.map_append, List.length_append]
        exact w5
      have t35 : Turn (Blk g.pv) W3 W5 := (TU t4).trans t5 (fun _ h => .inl h)
      obtain ⟨G6, T6⟩ := G3'.placed (g := { g with pl := g.pl ++ [(n, p)] }) t35 r5 (fun k hk => (k5 k hk).imp id (fun e => by have := t4.size; omega))
      have x6 : W5.cell? ⟨g.x, 3, none⟩ = some (.slice pp g.pr.length cap) := t35.cell x3 (fun hk => blk_typed hrow hgo.xt (by decide) hk)
      have f6 : W5.frozen? ⟨g.x, 3, none⟩ = false := ((hgo.xt).kept t35 (fun hk => blk_typed hrow hgo.xt (by decide) hk)).free 3
      have RES := Lib.hid (show ∃ g' r' K', StoodAs w c most tm lm T nT A g g' r r' K K' n (W5.setCell ⟨g.x, 3, none⟩ (.slice p5 (g.pr.length + 1) cap5)) from by
        refine ⟨{ g with pv := .slice p5 (g.pr.length + 1) cap5, pr := g.pr ++ [p], pl := g.pl ++ [(n, p)] }, r, K, rfl, rfl, rfl, ?_, ?_, G6, fun h0 => hTi' h0 p hin, fun k hk => ?_, ?_⟩
        · show g.pr ++ [p] = (g.pl ++ [(n, p)]).map Prod.snd
          rw [HPR.out, List.map_append]; rfl
        · show (g.pl ++ [(n, p)]).map Prod.fst = addLn (g.pl.map Prod.fst) n
          unfold addLn
          rw [if_neg hin, List.map_append]; rfl
        · rcases hk with hk | hk | hk | ⟨y, hy, hk⟩ | hk
          · exact .inl (.inl hk)
          · exact .inl (.inr (.inl hk))
          · exact .inl (.inr (.inr (.inl hk)))
          · rcases List.mem_append.1 hy with h2 | h2
            · exact .inl (.inr (.inr (.inr (.inl ⟨y, List.mem_append_left _ h2, hk⟩))))
            · rw [List.mem_singleton] at h2
              subst h2
              rcases hk with hk | hk | hk | ⟨m, pm, hm, hk⟩
              · exact .inl (.inr (.inr (.inr (.inl ⟨g, by simp, .inl hk⟩))))
              · exact .inl (.inr (.inr (.inr (.inl ⟨g, by simp, .inr (.inl hk)⟩))))
              · rcases k5 k hk with h3 | h3
                · exact .inl (.inr (.inr (.inr (.inl ⟨g, by simp, .inr (.inr (.inl h3))⟩))))
                · exact .inr (by have := t4.size; have := T3'.size; have := T1.size; omega)
              · rcases List.mem_append.1 hm with h3 | h3
                · exact .inl (.inr (.inr (.inr (.inl ⟨g, by simp, .inr (.inr (.inr ⟨m, pm, h3, hk⟩))⟩))))
                · rw [List.mem_singleton] at h3
                  cases h3
                  exact .inr (by have := T1.size; omega)
          · exact hFo k (.inr (.inr (.inr (.inr hk))))
        · have e1 : ∀ k, GFoot c tm lm (A ++ [g]) r K k → GFoot c tm lm (A ++ [g]) r K k ∨ w.heap.size ≤ k := hFo
          refine (T1.trans T3' (fun k hk => ?_)).trans T6 (fun k hk => ?_)
          · rcases hk with rfl | rfl
            · exact e1 _ fq
            · exact e1 _ fr
          · rcases hk with rfl | hk
            · exact .inl (.inr (.inr (.inr (.inl ⟨g, by simp, .inl rfl⟩))))
            · exact .inl (.inr (.inr (.inr (.inl ⟨g, by simp, .inr (.inr (.inl hk))⟩)))))
      rw [← hW4] at hap
      clear G1 hbb hTi hTi' hFo hin T1 hK1 b2 tq tr q3 fq fr tA hb T3' G3' hgo hrow hpv t4 hrd hiP hzP hsP hbP w5 t5 k5 r5 t35 G6 T6 hW3 hW4
      have HP2 := Lib.hid hp
      have HW2 := Lib.hid hW2
      clear hp hW2
      go_enter Try.func53, Try.ntmps53
      go_wp2
      rw [HP2.out, HW2.out]
      go_region
      rw [HW3.out]
      go_wp2_with (at_builtin; refine Lib.wpList_append_run _ rfl (.tmp 63) (.tmp 65) 104 104 rfl _ _ rfl rfl _ _ (hap _) ?_)
      go_end0
      exact ⟨rfl, RES.out⟩

  · have CR := newroot_any w
    have HG := Lib.hid h
    have HTT := Lib.hid hTight
    have hN := Lib.hid hn
    have HKn := Lib.hid (And.intro hK hKl)
    unfold LK at hlk
    rw [if_neg hK] at hlk
    unfold ptrOf at hlk
    simp only [Option.isSome_none] at hlk
    clear h hpr hTight hK hl hKl
    obtain ⟨b, hb0⟩ : ∃ y, w.heap.size = y := ⟨_, rfl⟩
    rw [hb0] at CR
    have PRE := Lib.hid (show ∀ w3, RtM w3 b [] → Turn NoBlock w w3 → b < w3.heap.size → ∃ W1 r1 K1 q v, w3.cell? ⟨c, 2, none⟩ = some (.map (some lm)) ∧ Sem.run Try.prog (Instr.mapUpdate 96 (.map (some lm)) (.int .i64 n) (.pointer (some ⟨b, 0, none⟩))) w3 = .ok () W1 ∧
        W1.cell? ⟨b, 2, none⟩ = some (.pointer (some ⟨q, 0, none⟩)) ∧ W1.cell? ⟨q, 1, none⟩ = some (.pointer v) ∧
        (binOp .eql 102 (.pointer v) (.pointer (some ⟨g.x, 0, none⟩))).run Try.prog W1 = .ok (.bool (decide (n ∈ g.pl.map Prod.fst))) W1 ∧
        Hid (r1 n = b ∧ GMem W1 c most tm lm T nT (A ++ [g]) r1 K1 ∧ n ∈ K1 ∧ Turn (GFoot c tm lm (A ++ [g]) r K) w W1 ∧ (∀ k, GFoot c tm lm (A ++ [g]) r1 K1 k → GFoot c tm lm (A ++ [g]) r K k ∨ w.heap.size ≤ k) ∧ (∀ m ∈ K1, m ∈ K ∨ m = n)) from by
      intro w3 rt t3 lt3
      have G3 := HG.out.past t3
      obtain ⟨W1, hmu, hm1, t1⟩ := G3.lmap.put lmapU (by unfold maxLen; have := HKn.out.2; omega) n b hN.out
      have hnone : (LK r K n).isSome = false := by unfold LK; rw [if_neg HKn.out.1]; rfl
      rw [hnone] at hm1
      simp only [Bool.false_eq_true, if_false] at hm1
      have G1 := HG.out.root HKn.out.1 t3 (by omega) lt3 rt t1 hm1
      obtain ⟨r1, hr1⟩ : ∃ y, (fun m => if m = n then b else r m) = y := ⟨_, rfl⟩
      have hrb : r1 n = b := by rw [← hr1]; simp
      have hro : ∀ m, m ≠ n → r1 m = r m := fun m hm => by rw [← hr1]; simp [hm]
      rw [hr1] at G1
      obtain ⟨q, v, a2, a1, -, heq⟩ := G1.lastIs2 (n := n) List.mem_cons_self
      rw [hrb] at a2
      refine ⟨W1, r1, n :: K, q, v, G3.c2, hmu, a2, a1, heq, ⟨hrb, G1, List.mem_cons_self, (TU t3).trans (t1.mono (G := GFoot c tm lm (A ++ [g]) r K) (fun k hk => .inl (.inr (.inr (.inl hk))))) (fun _ h => .inl h), fun k hk => ?_, fun m hm => (List.mem_cons.1 hm).symm⟩⟩
      rcases hk with hk | hk | hk | hk | ⟨m, hm, hk⟩
      · exact .inl (.inl hk)
      · exact .inl (.inr (.inl hk))
      · exact .inl (.inr (.inr (.inl hk)))
      · exact .inl (.inr (.inr (.inr (.inl hk))))
      · by_cases hmn : m = n
        · subst hmn; exact .inr (by omega)
        · exact .inl (.inr (.inr (.inr (.inr ⟨m, (List.mem_cons.1 hm).resolve_left hmn, by rw [← hro m hmn]; exact hk⟩)))))
    clear hb0
    have HTp := Lib.hid (show ∀ (K1 : List Int), (∀ m ∈ K1, m ∈ K ∨ m = n) → Tight (A ++ [g]) K → ∀ p, n ∉ g.pl.map Prod.fst → ∀ {v l}, Tight (A ++ [{ g with pl := g.pl ++ [(n, p)], pv := v, pr := l }]) K1 from fun K1 hK1 h0 p hp {v l} => HTT.out _ K1 (.inr ⟨p, hp, rfl⟩) hK1 (fun _ => by
      rw [inL_app, inL_cons]
      have : ({ g with pl := g.pl ++ [(n, p)], pv := v, pr := l } : Gw).at n = some p := by unfold Gw.at; rw [look_snoc hp]; simp
      rw [this]
      simp) h0)
    have HTq := Lib.hid (show ∀ (K1 : List Int), (∀ m ∈ K1, m ∈ K ∨ m = n) → Tight (A ++ [g]) K → n ∈ g.pl.map Prod.fst → Tight (A ++ [g]) K1 from fun K1 hK1 h0 hin => HTT.out _ K1 (.inl rfl) hK1 (fun _ => by
      rw [inL_app, inL_cons]
      cases hg : g.at n with
      | none => exact absurd hin (look_none.1 hg)
      | some y => simp) h0)
    clear HTT
    obtain ⟨bb, hbb⟩ : ∃ bb, decide (n ∈ g.pl.map Prod.fst) = bb := ⟨_, rfl⟩
    cases bb with
    | true =>
      have hin := of_decide_eq_true hbb
      have HBB := Lib.hid hbb
      have HIN := Lib.hid hin
      rw [hbb] at PRE
      clear hbb hin
      go_enter Try.func53, Try.ntmps53
      go_wp2_with (go_at_call 81; refine CR.mono ?_; rintro e w3 ⟨rfl, rt, t3, lt3⟩; obtain ⟨W1, r1, K1, q, v, d2, hmu, a2, a1, heq, HQ⟩ := PRE.out w3 rt t3 lt3; clear rt t3 lt3)
      have hbb := HBB.out
      have hin := HIN.out
      obtain ⟨hrb, G1, hK1, T1, hFo, hKm⟩ := HQ.out
      have hTi : Tight (A ++ [g]) K → n ∈ g.pl.map Prod.fst → Tight (A ++ [g]) K1 := HTq.out _ hKm
      have hTi' : Tight (A ++ [g]) K → ∀ p, n ∉ g.pl.map Prod.fst → ∀ {v l}, Tight (A ++ [{ g with pl := g.pl ++ [(n, p)], pv := v, pr := l }]) K1 := HTp.out _ hKm
      have RES := Lib.hid (show ∃ g' r' K', StoodAs w c most tm lm T nT A g g' r r' K K' n W1 from
        ⟨g, r1, K1, rfl, rfl, rfl, HPR.out, by unfold addLn; rw [if_pos hin], G1, fun h0 => hTi h0 hin, hFo, T1⟩)
      clear G1 hbb hTi hTi' hFo hin T1 hK1
      refine bodyPost_ret (results_none rfl _ _ _) rfl ?_
      exact ⟨rfl, RES.out⟩
    | false =>
      have hin := of_decide_eq_false hbb
      have HBB := Lib.hid hbb
      have HIN := Lib.hid hin
      rw [hbb] at PRE
      clear hbb hin
      go_enter Try.func53, Try.ntmps53
      go_wp2_with (go_at_call 81; refine CR.mono ?_; rintro e w3 ⟨rfl, rt, t3, lt3⟩; obtain ⟨W1, r1, K1, q, v, d2, hmu, a2, a1, heq, HQ⟩ := PRE.out w3 rt t3 lt3; clear rt t3 lt3)
      have hbb := HBB.out
      have hin := HIN.out
      obtain ⟨hrb, G1, hK1, T1, hFo, hKm⟩ := HQ.out
      have hTi : Tight (A ++ [g]) K → n ∈ g.pl.map Prod.fst → Tight (A ++ [g]) K1 := HTq.out _ hKm
      have hTi' : Tight (A ++ [g]) K → ∀ p, n ∉ g.pl.map Prod.fst → ∀ {v l}, Tight (A ++ [{ g with pl := g.pl ++ [(n, p)], pv := v, pr := l }]) K1 := HTp.out _ hKm
      obtain ⟨q', b2, tq, tr, ⟨u3, q3⟩, fq, fr, hW⟩ := G1.linkin hK1 hin
      rw [hrb] at b2 tr fr hW
      have hqq : q' = q := by
        have := b2.symm.trans a2
        unfold ptr at this
        simpa using this
      subst hqq
      unfold ptr at hW
      obtain ⟨p, hp⟩ : ∃ y, W1.heap.size = y := ⟨_, rfl⟩
      obtain ⟨W2, hW2⟩ : ∃ y, W1.alloc (.cells #[.int .i64 n, .pointer (some ⟨g.x, 0, none⟩), .pointer (some ⟨q', 0, none⟩), .pointer (some ⟨b, 0, none⟩)] 149) = y := ⟨_, rfl⟩
      have tA : Turn NoBlock W1 W2 := by rw [← hW2]; exact (Turn.refl _ W1).alloc _
      have hb : W2.heap[p]? = some (.cells #[.int .i64 n, .pointer (some ⟨g.x, 0, none⟩), .pointer (some ⟨q', 0, none⟩), .pointer (some ⟨b, 0, none⟩)] 149 (0, 0)) := by rw [← hW2, ← hp]; exact heap_alloc_new W1 _
      have p2 : W2.cell? ⟨p, 2, none⟩ = some (.pointer (some ⟨q', 0, none⟩)) := cell_at hb 2
      have p3 : W2.cell? ⟨p, 3, none⟩ = some (.pointer (some ⟨b, 0, none⟩)) := cell_at hb 3
      have hpq : p ≠ q' := fun e => by have := tq.lt; omega
      have hpr' : p ≠ b := fun e => by have := tr.lt; omega
      have q3' := tA.cell q3 (fun h => h)
      have r2' := tA.cell a2 (fun h => h)
      have fr1 := (tq.kept tA (fun h => h)).free 3
      have fr2 := (tr.kept tA (fun h => h)).free 2
      have z1 : (W2.setCell ⟨q', 3, none⟩ (.pointer (some ⟨p, 0, none⟩))).cell? ⟨p, 3, none⟩ = some (.pointer (some ⟨b, 0, none⟩)) := (World.cell?_setCell_other _ _ _ _ (by simp)).trans p3
      have z2 : (W2.setCell ⟨b, 2, none⟩ (.pointer (some ⟨p, 0, none⟩))).cell? ⟨p, 2, none⟩ = some (.pointer (some ⟨q', 0, none⟩)) := (World.cell?_setCell_other _ _ _ _ (by simp)).trans p2
      rw [hp] at hW
      obtain ⟨T3, G3⟩ := hW W2 _ hW2.symm (.inl rfl)
      obtain ⟨W3, hW3⟩ : ∃ y, ((W2.setCell ⟨q', 3, none⟩ (.pointer (some ⟨p, 0, none⟩))).setCell ⟨b, 2, none⟩ (.pointer (some ⟨p, 0, none⟩))).drew = y := ⟨_, rfl⟩
      have HW3 := Lib.hid hW3
      have T3' := T3.drew
      have G3' := G3.drew
      rw [hW3] at T3' G3'
      clear T3 G3 hW
      have hgo := G3'.obj { g with pl := g.pl ++ [(n, p)] } (by simp)
      have x3 : W3.cell? ⟨g.x, 3, none⟩ = some g.pv := hgo.x3
      have xf := hgo.xt.free 3
      have hrow : PRow g.pv g.pr W3 := hgo.places
      obtain ⟨pp, cap, hpv⟩ := WRow.sl hrow
      rw [hpv] at x3
      obtain ⟨W4, hW4⟩ : ∃ y, W3.alloc (.cells #[.pointer (some ⟨p, 0, none⟩)] 145) = y := ⟨_, rfl⟩
      have t4 : Turn NoBlock W3 W4 := by rw [← hW4]; exact (Turn.refl _ W3).alloc _
      have hrd : Rd W4 1 (.slice (some ⟨W3.heap.size, 0, none⟩) 1 1) 1 (pcells [p]) := by rw [← hW4]; exact rd_new W3 145 1 #[.pointer (some ⟨p, 0, none⟩)] rfl
      obtain ⟨iP, hiP, hzP, hsP, hbP⟩ := info_parts infoPp
      obtain ⟨v5, W5, hap, w5, t5, k5⟩ := WRow.append (WRow.kept hrow t4 (fun _ _ h => h)) 104 104 iP _ 8 placesT hiP hzP hsP hbP rfl (hrd.src 104 145 placesT (pcells_one _)) (by unfold maxLen; have := HL.out; omega) (by have := HL.out; omega)
      rw [hpv] at hap
      obtain ⟨p5, cap5, rfl⟩ := w5.sl
      have r5 : PRow (.slice p5 (g.pr.length + 1) cap5) (g.pr ++ [p]) W5 := by
        unfold PRow pcells
        rw [List.map_append, List.length_append]
        exact w5
      have t35 : Turn (Blk g.pv) W3 W5 := (TU t4).trans t5 (fun _ h => .inl h)
      obtain ⟨G6, T6⟩ := G3'.placed (g := { g with pl := g.pl ++ [(n, p)] }) t35 r5 (fun k hk => (k5 k hk).imp id (fun e => by have := t4.size; omega))
      have x6 : W5.cell? ⟨g.x, 3, none⟩ = some (.slice pp g.pr.length cap) := t35.cell x3 (fun hk => blk_typed hrow hgo.xt (by decide) hk)
      have f6 : W5.frozen? ⟨g.x, 3, none⟩ = false := ((hgo.xt).kept t35 (fun hk => blk_typed hrow hgo.xt (by decide) hk)).free 3
      have RES := Lib.hid (show ∃ g' r' K', StoodAs w c most tm lm T nT A g g' r r' K K' n (W5.setCell ⟨g.x, 3, none⟩ (.slice p5 (g.pr.length + 1) cap5)) from by
        refine ⟨{ g with pv := .slice p5 (g.pr.length + 1) cap5, pr := g.pr ++ [p], pl := g.pl ++ [(n, p)] }, r1, K1, rfl, rfl, rfl, ?_, ?_, G6, fun h0 => hTi' h0 p hin, fun k hk => ?_, ?_⟩
        · show g.pr ++ [p] = (g.pl ++ [(n, p)]).map Prod.snd
          rw [HPR.out, List.map_append]; rfl
        · show (g.pl ++ [(n, p)]).map Prod.fst = addLn (g.pl.map Prod.fst) n
          unfold addLn
          rw [if_neg hin, List.map_append]; rfl
        · rcases hk with hk | hk | hk | ⟨y, hy, hk⟩ | hk
          · exact .inl (.inl hk)
          · exact .inl (.inr (.inl hk))
          · exact .inl (.inr (.inr (.inl hk)))
          · rcases List.mem_append.1 hy with h2 | h2
            · exact .inl (.inr (.inr (.inr (.inl ⟨y, List.mem_append_left _ h2, hk⟩))))
            · rw [List.mem_singleton] at h2
              subst h2
              rcases hk with hk | hk | hk | ⟨m, pm, hm, hk⟩
              · exact .inl (.inr (.inr (.inr (.inl ⟨g, by simp, .inl hk⟩))))
              · exact .inl (.inr (.inr (.inr (.inl ⟨g, by simp, .inr (.inl hk)⟩))))
              · rcases k5 k hk with h3 | h3
                · exact .inl (.inr (.inr (.inr (.inl ⟨g, by simp, .inr (.inr (.inl h3))⟩))))
                · exact .inr (by have := t4.size; have := T3'.size; have := T1.size; omega)
              · rcases List.mem_append.1 hm with h3 | h3
                · exact .inl (.inr (.inr (.inr (.inl ⟨g, by simp, .inr (.inr (.inr ⟨m, pm, h3, hk⟩))⟩))))
                · rw [List.mem_singleton] at h3
                  cases h3
                  exact .inr (by have := T1.size; omega)
          · exact hFo k (.inr (.inr (.inr (.inr hk))))
        · have e1 : ∀ k, GFoot c tm lm (A ++ [g]) r1 K1 k → GFoot c tm lm (A ++ [g]) r K k ∨ w.heap.size ≤ k := hFo
          refine (T1.trans T3' (fun k hk => ?_)).trans T6 (fun k hk => ?_)
          · rcases hk with rfl | rfl
            · exact e1 _ fq
            · exact e1 _ fr
          · rcases hk with rfl | hk
            · exact .inl (.inr (.inr (.inr (.inl ⟨g, by simp, .inl rfl⟩))))
            · exact .inl (.inr (.inr (.inr (.inl ⟨g, by simp, .inr (.inr (.inl hk))⟩)))))
      rw [← hW4] at hap
      clear G1 hbb hTi hTi' hFo hin T1 hK1 b2 tq tr q3 fq fr tA hb T3' G3' hgo hrow hpv t4 hrd hiP hzP hsP hbP w5 t5 k5 r5 t35 G6 T6 hW3 hW4
      have HP2 := Lib.hid hp
      have HW2 := Lib.hid hW2
      clear hp hW2
      rw [HP2.out, HW2.out]
      go_region
      rw [HW3.out]
      go_wp2_with (at_builtin; refine Lib.wpList_append_run _ rfl (.tmp 63) (.tmp 65) 104 104 rfl _ _ rfl rfl _ _ (hap _) ?_)
      go_end0
      exact ⟨rfl, RES.out⟩

end
end Go.Proofs.Ytabakjimlndhcaa
