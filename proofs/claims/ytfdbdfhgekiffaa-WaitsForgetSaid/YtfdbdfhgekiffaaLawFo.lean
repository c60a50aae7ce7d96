/-
  WaitsForget's walk. Conditions: the arguments can be read.
-/
import Derived.Test.YtfdbdfhgekiffaaLawFoM
import Derived.Test.YtfdbdfhgekiffaaBView
namespace Go.Proofs.Ytfdbdfhgekiffaa
open Go.ChangeShapes Go.WideShapes Go.ChangeAt Go.RowKit Go.Shelf

/-- How far the threads have come. -/
structure FoI (w wr : World) (c : Nat) (v : Value) (j : Nat) (ts : List Int) : Prop where
  fs : FS w wr c (FL 5 2 1 ts) v ts
  nod : ts.Nodup
  len : ts.length ≤ j
  fit : ∀ t ∈ ts, 0 ≤ t ∧ fit t
theorem FoI.block {w wr : World} {c : Nat} {v : Value} {j : Nat} {ts : List Int} (h : FoI w wr c v j ts) (hj : j < 100) (t : Int) (ht : Go.Proofs.Ytfdbdfhgekiffaa.fit t) :
    Calls Try.prog 11 #[.pointer (some ⟨c, 0, none⟩), .int .i64 t, .int .i64 5, .slice (some ⟨wr.heap.size, 0, none⟩) 1 1] (wr.alloc (.cells #[.int .i64 2, .int .i64 1] 40)) fun x w' => x = .returned (.int .i64 (fS ts t)) ∧ FS w w' c (FL 5 2 1 (fT ts t)) v ts := by
  have hl := h.len
  refine (h.fs.block t 5 2 1 ht (fit_small _ (by omega)) (fit_small _ (by omega)) (fit_small _ (by omega))).mono ?_
  intro x w' hh
  rw [FL_blk 5 2 1 (by omega) ts t (by omega), FL_blkL 5 2 1 (by omega) ts t (by omega)] at hh
  exact hh
theorem FoI.same {w wr : World} {c : Nat} {v : Value} {j : Nat} {ts : List Int} {t : Int} (h : FoI w wr c v j ts) {w' : World} (hf : FS w w' c (FL 5 2 1 (fT ts t)) v ts) (h0 : fS ts t ≠ 0) : FoI w w' c v (j + 1) ts := by
  have e : fT ts t = ts := by unfold fT; rw [if_neg h0]
  rw [e] at hf
  exact ⟨hf, h.nod, by have := h.len; omega, h.fit⟩
theorem FoI.more {w wr : World} {c : Nat} {v : Value} {j : Nat} {ts : List Int} {t : Int} (h : FoI w wr c v j ts) {w' : World} {v' : Value} (hf : FS w w' c (FL 5 2 1 (fT ts t)) v' (ts ++ [t])) (h0 : fS ts t = 0) (ht : Go.Proofs.Ytfdbdfhgekiffaa.fit t) : FoI w w' c v' (j + 1) (ts ++ [t]) := by
  have e : fT ts t = ts ++ [t] := by unfold fT; rw [if_pos h0]
  have hn := fT_nodup h.nod t
  rw [e] at hf hn
  refine ⟨hf, hn, by have := h.len; simp; omega, fun x hx => ?_⟩
  rcases List.mem_append.1 hx with hx | hx
  · exact h.fit x hx
  · rw [List.mem_singleton] at hx
    subst hx
    refine ⟨?_, ht⟩
    unfold fS at h0
    split at h0
    · omega
    · omega
/-- The calls about the one that is forgotten. -/
structure FoC (w : World) (c : Nat) (v : Value) (ts us : List Int) (g : Int) : Prop where
  c1 : ∀ W, FS w W c (FL 5 2 1 ts) v ts → Calls Try.prog 19 #[.pointer (some ⟨c, 0, none⟩), .int .i64 g] W fun x w' => x = .returned (.int .i64 0) ∧ FS w w' c (FL 5 2 1 us) v ts
  c2 : ∀ W, FS w W c (FL 5 2 1 us) v ts → Calls Try.prog 19 #[.pointer (some ⟨c, 0, none⟩), .int .i64 g] W fun x w' => x = .returned (.int .i64 (-25)) ∧ FS w w' c (FL 5 2 1 us) v ts
  c3 : ∀ W, FS w W c (FL 5 2 1 us) v ts → Calls Try.prog 25 #[.pointer (some ⟨c, 0, none⟩), .int .i64 g] W fun x w' => x = .returned (.bool false) ∧ W = w'
  c4 : ∀ W, FS w W c (FL 5 2 1 us) v ts → Calls Try.prog 11 #[.pointer (some ⟨c, 0, none⟩), .int .i64 g, .int .i64 9, .slice (some ⟨W.heap.size, 0, none⟩) 1 1] (W.alloc (.cells #[.int .i64 3, .int .i64 1] 40)) fun x w' => x = .returned (.int .i64 0) ∧ FS w w' c (FL 5 2 1 us ++ [⟨g, 9, [⟨3, 1⟩]⟩]) v ts
  c5 : ∀ W, FS w W c (FL 5 2 1 us ++ [⟨g, 9, [⟨3, 1⟩]⟩]) v ts → Calls Try.prog 14 #[.pointer (some ⟨c, 0, none⟩), .int .i64 2, .int .i64 1] W fun x w' => ∃ u, x = .returned u ∧ KRow u (us.map (fun t => ⟨t, 0, 0, 1⟩)) w' ∧ FS w w' c [⟨g, 9, [⟨3, 1⟩]⟩] v ts
  c6 : ∀ W, FS w W c [⟨g, 9, [⟨3, 1⟩]⟩] v ts → Calls Try.prog 25 #[.pointer (some ⟨c, 0, none⟩), .int .i64 g] W fun x w' => x = .returned (.bool true) ∧ W = w'
  c7 : ∀ W, FS w W c [⟨g, 9, [⟨3, 1⟩]⟩] v ts → Calls Try.prog 24 #[.pointer (some ⟨c, 0, none⟩)] W fun x w' => x = .returned (.int .i64 1) ∧ W = w'
  c8 : ∀ W, FS w W c [⟨g, 9, [⟨3, 1⟩]⟩] v ts → Calls Try.prog 18 #[.pointer (some ⟨c, 0, none⟩), .int .i64 3] W fun x w' => ∃ u, x = .returned u ∧ KRow u [⟨g, 0, -23, 0⟩] w' ∧ Turn NoBlock w w'
  len : us.length + 1 = ts.length
  ne : ∀ t ∈ us, (t == g) = false
theorem foc_of {w wr : World} {c : Nat} {v : Value} {j : Nat} {ts : List Int} (h : FoI w wr c v j ts) (hj : j ≤ 60) {g : Int} (hg : g ∈ ts) : ∃ us, FoC w c v ts us g := by
  have hl := h.len
  have hgf := h.fit g hg
  have hlen := del_len h.nod hg
  have hcn : (ts.filter (fun t => t != g)).contains g = false := by
    rw [← Bool.not_eq_true, List.contains_iff_mem]
    intro hm
    have := (List.mem_filter.1 hm).2
    simp at this
  have hct : ts.contains g = true := List.contains_iff_mem.2 hg
  have hfu : (ts.filter (fun t => t != g)).filter (fun t => t != g) = ts.filter (fun t => t != g) := by
    rw [List.filter_filter]
    simp
  have m1 : meetB 1 1 = true := by decide
  refine ⟨ts.filter (fun t => t != g), fun W hW => (hW.forget g hgf.2).mono (fun x w' hh => ?_), fun W hW => (hW.forget g hgf.2).mono (fun x w' hh => ?_), fun W hW => (hW.st.blocked g hgf.2).mono (fun x w' hh => ?_), fun W hW => (hW.block g 9 3 1 hgf.2 (fit_small _ (by omega)) (fit_small _ (by omega)) (fit_small _ (by omega))).mono (fun x w' hh => ?_), fun W hW => (hW.st.tell 2 1 (fit_small _ (by omega))).mono (fun x w' hh => ?_), fun W hW => (hW.st.blocked g hgf.2).mono (fun x w' hh => ?_), fun W hW => hW.st.count, fun W hW => (hW.st.cancel 3 (fit_small _ (by omega))).mono (fun x w' hh => ?_), hlen, fun t ht => ?_⟩
  · rw [show frgS (FL 5 2 1 ts) g = 0 by unfold frgS; rw [FL_has, hct]; rfl, FL_frg] at hh
    exact hh
  · rw [show frgS (FL 5 2 1 (ts.filter (fun t => t != g))) g = -25 by unfold frgS; rw [FL_has, hcn]; rfl, FL_frg, hfu] at hh
    exact hh
  · rw [FL_has, hcn] at hh
    exact hh
  · have e : blkS 100 (FL 5 2 1 (ts.filter (fun t => t != g))) g [⟨3, 1⟩] = 0 := by
      unfold blkS
      rw [posB_one 3 1 (by omega), FL_has, hcn, if_neg (by simp; omega), if_neg (by simp), if_neg (by unfold FL; rw [List.length_map]; omega)]
    unfold blkL at hh
    rw [e, if_pos rfl] at hh
    exact hh
  · obtain ⟨u, h1, h2, h3, h4, h5⟩ := hh
    obtain ⟨e1, e2⟩ := FL_wk 5 2 1 (fun m => meetB m 1) m1 0 1 (ts.filter (fun t => t != g))
    have f1 : fitI (fun m => meetB m 1) 2 [⟨3, 1⟩] = none := by decide
    have e3 : ([⟨g, 9, [⟨3, 1⟩]⟩] : List Wt).filterMap (wkA (fun m => meetB m 1) 2 0 1) = [] := by simp [wkA, f1]
    have e4 : ([⟨g, 9, [⟨3, 1⟩]⟩] : List Wt).filter (keepA (fun m => meetB m 1) 2) = [⟨g, 9, [⟨3, 1⟩]⟩] := by simp [keepA, f1]
    rw [List.filterMap_append, e1, e3, List.append_nil] at h2
    rw [List.filter_append, e2, e4, List.nil_append] at h3
    exact ⟨u, h1, h2, h3, h4.row hW.row (fun k hk => hk), hW.fr⟩
  · have : hasW [⟨g, 9, [⟨3, 1⟩]⟩] g = true := by simp [hasW]
    rw [this] at hh
    exact hh
  · obtain ⟨u, h1, h2, h3, h4, h5⟩ := hh
    have f1 : fitI (fun _ => true) 3 [⟨3, 1⟩] = some 0 := by decide
    have e3 : ([⟨g, 9, [⟨3, 1⟩]⟩] : List Wt).filterMap (wkA (fun _ => true) 3 (-23) 0) = [⟨g, 0, -23, 0⟩] := by simp [wkA, f1]
    rw [e3] at h2
    exact ⟨u, h1, h2, h3.turn⟩
  · have := (List.mem_filter.1 ht).2
    simpa using this
set_option maxRecDepth 20000 in
set_option maxHeartbeats 2000000 in
theorem fo_walk (at' : Int) (sp : Option Addr) (len cap : Nat) (zs : List Int) (w : World) (h : ZsAt w sp len zs) :
    Calls Try.prog 7 #[.slice sp len cap, .int .i64 at'] w fun e w' => e = .returned (.bool true) ∧ Turn NoBlock w w' := by
  have CN := Lib.hid (wst_new 100 w (by omega) (by omega))
  have CA := Lib.hid awake16
  by_cases hbig : 60 < len
  · have hbi : (60 : Int) < (len : Int) := by omega
    clear h
    go_enter Try.func7, Try.ntmps7
    go_wp2_with (first
      | (go_at_call 8; (with_reducible refine CN.out.mono ?_); rintro x w1 ⟨c, rfl, k1, -⟩; have K1 := Lib.hid k1; clear k1)
      | (go_at_call 9; (with_reducible refine (CA.out _).mono ?_); rintro x w2 ⟨rfl, t2⟩; have T2 := Lib.hid t2; clear t2))
    go_ret
    exact ⟨rfl, TT K1.out.turn T2.out⟩
  · have hbi : ¬ (60 : Int) < (len : Int) := by omega
    have HZ := Lib.hid h
    clear h
    go_enter Try.func7, Try.ntmps7
    go_wp2_with (go_at_call 8; (with_reducible refine CN.out.mono ?_); rintro x w1 ⟨c, rfl, k1, -⟩; have K1 := Lib.hid k1; clear k1)
    go_loopg [6, 8, 29] len (fun z s6 s8 s29 wr => ∃ (j : Nat) (ts : List Int), j ≤ len ∧ z = len - j ∧ s29 = .int .i64 (j : Int) ∧ Hid (FoI w wr c s6 j ts))
    case atStart => exact ⟨0, [], by omega, by omega, rfl, Lib.hid ⟨⟨K1.out.fewer (fun k hk => (blk_nil k hk).elim), wrow_nil _ _ _, fun k hk => (blk_nil k hk).elim⟩, List.nodup_nil, by simp, fun t ht => by cases ht⟩⟩
    case round =>
      obtain ⟨j, ts, hj, hz, rfl, HI⟩ := hrel
      by_cases hlt : j < len
      · have hjn : (j : Int) < (len : Int) := by omega
        obtain ⟨hzl, hzf, hzc⟩ := HZ.out
        obtain ⟨g, o, rfl, hcell⟩ := hzc (by omega)
        obtain ⟨t, ht⟩ : ∃ t, zs[j]? = some t := ⟨_, List.getElem?_eq_getElem (by omega)⟩
        have d0 := HI.out.fs.st.turn.cell (hcell j t ht) (fun h => h)
        have htf := hzf t (List.mem_of_getElem? ht)
        have CB := Lib.hid (HI.out.block (by omega) t htf)
        have HT := Lib.hid htf
        clear hzl hzf hzc hcell ht htf
        by_cases hs : fS ts t = 0
        · rw [hs] at CB
          have HS := Lib.hid hs
          have hl6 : ts.length ≤ 1000 := by have := HI.out.len; omega
          go_wp2_with (first
            | (go_at_call 11; (with_reducible refine CB.out.mono ?_); rintro x w2 ⟨rfl, k2⟩; obtain ⟨p, n, cc, p', cc', W1, hv, hn, hap, hf⟩ := k2.push t hl6; subst hv; have HF := Lib.hid hf; clear k2 hf hn)
            | (at_builtin; refine Lib.wpList_append_run _ rfl (.tmp 39) (.tmp 41) 53 53 rfl _ _ rfl rfl _ _ (hap _) ?_))
          go_roundg (len - (j + 1))
          case measure => omega
          case rel => exact ⟨j + 1, ts ++ [t], by omega, by omega, by go_num, Lib.hid (HI.out.more HF.out HS.out HT.out)⟩
        · have HS := Lib.hid hs
          obtain ⟨s, hse⟩ : ∃ s, fS ts t = s := ⟨_, rfl⟩
          rw [hse] at hs CB
          have hsb : (s == 0) = false := by simp [hs]
          clear hse
          go_wp2_with (go_at_call 11; (with_reducible refine CB.out.mono ?_); rintro x w2 ⟨rfl, k2⟩; have K2 := Lib.hid k2; clear k2)
          go_roundg (len - (j + 1))
          case measure => omega
          case rel => exact ⟨j + 1, ts, by omega, by omega, by go_num, Lib.hid (HI.out.same K2.out HS.out)⟩
      · obtain rfl : j = len := by omega
        have hI := HI.out
        obtain ⟨p, cc, hv⟩ := WRow.sl hI.fs.row
        obtain ⟨M, hM⟩ : ∃ M, ts.length = M := ⟨_, rfl⟩
        have hMl : M ≤ 60 := by have := hI.len; omega
        have CC := Lib.hid (hI.fs.st.count)
        rw [show (FL 5 2 1 ts).length = M by unfold FL; rw [List.length_map]; exact hM] at CC
        rw [hM] at hv
        subst hv
        have HM := Lib.hid hM
        by_cases ha : at' < 0
        · clear hI hM
          go_wp2_with (first
            | (go_at_call 24; (with_reducible refine CC.out.mono ?_); rintro x w2 ⟨rfl, rfl⟩)
            | (go_at_call 9; (with_reducible refine (CA.out _).mono ?_); rintro x w3 ⟨rfl, t3⟩; have T3 := Lib.hid t3; clear t3))
          go_ret
          exact ⟨rfl, TT HI.out.fs.st.turn T3.out⟩
        · by_cases hb : (M : Int) ≤ at'
          · clear hI hM
            go_wp2_with (first
              | (go_at_call 24; (with_reducible refine CC.out.mono ?_); rintro x w2 ⟨rfl, rfl⟩)
              | (go_at_call 9; (with_reducible refine (CA.out _).mono ?_); rintro x w3 ⟨rfl, t3⟩; have T3 := Lib.hid t3; clear t3))
            go_ret
            exact ⟨rfl, TT HI.out.fs.st.turn T3.out⟩
          · obtain ⟨k, rfl⟩ : ∃ k : Nat, at' = (k : Int) := ⟨at'.toNat, by omega⟩
            have hkM : k < M := by omega
            have hki : (k : Int) < (M : Int) := by omega
            obtain ⟨g, hg⟩ : ∃ g, ts[k]? = some g := ⟨_, List.getElem?_eq_getElem (by omega)⟩
            have hrow := hI.fs.row
            obtain ⟨ga, go, gc, he, -⟩ := WRow.shape hrow (by omega)
            simp only [Value.slice.injEq] at he
            obtain ⟨rfl, -, rfl⟩ := he
            have d0 := nums_at hrow hg
            obtain ⟨us, hc⟩ := foc_of hI (by omega) (List.mem_of_getElem? hg)
            have C1 := Lib.hid hc.c1
            have C2 := Lib.hid hc.c2
            have C3 := Lib.hid hc.c3
            have C4 := Lib.hid hc.c4
            have C5 := Lib.hid hc.c5
            have C6 := Lib.hid hc.c6
            have C7 := Lib.hid hc.c7
            have C8 := Lib.hid hc.c8
            have HNE := Lib.hid hc.ne
            have F0 := Lib.hid hI.fs
            obtain ⟨U, hU⟩ : ∃ U, us.length = U := ⟨_, rfl⟩
            have hUM : U + 1 = M := by rw [← hU, ← hM]; exact hc.len
            have ew : IntKind.i64.wrap ((M : Int) - 1) = (U : Int) := by
              rw [show (M : Int) - 1 = ((U : Nat) : Int) by omega, IntKind.wrap_i64]
              omega
            have HU := Lib.hid hU
            clear hI hM hg hrow hc hU hb ha
            go_wp2_with (first
              | (go_at_call 9; (with_reducible refine (CA.out _).mono ?_); rintro x w9 ⟨rfl, t9⟩; have T9 := Lib.hid t9; clear t9)
              | (go_at_call 24; (with_reducible refine (C7.out _ F5.out).mono ?_); rintro x w7 ⟨rfl, rfl⟩)
              | (go_at_call 25; (with_reducible refine (C6.out _ F5.out).mono ?_); rintro x w6 ⟨rfl, rfl⟩)
              | (go_at_call 14; (with_reducible refine (C5.out _ F4.out).mono ?_); rintro x w5 ⟨u, rfl, r5, f5⟩; have F5 := Lib.hid f5; have R5 := Lib.hid r5; obtain ⟨up, uc, hu5⟩ := WRow.sl r5; rw [List.length_map, HU.out] at hu5; subst hu5; clear r5 f5)
              | (go_at_call 11; (with_reducible refine (C4.out _ F2.out).mono ?_); rintro x w4 ⟨rfl, f4⟩; have F4 := Lib.hid f4; clear f4)
              | (go_at_call 25; (with_reducible refine (C3.out _ F2.out).mono ?_); rintro x w3 ⟨rfl, rfl⟩)
              | (go_at_call 19; (with_reducible refine (C2.out _ F1.out).mono ?_); rintro x w2 ⟨rfl, f2⟩; have F2 := Lib.hid f2; clear f2)
              | (go_at_call 19; (with_reducible refine (C1.out _ F0.out).mono ?_); rintro x w1 ⟨rfl, f1⟩; have F1 := Lib.hid f1; clear f1))
            go_loopg [12, 106] U (fun z s12 s106 wr => ∃ j : Nat, j ≤ U ∧ z = U - j ∧ s106 = .int .i64 (j : Int) ∧ Hid (Turn NoBlock w5 wr))
            case atStart => exact ⟨0, by omega, by omega, rfl, Lib.hid (Turn.refl _ _)⟩
            case round =>
              obtain ⟨j, hj, hz, rfl, HT⟩ := hrel
              by_cases hlt : j < U
              · have hjn : (j : Int) < (U : Int) := by omega
                obtain ⟨t, ht⟩ : ∃ t, us[j]? = some t := ⟨_, List.getElem?_eq_getElem (by rw [HU.out]; exact hlt)⟩
                have r5 := R5.out.past HT.out
                obtain ⟨gb, gp, gcc, he, -⟩ := WRow.shape r5 (by rw [List.length_map, HU.out]; omega)
                rw [List.length_map, HU.out] at he
                simp only [Value.slice.injEq] at he
                obtain ⟨rfl, -, rfl⟩ := he
                obtain ⟨q0, q1, q2, q3⟩ := r5.four (j := j) (t := ⟨t, 0, 0, 1⟩) (by rw [List.getElem?_map, ht]; rfl)
                have hne := HNE.out t (List.mem_of_getElem? ht)
                have HT2 := Lib.hid (HT.out.trans ((Turn.refl NoBlock _).alloc (.cells #[.int .i64 t, .int .i64 0, .int .i64 0, .int .i64 1] 64)) (fun _ h => .inl h))
                clear r5 ht
                go_wp2
                go_roundg (U - (j + 1))
                case measure => omega
                case rel => exact ⟨j + 1, by omega, by omega, by go_num, HT2⟩
              · obtain rfl : j = U := by omega
                have F6 := Lib.hid (F5.out.past HT.out)
                go_wp2_with (first
                  | (go_at_call 9; (with_reducible refine (CA.out _).mono ?_); rintro x w9 ⟨rfl, t9⟩; have T9 := Lib.hid t9; clear t9)
                  | (go_at_call 18; (with_reducible refine (C8.out _ F6.out).mono ?_); rintro x w8 ⟨u8, rfl, r8, t8⟩; have T8 := Lib.hid t8; obtain ⟨gb, gp, gcc, rfl, -⟩ := WRow.shape r8 (by simp); obtain ⟨q0, q1, q2, q3⟩ := r8.four (j := 0) rfl; simp only [Nat.zero_mul, Nat.add_zero] at q0 q1 q2 q3; clear r8 t8))
                go_ret
                exact ⟨rfl, TT T8.out T9.out⟩
end Go.Proofs.Ytfdbdfhgekiffaa
