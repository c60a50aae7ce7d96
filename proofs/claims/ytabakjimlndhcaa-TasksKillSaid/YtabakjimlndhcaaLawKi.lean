/-
  TasksKill's walk. Conditions: the arguments can be read.
-/
import Derived.Test.YtabakjimlndhcaaLawKiTa
import Derived.Test.YtabakjimlndhcaaLawKiTb
import Derived.Test.YtabakjimlndhcaaLawKiTc
import Derived.Test.YtabakjimlndhcaaLawKiTd
namespace Go.Proofs.Ytabakjimlndhcaa
open Go.ChangeShapes Go.WideShapes Go.ChangeAt Go.RowKit

theorem KI.row {w0 w w' : World} {c n : Nat} {T : Nat → Tk} {cb : Bool} {X : Nat → Prop} (h : KI w0 w c n T X cb) (t : Turn X w w') (hX : ∀ k, X k → w0.heap.size ≤ k) {Y : Nat → Prop} (hY : ∀ k, Y k → X k ∨ (w.heap.size ≤ k ∧ k < w'.heap.size)) : KI w0 w' c n T Y cb :=
  ⟨h.st.more t hY hX, h.no⟩
/-- The alive ones, as far as they are noted. -/
def alF (n : Nat) (T : Nat → Tk) (i q : Nat) : Value := .bool (if q < i then aliveAt n T (q : Int) else false)
/-- Behind the kill: the tree, who was alive, who died, and their places. -/
structure KP (w wr : World) (c n : Nat) (T T' : Nat → Tk) (ga gp : Nat) (v : Value) (o : List Nat) (f : Nat → Value) : Prop where
  st : KSt w wr c 200 n T' (fun k => k = ga ∨ k = gp)
  al : FRow wr 4 (fun q => .bool (aliveAt n T (q : Int))) (n + 1) ga (n + 1)
  ls : Nums v (numL o) wr
  pl : FRow wr 3 f (n + 1) gp (n + 1)
  ne : ga ≠ gp
  nb : ¬ Blk v gp
  own : w.heap.size ≤ ga ∧ w.heap.size ≤ gp
section
variable {w wr w' : World} {c n ga gp : Nat} {T T' : Nat → Tk} {v : Value} {o : List Nat} {f : Nat → Value}
theorem KP.past (h : KP w wr c n T T' ga gp v o f) (t : Turn NoBlock wr w') : KP w w' c n T T' ga gp v o f :=
  ⟨h.st.past t, h.al.kept t (fun h => h), h.ls.past t, h.pl.kept t (fun h => h), h.ne, h.nb, h.own⟩
theorem KP.same {f' : Nat → Value} (h : KP w wr c n T T' ga gp v o f) (hf : ∀ i, i < n + 1 → f i = f' i) : KP w wr c n T T' ga gp v o f' :=
  ⟨h.st, h.al, h.ls, h.pl.same hf, h.ne, h.nb, h.own⟩
theorem KP.put (h : KP w wr c n T T' ga gp v o f) {j : Nat} (hj : j < n + 1) (u : Value) : KP w (wr.setCell ⟨gp, j, none⟩ u) c n T T' ga gp v o (fun i => if i = j then u else f i) := by
  have t : Turn (fun k => k = gp) wr (wr.setCell ⟨gp, j, none⟩ u) := (Turn.refl (fun k => k = gp) wr).setCell (p := ⟨gp, j, none⟩) (.inl rfl) _
  refine ⟨h.st.more (t.mono (fun k hk => .inl (.inr hk))) (fun k hk => .inl hk) (fun k hk => ?_), h.al.kept t h.ne, h.ls.kept t (fun k hk e => h.nb (e ▸ hk)), h.pl.put hj u, h.ne, h.nb, h.own⟩
  rcases hk with rfl | rfl
  · exact h.own.1
  · exact h.own.2
theorem KP.info (h : KP w wr c n T T' ga gp v o f) (hn : n ≤ 81) {q : Nat} (hq : q < n) : Calls Try.prog 36 #[.pointer (some ⟨c, 0, none⟩), .int .i64 ((q : Int) + 1)] wr fun x w' => x = .returned (.tuple #[.agg #[.int .i64 (T' q).kind, .int .i64 (T' q).par, .int .i64 (T' q).st, .int .i64 (T' q).code, .int .i64 (T' q).pol, .int .i64 (T' q).crit], .bool true]) ∧ Turn NoBlock wr w' := by
  have hin : inN n ((q : Int) + 1) = true := inN_iff.2 ⟨by omega, by omega⟩
  have hi : infoT n T' ((q : Int) + 1) = T' q := by unfold infoT; rw [if_pos hin, show plc ((q : Int) + 1) = q by unfold plc; omega]
  have := h.st.info (by omega) ((q : Int) + 1)
  rw [hi, hin] at this
  exact this
theorem kp_new {w2 : World} (k2 : KSt w w2 c 200 n T' (fun k => k = ga)) (al : FRow w2 4 (fun q => .bool (aliveAt n T (q : Int))) (n + 1) ga (n + 1)) (ls : Nums v (numL o) w2) (hga : w.heap.size ≤ ga) (hn : n ≤ 81) :
    ∃ W3 gp, (Instr.makeSlice 53 (.int .i64 ((n : Int) + 1)) (.int .i64 ((n : Int) + 1))).run Try.prog w2 = .ok (.slice (some ⟨gp, 0, none⟩) (n + 1) (n + 1)) W3 ∧ KP w W3 c n T T' ga gp v o (fun i => .int .i64 (plF [] i)) := by
  obtain ⟨W3, hmk, rP, t3, s3⟩ := frow_made w2 53 3 8 (.int .i64 0) intsT infoI rfl (by omega) (n + 1) (by omega)
  rw [show ((n + 1 : Nat) : Int) = (n : Int) + 1 by omega] at hmk
  have hgl := al.typ.lt
  refine ⟨W3, _, hmk, k2.more (t3.mono (fun _ h => h.elim)) (fun k hk => ?_) (fun k hk => by subst hk; exact hga), al.kept t3 (fun h => h), ls.past t3, rP.same (fun i _ => rfl), by omega, fun hb => by have := WRow.lt ls hb; omega, hga, k2.turn.size⟩
  rcases hk with rfl | rfl
  · exact .inl rfl
  · exact .inr (by omega)
end
set_option linter.unusedVariables false in
set_option linter.unusedSimpArgs false in
set_option maxRecDepth 100000 in
set_option maxHeartbeats 64000000 in
theorem kill_walk (id code : Int) (sp : Option Addr) (len cap : Nat) (os : List O3) (w : World) (hrd : RdOp w (.slice sp len cap) os) (hol : os.length = len) : Calls Try.prog 6 #[.slice sp len cap, .int .i64 id, .int .i64 code] w fun x w' => x = .returned (.bool true) ∧ Turn NoBlock w w' := by
  have CW := Lib.hid awake17
  have CN := Lib.hid (new_yes 200 w (by decide))
  unfold tp at CN
  by_cases hk : len ≤ 80
  · have e1 : ¬ (80 < (len : Int)) := by omega
    have HR := Lib.hid hrd
    have HL := Lib.hid hol
    clear hrd hol
    go_enter Try.func6, Try.ntmps6
    go_wp2_with (go_at_call 29; (with_reducible refine CN.out.mono ?_); rintro e w1 ⟨c, rfl, h1⟩; have H1 := Lib.hid h1; clear h1)
    go_loopg [8, 38] len (fun z s8 s38 wr => ∃ (j n : Nat) (T : Nat → Tk) (cb : Bool), j ≤ len ∧ z = len - j ∧ s38 = .int .i64 (j : Int) ∧ s8 = .bool cb ∧ n ≤ j + 1 ∧ Hid (KI w wr c n T NoBlock cb))
    case atStart => exact ⟨0, 1, T1, false, by omega, by omega, rfl, rfl, by omega, Lib.hid ⟨H1.out, fun _ i hi => rfl⟩⟩
    case round =>
      clear H1 CN
      obtain ⟨j, n, T, cb, hj, hz, rfl, rfl, hnj, HI⟩ := hrel
      by_cases hlt : j < len
      · have hjl : (j : Int) < (len : Int) := by omega
        obtain ⟨o, ho⟩ : ∃ o, os[j]? = some o := ⟨_, List.getElem?_eq_getElem (by rw [HL.out]; exact hlt)⟩
        obtain ⟨g, og, cp, he, d0, d1, d2⟩ := (HR.out.past HI.out.st.turn).three ho
        simp only [Value.slice.injEq] at he
        obtain ⟨rfl, -, rfl⟩ := he
        obtain ⟨ok, oa, ob⟩ := o
        dsimp only at d0 d1 d2
        have HA := Lib.hid (show ∀ v, KI w (wr.alloc v) c n T NoBlock cb from fun v => HI.out.past ((Turn.refl _ _).alloc v))
        clear ho
        by_cases k1 : ok = 1
        · have b1 : (ok == 1) = true := by simpa using k1
          subst k1
          go_wp2_with (go_at_call 45; (with_reducible refine (ki_make (HA.out _) (by omega) oa ob).mono ?_); rintro e w5 ⟨r5, s5, rfl, n5, T5, h5, hn5⟩; have H5 := Lib.hid h5; clear h5)
          go_roundg (len - (j + 1))
          case measure => omega
          case rel => exact ⟨j + 1, n5, T5, cb, by omega, rfl, by go_num, rfl, by omega, H5⟩
        have b1 : (ok == 1) = false := by simpa using k1
        by_cases k2 : ok = 2
        · have b2 : (ok == 2) = true := by simpa using k2
          subst k2
          go_wp2_with (go_at_call 46; (with_reducible refine (ki_start (HA.out _) (by omega) oa).mono ?_); rintro e w5 ⟨s5, rfl, T5, h5⟩; have H5 := Lib.hid h5; clear h5)
          go_roundg (len - (j + 1))
          case measure => omega
          case rel => exact ⟨j + 1, n, T5, cb, by omega, rfl, by go_num, rfl, by omega, H5⟩
        have b2 : (ok == 2) = false := by simpa using k2
        by_cases k3 : ok = 3
        · have b3 : (ok == 3) = true := by simpa using k3
          subst k3
          go_wp2_with (go_at_call 47; (with_reducible refine (ki_kill (HA.out _) (by omega) oa ob).mono ?_); rintro e w5 ⟨v5, s5, rfl, T5, h5⟩; have H5 := Lib.hid h5; clear h5)
          go_roundg (len - (j + 1))
          case measure => omega
          case rel => exact ⟨j + 1, n, T5, cb, by omega, rfl, by go_num, rfl, by omega, H5⟩
        have b3 : (ok == 3) = false := by simpa using k3
        by_cases k4 : ok = 4
        · have b4 : (ok == 4) = true := by simpa using k4
          subst k4
          go_wp2_with (go_at_call 48; (with_reducible refine (ki_exit (HA.out _) (by omega) oa ob).mono ?_); rintro e w5 ⟨v5, s5, rfl, T5, h5⟩; have H5 := Lib.hid h5; clear h5)
          go_roundg (len - (j + 1))
          case measure => omega
          case rel => exact ⟨j + 1, n, T5, cb, by omega, rfl, by go_num, rfl, by omega, H5⟩
        have b4 : (ok == 4) = false := by simpa using k4
        by_cases k6 : ok = 6
        · subst k6
          cases cb with
          | true =>
            clear k1 k2 k3 k4
            go_wp2
            go_roundg (len - (j + 1))
            case measure => omega
            case rel => exact ⟨j + 1, n, T, true, by omega, rfl, by go_num, rfl, by omega, Lib.hid (HA.out _)⟩
          | false =>
            clear k1 k2 k3 k4
            go_wp2_with (go_at_call 49; (with_reducible refine (ki_crit (HA.out _) (by omega) oa ob).mono ?_); rintro e w5 ⟨s5, rfl, T5, h5⟩; have H5 := Lib.hid h5; clear h5)
            go_roundg (len - (j + 1))
            case measure => omega
            case rel => exact ⟨j + 1, n, T5, (s5 == 0), by omega, rfl, by go_num, rfl, by omega, H5⟩
        have b6 : (ok == 6) = false := by simpa using k6
        clear k1 k2 k3 k4 k6
        go_wp2
        go_roundg (len - (j + 1))
        case measure => omega
        case rel => exact ⟨j + 1, n, T, cb, by omega, rfl, by go_num, rfl, by omega, Lib.hid (HA.out _)⟩
      · obtain rfl : j = len := by omega
        have hjl : ¬ (j : Int) < (j : Int) := by omega
        have hn80 : n ≤ 81 := by omega
        have CC := Lib.hid HI.out.st.count
        unfold tp at CC
        obtain ⟨WB, hmk, rB, tB, sB⟩ := frow_made wr 89 4 1 (.bool false) boolsT infoB rfl (by omega) (n + 1) (by omega)
        rw [show ((n + 1 : Nat) : Int) = (n : Int) + 1 by omega] at hmk
        obtain ⟨ga, hga⟩ : ∃ ga, wr.heap.size = ga := ⟨_, rfl⟩
        rw [hga] at hmk rB sB
        have hwga : w.heap.size ≤ ga := by rw [← hga]; exact HI.out.st.turn.size
        have HB := Lib.hid (show KI w WB c n T (fun k => k = ga) cb ∧ FRow WB 4 (alF n T 0) (n + 1) ga (n + 1) from
          ⟨HI.out.row tB (fun k hk => hk.elim) (fun k hk => .inr (by subst hk; omega)), rB.same (fun q _ => by unfold alF; rw [if_neg (by omega)])⟩)
        have HG := Lib.hid hga
        clear tB rB sB HI hz hga
        go_upto_region 21 with (go_at_call 33; (with_reducible refine CC.out.mono ?_); rintro e w2 ⟨rfl, rfl⟩)
        clear hmk CC
        go_wp2
        go_loopg [93] (n + 1) (fun z s93 wr => ∃ i : Nat, i ≤ n + 1 ∧ z = n + 1 - i ∧ s93 = .int .i64 (i : Int) ∧ Hid (KI w wr c n T (fun k => k = ga) cb ∧ FRow wr 4 (alF n T i) (n + 1) ga (n + 1)))
        case atStart => exact ⟨0, by omega, by omega, rfl, HB⟩
        case round =>
          clear HB
          obtain ⟨i, hi, hz, rfl, HB⟩ := hrel
          by_cases hlt2 : i < n + 1
          · have hin : (i : Int) < (n : Int) + 1 := by omega
            obtain ⟨kB, rB⟩ := HB.out
            have CA := Lib.hid (kB.st.alive (by omega) (i : Int))
            unfold tp at CA
            have y0 := rB.at hlt2
            have f0 := rB.typ.free i
            have HX := Lib.hid (show KI w (wr.setCell ⟨ga, i, none⟩ (.bool (aliveAt n T (i : Int)))) c n T (fun k => k = ga) cb ∧ FRow (wr.setCell ⟨ga, i, none⟩ (.bool (aliveAt n T (i : Int)))) 4 (alF n T (i + 1)) (n + 1) ga (n + 1) from
              ⟨kB.row ((Turn.refl (fun k => k = ga) wr).setCell (p := ⟨ga, i, none⟩) (.inl rfl) _) (fun k hk => by subst hk; exact hwga) (fun k hk => .inl hk), (rB.put hlt2 _).same (fun q hq => by
                unfold alF
                by_cases e : q = i
                · subst e; rw [if_pos rfl, if_pos (by omega)]
                · rw [if_neg e]
                  by_cases e2 : q < i
                  · rw [if_pos e2, if_pos (by omega)]
                  · rw [if_neg e2, if_neg (by omega)])⟩)
            clear kB rB HB
            unfold alF at y0
            generalize aliveAt n T (i : Int) = av at *
            go_wp2_with (go_at_call 38; (with_reducible refine CA.out.mono ?_); rintro e w2 ⟨rfl, rfl⟩)
            go_roundg (n + 1 - (i + 1))
            case measure => omega
            case rel => exact ⟨i + 1, by omega, rfl, by go_num, HX⟩
          · obtain rfl : i = n + 1 := by omega
            have hin : ¬ ((n + 1 : Nat) : Int) < (n : Int) + 1 := by omega
            obtain ⟨kB, rB⟩ := HB.out
            have rA := rB.same (f' := fun q => .bool (aliveAt n T (q : Int))) (fun q hq => by unfold alF; rw [if_pos hq])
            have CK := Lib.hid (kB.st.kill (by omega) id code)
            unfold tp at CK
            have HKB := Lib.hid (And.intro kB rA)
            clear kB rB rA HB hz
            by_cases hs : killS n T id = 0
            · obtain ⟨hkd, hkl⟩ := kd_of HKB.out.1.st.ok.dok hs code
              rw [hkl, hs] at CK
              have HD := Lib.hid hkd
              have HNO := Lib.hid HKB.out.1.no
              generalize hoo : (die n code T (plc id)).2 = o at *
              generalize killT n T id code = T' at *
              clear hkd hkl hs hoo
              have hol : o.length ≤ n := by
                have h1 := HD.out.ends.live
                have h2 : liveN T n ≤ (List.range n).length := List.countP_le_length
                rw [List.length_range] at h2
                omega
              go_upto_region 31 with (go_at_call 47; (with_reducible refine CK.out.mono ?_); rintro e w2 ⟨v, rfl, r2, k2, kp2, -⟩; obtain ⟨pv, cv, hv⟩ := WRow.sl r2; rw [numL_len] at hv; subst hv; obtain ⟨W3, gp, hmk3, hkp⟩ := kp_new k2 (FRow.kept HKB.out.2 kp2.choose_spec.1 (kp2.choose_spec.2 _ rfl)) r2 hwga hn80; have HP := Lib.hid hkp; clear r2 k2 kp2 hkp)
              have hmk4 := Lib.hid hmk3
              clear hmk3
              go_wp2
              go_loopg [140] o.length (fun z s140 wr => ∃ k : Nat, k ≤ o.length ∧ z = o.length - k ∧ s140 = .int .i64 (k : Int) ∧ Hid (KP w wr c n T T' ga gp (.slice pv o.length cv) o (fun i => .int .i64 (plF (o.take k) i))))
              case atStart => exact ⟨0, by omega, by omega, rfl, HP⟩
              case round =>
                clear HP
                obtain ⟨k, hk, hz, rfl, HP⟩ := hrel
                by_cases hlt3 : k < o.length
                · have hkl : (k : Int) < (o.length : Int) := by omega
                  obtain ⟨q, hq⟩ : ∃ q, o[k]? = some q := ⟨_, List.getElem?_eq_getElem hlt3⟩
                  have hqm := List.mem_of_getElem? hq
                  obtain ⟨hqn, hqa, hqd⟩ := HD.out.ends.what.1 q hqm
                  have hnd := HD.out.ends.what.2.2
                  have htk : o.take (k + 1) = o.take k ++ [q] := by rw [List.take_add_one, hq]; rfl
                  have hqk : q ∉ o.take k := by
                    have h1 : (o.take (k + 1)).Nodup := hnd.sublist (List.take_sublist _ _)
                    rw [htk] at h1
                    exact fun hm => (List.nodup_append.1 h1).2.2 q hm q (List.mem_singleton.2 rfl) rfl
                  obtain ⟨gv, ov, cv', hv, -, -, -, h5, -⟩ := WRow.shape HP.out.ls (by rw [numL_len]; omega)
                  rw [numL_len] at hv h5
                  simp only [Value.slice.injEq] at hv
                  obtain ⟨rfl, -, rfl⟩ := hv
                  have hcl : wr.cell? ⟨gv, ov + k, none⟩ = some (.int .i64 ((q : Int) + 1)) := by
                    rw [h5 k (by omega)]
                    simp [icells, numL, hq]
                  have CI := Lib.hid (HP.out.info hn80 hqn)
                  rw [hqd] at CI
                  unfold Tk.dead at CI
                  dsimp only at CI
                  have HQ := Lib.hid (And.intro hqm (And.intro hqn (And.intro hqa (And.intro htk hqk))))
                  have q1 : ¬ ((q : Int) + 1 < 1) := by omega
                  have q2 : ¬ ((q : Int) + 1 ≥ (n : Int) + 1) := by omega
                  have q3 : ¬ ((n : Int) + 1 ≤ (q : Int) + 1) := by omega
                  have q4 : (q : Int) + 1 < (n : Int) + 1 := by omega
                  clear hq hqm hqd hnd htk hqk h5 hqa
                  go_upto_region 34 with (go_at_call 36; (with_reducible refine CI.out.mono ?_); rintro e w4 ⟨rfl, t4⟩; have T4 := Lib.hid t4; clear t4)
                  have hb := heap_alloc_new w4 (.cells #[.int .i64 (T q).kind, .int .i64 (T q).par, .int .i64 2, .int .i64 code, .int .i64 (T q).pol, .int .i64 (T q).crit] 76)
                  have K5 := HP.out.past (T4.out.alloc (.cells #[.int .i64 (T q).kind, .int .i64 (T q).par, .int .i64 2, .int .i64 code, .int .i64 (T q).pol, .int .i64 (T q).crit] 76))
                  generalize w4.alloc (.cells #[.int .i64 (T q).kind, .int .i64 (T q).par, .int .i64 2, .int .i64 code, .int .i64 (T q).pol, .int .i64 (T q).crit] 76) = W5 at *
                  have b2 := cell_at hb 2
                  have b3 := cell_at hb 3
                  generalize w4.heap.size = bz at *
                  have ya : W5.cell? ⟨ga, q + 1, none⟩ = some (.bool true) := by
                    have h1 := K5.al.at (show q + 1 < n + 1 by omega)
                    rw [show ((q + 1 : Nat) : Int) = (q : Int) + 1 by omega, alive_kid HQ.out.2.1] at h1
                    rw [h1]
                    have := HQ.out.2.2.1
                    simp [aliveB, this]
                  have yp : W5.cell? ⟨gp, q + 1, none⟩ = some (.int .i64 0) := by
                    have h1 := K5.pl.at (show q + 1 < n + 1 by omega)
                    rw [plF_no (fun z hz e => HQ.out.2.2.2.2 (by have : z = q := by omega
                                                                 rw [← this]; exact hz))] at h1
                    exact h1
                  have fp := K5.pl.typ.free (q + 1)
                  have HX := Lib.hid (show KP w (W5.setCell ⟨gp, q + 1, none⟩ (.int .i64 ((k : Int) + 1))) c n T T' ga gp (.slice (some ⟨gv, ov, none⟩) o.length cv) o (fun i => .int .i64 (plF (o.take (k + 1)) i)) from
                    (K5.put (j := q + 1) (by omega) (.int .i64 ((k : Int) + 1))).same (fun i hi => by
                      rw [HQ.out.2.2.2.1, plF_push HQ.out.2.2.2.2, List.length_take, show min k o.length = k by omega]
                      by_cases e : i = q + 1
                      · rw [if_pos e, if_pos e]
                      · rw [if_neg e, if_neg e]))
                  clear hb K5
                  cases cb with
                  | true =>
                    go_wp2
                    go_roundg (o.length - (k + 1))
                    case measure => omega
                    case rel => exact ⟨k + 1, by omega, rfl, by go_num, HX⟩
                  | false =>
                    have CU := Lib.hid (HX.out.st.under (by omega) ((q : Int) + 1) id)
                    rw [HD.out.under (HNO.out rfl) q HQ.out.1] at CU
                    unfold tp at CU
                    go_wp2_with (go_at_call 40; (with_reducible refine CU.out.mono ?_); rintro e w6 ⟨rfl, t6⟩; have T6 := Lib.hid t6; clear t6)
                    go_roundg (o.length - (k + 1))
                    case measure => omega
                    case rel => exact ⟨k + 1, by omega, rfl, by go_num, Lib.hid (HX.out.past T6.out)⟩
                · obtain rfl : k = o.length := by omega
                  have hkl : ¬ (o.length : Int) < (o.length : Int) := by omega
                  rw [List.take_length] at HP
                  have HP3 := HP
                  clear HP hz hmk4
                  go_wp2
                  go_loopg [20] n (fun z s20 wr => ∃ i : Nat, i ≤ n ∧ z = n - i ∧ s20 = .int .i64 ((i : Int) + 1) ∧ Hid (KP w wr c n T T' ga gp (.slice pv o.length cv) o (fun i => .int .i64 (plF o i))))
                  case atStart => exact ⟨0, by omega, by omega, rfl, HP3⟩
                  case round =>
                    clear HP3
                    obtain ⟨i, hi, hz, rfl, HP⟩ := hrel
                    by_cases hin3 : i < n
                    · have hil : (i : Int) + 1 < (n : Int) + 1 := by omega
                      have y0 := HP.out.pl.at (show i + 1 < n + 1 by omega)
                      have y1 := HP.out.al.at (show i + 1 < n + 1 by omega)
                      rw [show ((i + 1 : Nat) : Int) = (i : Int) + 1 by omega, alive_kid hin3] at y1
                      have CA := Lib.hid (fun W (t : Turn NoBlock wr W) => (HP.out.st.past t).alive (by omega) ((i : Int) + 1))
                      rw [alive_kid hin3] at CA
                      unfold tp at CA
                      have hnn := plF_nonneg o (i + 1)
                      have HZ := Lib.hid (show plF o (i + 1) = 0 → aliveB (T i) = aliveB (T' i) from fun e => by
                        rw [HD.out.ends.what.2.1 i (fun hm => by have := plF_pos.2 ⟨i, hm, rfl⟩; omega)])
                      have HDD := Lib.hid (HD.out.dead i hin3)
                      have HPAR := Lib.hid (HD.out.ok.par i hin3)
                      have HORD := Lib.hid (show ∀ r : Nat, (T' i).par = (r : Int) + 1 → 0 < plF o (i + 1) → 0 < plF o (r + 1) → ¬ plF o (r + 1) < plF o (i + 1) from fun r hr h1 h2 h3 => by
                        obtain ⟨a, ha, ea⟩ := plF_pos.1 h1
                        obtain ⟨b, hb, eb⟩ := plF_pos.1 h2
                        obtain rfl : a = i := by omega
                        obtain rfl : b = r := by omega
                        have := HD.out.order ha hb (by rw [← (HD.out.ends.fields a).1]; exact hr)
                        omega)
                      generalize hpi : plF o (i + 1) = pi at *
                      have HPI := Lib.hid hpi
                      clear hpi
                      by_cases hub : underB n T' ((i : Int) + 1) id = true
                      · have hal : aliveB (T' i) = false := by have := HDD.out hub; unfold aliveB; rw [this]; rfl
                        rw [hal] at CA
                        by_cases hp0 : pi = 0
                        · have hai : aliveB (T i) = false := (HZ.out hp0).trans hal
                          rw [hai] at y1
                          subst hp0
                          have CU := Lib.hid (fun W (t : Turn NoBlock wr W) => (HP.out.st.past t).under (by omega) ((i : Int) + 1) id)
                          rw [hub] at CU
                          unfold tp at CU
                          have HY := Lib.hid (And.intro y0 y1)
                          clear y0 y1
                          go_upto_region 43 with (fail)
                          obtain ⟨N1, hN1⟩ : ∃ N1, n + 1 = N1 := ⟨_, rfl⟩
                          obtain ⟨I1, hI1⟩ : ∃ I1 : Nat, i + 1 = I1 := ⟨_, rfl⟩
                          have hI2 : (i : Int) + 1 = (I1 : Int) := by omega
                          have hI4 : (I1 : Int) < (N1 : Int) := by omega
                          rw [hI2] at CU CA ⊢
                          rw [hI1] at HY
                          rw [hN1]
                          refine r43a _ _ _ _ _ _ _ _ _ _ _ _ _ _ _ _ _ _ _ _ _ _ _ _ _ _ _ _ _ _ _ _ _ _ _ _ _ _ _ _ _ _ _ _ _ _ _ _ _ _ _ _ _ _ _ _ _ _ _ _ _ _ _ _ _ _ _ _ _ _ _ _ _ _ _ _ _ _ _ _ _ _ _ _ _ _ _ _ _ _ _ _ _ _ _ _ _ _ _ _ _ _ _ _ _ _ _ _ _ _ _ _ _ _ _ _ _ _ _ _ _ _ _ _ _ _ _ _ _ _ _ _ _ _ _ _ _ _ _ _ _ _ _ _ _ _ _ _ _ _ _ _ _ _ _ _ _ _ _ _ _ _ _ _ _ _ _ _ _ _ _ _ _ _ _ _ _ _ _ _ _ _ _ _ _ _ _ _ _ _ _ _ _ _ _ _ _ _ _ _ _ _ _ _ _ _ _ _ _ _ _ _ _ _ _ _ _ _ _ _ _ _ _ _ _ _ _ _ _ _ _ _ _ _ _ _ _ _ _ _ _ _ _ _ _ _ _ _ _ _ _ _ _ _ _ _ _ _ _ _ _ _ _ _ CU CA HY hI4 (Lib.hid ?_)
                          intro w5 T5 y205 y206 y207 y208 y209 y210 y211 y212 y213 y214 y215 y216 y217 y218 y219 y220 y221 y222 y223 y224 y225 y226 y227 y228 y229
                          have K5 := Lib.hid (HP.out.past T5)
                          clear T5 CU CA HY
                          rw [← hI2]
                          subst hN1
                          clear hI1 hI2 hI4
                          have CI := Lib.hid (K5.out.info hn80 hin3)
                          go_upto_region 46 with (go_at_call 36; (with_reducible refine CI.out.mono ?_); rintro e w7 ⟨rfl, t7⟩; have T7 := Lib.hid t7; clear t7)
                          have hb := heap_alloc_new w7 (.cells #[.int .i64 (T' i).kind, .int .i64 (T' i).par, .int .i64 (T' i).st, .int .i64 (T' i).code, .int .i64 (T' i).pol, .int .i64 (T' i).crit] 76)
                          have K8 := Lib.hid (K5.out.past (T7.out.alloc (.cells #[.int .i64 (T' i).kind, .int .i64 (T' i).par, .int .i64 (T' i).st, .int .i64 (T' i).code, .int .i64 (T' i).pol, .int .i64 (T' i).crit] 76)))
                          generalize w7.alloc (.cells #[.int .i64 (T' i).kind, .int .i64 (T' i).par, .int .i64 (T' i).st, .int .i64 (T' i).code, .int .i64 (T' i).pol, .int .i64 (T' i).crit] 76) = W8 at *
                          have b1 := cell_at hb 1
                          generalize w7.heap.size = bz at *
                          clear hb
                          have x0 := K8.out.pl.at (show i + 1 < n + 1 by omega)
                          rw [HPI.out] at x0
                          go_quiet (fail)
                          go_wp2
                          go_roundg (n - (i + 1))
                          case measure => omega
                          case rel => exact ⟨i + 1, by omega, rfl, by go_num, Lib.hid (K8.out.past ((Turn.refl _ _).drewN _))⟩
                        · have hpos : 0 < pi := by omega
                          have hpb : (pi == 0) = false := by simpa using hp0
                          have hpb2 : decide (pi = 0) = false := by simpa using hp0
                          generalize aliveB (T i) = ai at *
                          have CU := Lib.hid (fun W (t : Turn NoBlock wr W) => (HP.out.st.past t).under (by omega) ((i : Int) + 1) id)
                          rw [hub] at CU
                          unfold tp at CU
                          have HY := Lib.hid (And.intro y0 y1)
                          clear y0 y1
                          go_upto_region 43 with (fail)
                          obtain ⟨N1, hN1⟩ : ∃ N1, n + 1 = N1 := ⟨_, rfl⟩
                          obtain ⟨I1, hI1⟩ : ∃ I1 : Nat, i + 1 = I1 := ⟨_, rfl⟩
                          have hI2 : (i : Int) + 1 = (I1 : Int) := by omega
                          have hI4 : (I1 : Int) < (N1 : Int) := by omega
                          rw [hI2] at CU CA ⊢
                          rw [hI1] at HY
                          rw [hN1]
                          refine r43b _ _ _ _ _ _ _ _ _ _ _ _ _ _ _ _ _ _ _ _ _ _ _ _ _ _ _ _ _ _ _ _ _ _ _ _ _ _ _ _ _ _ _ _ _ _ _ _ _ _ _ _ _ _ _ _ _ _ _ _ _ _ _ _ _ _ _ _ _ _ _ _ _ _ _ _ _ _ _ _ _ _ _ _ _ _ _ _ _ _ _ _ _ _ _ _ _ _ _ _ _ _ _ _ _ _ _ _ _ _ _ _ _ _ _ _ _ _ _ _ _ _ _ _ _ _ _ _ _ _ _ _ _ _ _ _ _ _ _ _ _ _ _ _ _ _ _ _ _ _ _ _ _ _ _ _ _ _ _ _ _ _ _ _ _ _ _ _ _ _ _ _ _ _ _ _ _ _ _ _ _ _ _ _ _ _ _ _ _ _ _ _ _ _ _ _ _ _ _ _ _ _ _ _ _ _ _ _ _ _ _ _ _ _ _ _ _ _ _ _ _ _ _ _ _ _ _ _ _ _ _ _ _ _ _ _ _ _ _ _ _ _ _ _ _ _ _ _ _ _ _ _ _ _ _ _ _ _ _ _ _ _ _ _ CU CA HY hI4 hpb (Lib.hid ?_)
                          intro w5 T5 y205 y206 y207 y208 y209 y210 y211 y212 y213 y214 y215 y216 y217 y218 y219 y220 y221 y222 y223 y224 y225 y226 y227 y228 y229
                          have K5 := Lib.hid (HP.out.past T5)
                          clear T5 CU CA HY
                          rw [← hI2]
                          subst hN1
                          clear hI1 hI2 hI4
                          have CI := Lib.hid (K5.out.info hn80 hin3)
                          go_upto_region 46 with (go_at_call 36; (with_reducible refine CI.out.mono ?_); rintro e w7 ⟨rfl, t7⟩; have T7 := Lib.hid t7; clear t7)
                          have hb := heap_alloc_new w7 (.cells #[.int .i64 (T' i).kind, .int .i64 (T' i).par, .int .i64 (T' i).st, .int .i64 (T' i).code, .int .i64 (T' i).pol, .int .i64 (T' i).crit] 76)
                          have K8 := Lib.hid (K5.out.past (T7.out.alloc (.cells #[.int .i64 (T' i).kind, .int .i64 (T' i).par, .int .i64 (T' i).st, .int .i64 (T' i).code, .int .i64 (T' i).pol, .int .i64 (T' i).crit] 76)))
                          generalize w7.alloc (.cells #[.int .i64 (T' i).kind, .int .i64 (T' i).par, .int .i64 (T' i).st, .int .i64 (T' i).code, .int .i64 (T' i).pol, .int .i64 (T' i).crit] 76) = W8 at *
                          have b1 := cell_at hb 1
                          generalize w7.heap.size = bz at *
                          clear hb
                          have x0 := K8.out.pl.at (show i + 1 < n + 1 by omega)
                          rw [HPI.out] at x0
                          by_cases hpr : (T' i).par = 0
                          · rw [hpr] at b1
                            go_quiet (fail)
                            go_wp2
                            go_roundg (n - (i + 1))
                            case measure => omega
                            case rel => exact ⟨i + 1, by omega, rfl, by go_num, Lib.hid (K8.out.past ((Turn.refl _ _).drewN _))⟩
                          · obtain ⟨r, hr⟩ : ∃ r : Nat, (T' i).par = (r : Int) + 1 := ⟨((T' i).par - 1).toNat, by have := HPAR.out; omega⟩
                            have hrn : r < n := by have := HPAR.out; omega
                            have x1 := K8.out.pl.at (show r + 1 < n + 1 by omega)
                            have hrl : (r : Int) + 1 < (n : Int) + 1 := by omega
                            have hr0 : 0 < (r : Int) + 1 := by omega
                            rw [hr] at b1
                            have HO := Lib.hid (HORD.out r hr hpos)
                            have hnn2 := plF_nonneg o (r + 1)
                            clear hpr hr
                            generalize plF o (r + 1) = pr at *
                            by_cases hp2 : 0 < pr
                            · have hp3 : ¬ pr < pi := by have := HO.out hp2; omega
                              have hp4 : decide (pr < pi) = false := by simpa using hp3
                              go_quiet (fail)
                              go_wp2
                              go_roundg (n - (i + 1))
                              case measure => omega
                              case rel => exact ⟨i + 1, by omega, rfl, by go_num, Lib.hid (K8.out.past ((Turn.refl _ _).drewN _))⟩
                            · have hp4 : decide (0 < pr) = false := by simpa using hp2
                              go_quiet (fail)
                              go_wp2
                              go_roundg (n - (i + 1))
                              case measure => omega
                              case rel => exact ⟨i + 1, by omega, rfl, by go_num, Lib.hid (K8.out.past ((Turn.refl _ _).drewN _))⟩
                      · replace hub : underB n T' ((i : Int) + 1) id = false := by simpa using hub
                        by_cases hp0 : pi = 0
                        · rw [← HZ.out hp0] at CA
                          subst hp0
                          generalize aliveB (T i) = ai at *
                          have CU := Lib.hid (fun W (t : Turn NoBlock wr W) => (HP.out.st.past t).under (by omega) ((i : Int) + 1) id)
                          rw [hub] at CU
                          unfold tp at CU
                          have HY := Lib.hid (And.intro y0 y1)
                          clear y0 y1
                          go_upto_region 43 with (fail)
                          obtain ⟨N1, hN1⟩ : ∃ N1, n + 1 = N1 := ⟨_, rfl⟩
                          obtain ⟨I1, hI1⟩ : ∃ I1 : Nat, i + 1 = I1 := ⟨_, rfl⟩
                          have hI2 : (i : Int) + 1 = (I1 : Int) := by omega
                          have hI4 : (I1 : Int) < (N1 : Int) := by omega
                          rw [hI2] at CU CA ⊢
                          rw [hI1] at HY
                          rw [hN1]
                          refine r43c _ _ _ _ _ _ _ _ _ _ _ _ _ _ _ _ _ _ _ _ _ _ _ _ _ _ _ _ _ _ _ _ _ _ _ _ _ _ _ _ _ _ _ _ _ _ _ _ _ _ _ _ _ _ _ _ _ _ _ _ _ _ _ _ _ _ _ _ _ _ _ _ _ _ _ _ _ _ _ _ _ _ _ _ _ _ _ _ _ _ _ _ _ _ _ _ _ _ _ _ _ _ _ _ _ _ _ _ _ _ _ _ _ _ _ _ _ _ _ _ _ _ _ _ _ _ _ _ _ _ _ _ _ _ _ _ _ _ _ _ _ _ _ _ _ _ _ _ _ _ _ _ _ _ _ _ _ _ _ _ _ _ _ _ _ _ _ _ _ _ _ _ _ _ _ _ _ _ _ _ _ _ _ _ _ _ _ _ _ _ _ _ _ _ _ _ _ _ _ _ _ _ _ _ _ _ _ _ _ _ _ _ _ _ _ _ _ _ _ _ _ _ _ _ _ _ _ _ _ _ _ _ _ _ _ _ _ _ _ _ _ _ _ _ _ _ _ _ _ _ _ _ _ _ _ _ _ _ _ _ _ _ _ _ CU CA HY hI4 (Lib.hid ?_)
                          intro w5 T5 y205 y206 y207 y208 y209 y210 y211 y212 y213 y214 y215 y216 y217 y218 y219 y220 y221 y222 y223 y224 y225 y226 y227 y228 y229
                          have K5 := Lib.hid (HP.out.past T5)
                          clear T5 CU CA HY
                          rw [← hI2]
                          subst hN1
                          clear hI1 hI2 hI4
                          have CI := Lib.hid (K5.out.info hn80 hin3)
                          go_upto_region 46 with (go_at_call 36; (with_reducible refine CI.out.mono ?_); rintro e w7 ⟨rfl, t7⟩; have T7 := Lib.hid t7; clear t7)
                          have hb := heap_alloc_new w7 (.cells #[.int .i64 (T' i).kind, .int .i64 (T' i).par, .int .i64 (T' i).st, .int .i64 (T' i).code, .int .i64 (T' i).pol, .int .i64 (T' i).crit] 76)
                          have K8 := Lib.hid (K5.out.past (T7.out.alloc (.cells #[.int .i64 (T' i).kind, .int .i64 (T' i).par, .int .i64 (T' i).st, .int .i64 (T' i).code, .int .i64 (T' i).pol, .int .i64 (T' i).crit] 76)))
                          generalize w7.alloc (.cells #[.int .i64 (T' i).kind, .int .i64 (T' i).par, .int .i64 (T' i).st, .int .i64 (T' i).code, .int .i64 (T' i).pol, .int .i64 (T' i).crit] 76) = W8 at *
                          have b1 := cell_at hb 1
                          generalize w7.heap.size = bz at *
                          clear hb
                          have x0 := K8.out.pl.at (show i + 1 < n + 1 by omega)
                          rw [HPI.out] at x0
                          go_quiet (fail)
                          go_wp2
                          go_roundg (n - (i + 1))
                          case measure => omega
                          case rel => exact ⟨i + 1, by omega, rfl, by go_num, Lib.hid (K8.out.past ((Turn.refl _ _).drewN _))⟩
                        · have hpos : 0 < pi := by omega
                          have hpb : (pi == 0) = false := by simpa using hp0
                          have hpb2 : decide (pi = 0) = false := by simpa using hp0
                          generalize aliveB (T i) = ai at *
                          have CU := Lib.hid (fun W (t : Turn NoBlock wr W) => (HP.out.st.past t).under (by omega) ((i : Int) + 1) id)
                          rw [hub] at CU
                          unfold tp at CU
                          have HY := Lib.hid (And.intro y0 y1)
                          clear y0 y1
                          go_upto_region 43 with (fail)
                          obtain ⟨N1, hN1⟩ : ∃ N1, n + 1 = N1 := ⟨_, rfl⟩
                          obtain ⟨I1, hI1⟩ : ∃ I1 : Nat, i + 1 = I1 := ⟨_, rfl⟩
                          have hI2 : (i : Int) + 1 = (I1 : Int) := by omega
                          have hI4 : (I1 : Int) < (N1 : Int) := by omega
                          rw [hI2] at CU CA ⊢
                          rw [hI1] at HY
                          rw [hN1]
                          refine r43d _ _ _ _ _ _ _ _ _ _ _ _ _ _ _ _ _ _ _ _ _ _ _ _ _ _ _ _ _ _ _ _ _ _ _ _ _ _ _ _ _ _ _ _ _ _ _ _ _ _ _ _ _ _ _ _ _ _ _ _ _ _ _ _ _ _ _ _ _ _ _ _ _ _ _ _ _ _ _ _ _ _ _ _ _ _ _ _ _ _ _ _ _ _ _ _ _ _ _ _ _ _ _ _ _ _ _ _ _ _ _ _ _ _ _ _ _ _ _ _ _ _ _ _ _ _ _ _ _ _ _ _ _ _ _ _ _ _ _ _ _ _ _ _ _ _ _ _ _ _ _ _ _ _ _ _ _ _ _ _ _ _ _ _ _ _ _ _ _ _ _ _ _ _ _ _ _ _ _ _ _ _ _ _ _ _ _ _ _ _ _ _ _ _ _ _ _ _ _ _ _ _ _ _ _ _ _ _ _ _ _ _ _ _ _ _ _ _ _ _ _ _ _ _ _ _ _ _ _ _ _ _ _ _ _ _ _ _ _ _ _ _ _ _ _ _ _ _ _ _ _ _ _ _ _ _ _ _ _ _ _ _ _ _ CU CA HY hI4 hpb (Lib.hid ?_)
                          intro w5 T5 y205 y206 y207 y208 y209 y210 y211 y212 y213 y214 y215 y216 y217 y218 y219 y220 y221 y222 y223 y224 y225 y226 y227 y228 y229
                          have K5 := Lib.hid (HP.out.past T5)
                          clear T5 CU CA HY
                          rw [← hI2]
                          subst hN1
                          clear hI1 hI2 hI4
                          have CI := Lib.hid (K5.out.info hn80 hin3)
                          go_upto_region 46 with (go_at_call 36; (with_reducible refine CI.out.mono ?_); rintro e w7 ⟨rfl, t7⟩; have T7 := Lib.hid t7; clear t7)
                          have hb := heap_alloc_new w7 (.cells #[.int .i64 (T' i).kind, .int .i64 (T' i).par, .int .i64 (T' i).st, .int .i64 (T' i).code, .int .i64 (T' i).pol, .int .i64 (T' i).crit] 76)
                          have K8 := Lib.hid (K5.out.past (T7.out.alloc (.cells #[.int .i64 (T' i).kind, .int .i64 (T' i).par, .int .i64 (T' i).st, .int .i64 (T' i).code, .int .i64 (T' i).pol, .int .i64 (T' i).crit] 76)))
                          generalize w7.alloc (.cells #[.int .i64 (T' i).kind, .int .i64 (T' i).par, .int .i64 (T' i).st, .int .i64 (T' i).code, .int .i64 (T' i).pol, .int .i64 (T' i).crit] 76) = W8 at *
                          have b1 := cell_at hb 1
                          generalize w7.heap.size = bz at *
                          clear hb
                          have x0 := K8.out.pl.at (show i + 1 < n + 1 by omega)
                          rw [HPI.out] at x0
                          by_cases hpr : (T' i).par = 0
                          · rw [hpr] at b1
                            go_quiet (fail)
                            go_wp2
                            go_roundg (n - (i + 1))
                            case measure => omega
                            case rel => exact ⟨i + 1, by omega, rfl, by go_num, Lib.hid (K8.out.past ((Turn.refl _ _).drewN _))⟩
                          · obtain ⟨r, hr⟩ : ∃ r : Nat, (T' i).par = (r : Int) + 1 := ⟨((T' i).par - 1).toNat, by have := HPAR.out; omega⟩
                            have hrn : r < n := by have := HPAR.out; omega
                            have x1 := K8.out.pl.at (show r + 1 < n + 1 by omega)
                            have hrl : (r : Int) + 1 < (n : Int) + 1 := by omega
                            have hr0 : 0 < (r : Int) + 1 := by omega
                            rw [hr] at b1
                            have HO := Lib.hid (HORD.out r hr hpos)
                            have hnn2 := plF_nonneg o (r + 1)
                            clear hpr hr
                            generalize plF o (r + 1) = pr at *
                            by_cases hp2 : 0 < pr
                            · have hp3 : ¬ pr < pi := by have := HO.out hp2; omega
                              have hp4 : decide (pr < pi) = false := by simpa using hp3
                              go_quiet (fail)
                              go_wp2
                              go_roundg (n - (i + 1))
                              case measure => omega
                              case rel => exact ⟨i + 1, by omega, rfl, by go_num, Lib.hid (K8.out.past ((Turn.refl _ _).drewN _))⟩
                            · have hp4 : decide (0 < pr) = false := by simpa using hp2
                              go_quiet (fail)
                              go_wp2
                              go_roundg (n - (i + 1))
                              case measure => omega
                              case rel => exact ⟨i + 1, by omega, rfl, by go_num, Lib.hid (K8.out.past ((Turn.refl _ _).drewN _))⟩
                    · obtain rfl : i = n := by omega
                      have hil : ¬ (i : Int) + 1 < (i : Int) + 1 := by omega
                      have HT := Lib.hid HP.out.st.turn
                      clear HP
                      go_wp2_with (go_at_call 30; (with_reducible refine (CW.out _).mono ?_); rintro e w5 ⟨rfl, t5⟩; have T5 := Lib.hid t5; clear t5)
                      go_ret
                      exact ⟨rfl, TT HT.out T5.out⟩
            · have hsb : (killS n T id != 0) = true := by simpa using hs
              have hkl : killL n T id code = [] := by unfold killL; rw [if_neg hs]
              rw [hkl] at CK
              have HS := Lib.hid hs
              clear hs hkl
              by_cases i1 : id < 1
              · generalize killS n T id = ks at *
                go_wp2_with (first
                  | (go_at_call 47; (with_reducible refine CK.out.mono ?_); rintro e w2 ⟨v, rfl, r2, k2, kp2, -⟩; obtain ⟨pv, cv, rfl⟩ := WRow.sl r2; have T2 := Lib.hid k2.turn; clear r2 k2 kp2)
                  | (go_at_call 30; (with_reducible refine (CW.out _).mono ?_); rintro e w5 ⟨rfl, t5⟩; have T5 := Lib.hid t5; clear t5))
                go_ret
                exact ⟨rfl, TT T2.out T5.out⟩
              · by_cases i2 : (n : Int) + 1 ≤ id
                · have i3 : id ≥ (n : Int) + 1 := i2
                  generalize killS n T id = ks at *
                  go_wp2_with (first
                    | (go_at_call 47; (with_reducible refine CK.out.mono ?_); rintro e w2 ⟨v, rfl, r2, k2, kp2, -⟩; obtain ⟨pv, cv, rfl⟩ := WRow.sl r2; have T2 := Lib.hid k2.turn; clear r2 k2 kp2)
                    | (go_at_call 30; (with_reducible refine (CW.out _).mono ?_); rintro e w5 ⟨rfl, t5⟩; have T5 := Lib.hid t5; clear t5))
                  go_ret
                  exact ⟨rfl, TT T2.out T5.out⟩
                · obtain ⟨d, rfl⟩ : ∃ d : Nat, id = d := ⟨id.toNat, by omega⟩
                  have hdn : d < n + 1 := by omega
                  have hdl : (d : Int) < (n : Int) + 1 := by omega
                  have hda : aliveAt n T (d : Int) = false := by
                    have hin2 : inN n (d : Int) = true := inN_iff.2 ⟨by omega, by omega⟩
                    have h3 := HS.out
                    unfold killS at h3
                    rw [if_neg (by rw [hin2]; simp)] at h3
                    unfold aliveAt aliveB
                    by_cases e : (T (plc (d : Int))).st = 2
                    · simp [e]
                    · rw [if_neg e] at h3; exact absurd rfl h3
                  generalize killS n T (d : Int) = ks at *
                  go_wp2_with (first
                    | (go_at_call 47; (with_reducible refine CK.out.mono ?_); rintro e w2 ⟨v, rfl, r2, k2, kp2, -⟩; obtain ⟨pv, cv, rfl⟩ := WRow.sl r2; have y1 := (FRow.kept HKB.out.2 kp2.choose_spec.1 (kp2.choose_spec.2 _ rfl)).at hdn; rw [hda] at y1; have T2 := Lib.hid k2.turn; clear r2 k2 kp2)
                    | (go_at_call 30; (with_reducible refine (CW.out _).mono ?_); rintro e w5 ⟨rfl, t5⟩; have T5 := Lib.hid t5; clear t5))
                  go_ret
                  exact ⟨rfl, TT T2.out T5.out⟩
  · have e1 : 80 < (len : Int) := by omega
    clear hrd hol hk
    go_enter Try.func6, Try.ntmps6
    go_wp2_with (first
      | (go_at_call 29; (with_reducible refine CN.out.mono ?_); rintro e w1 ⟨c, rfl, h1⟩; have H1 := Lib.hid h1.turn; clear h1)
      | (go_at_call 30; (with_reducible refine (CW.out _).mono ?_); rintro e w5 ⟨rfl, t5⟩; have T5 := Lib.hid t5; clear t5))
    go_ret
    exact ⟨rfl, TT H1.out T5.out⟩
end Go.Proofs.Ytabakjimlndhcaa
