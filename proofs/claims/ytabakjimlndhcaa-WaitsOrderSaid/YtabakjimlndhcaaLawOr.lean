/-
  WaitsOrder's walk. Conditions: the arguments can be read.
-/
import Derived.Test.YtabakjimlndhcaaLawOrM
import Derived.Deep.LoopGhost
import Derived.OwnWalk
import Derived.Deep.DeepCutAuto
import Derived.Deep.CutBlock
import Derived.BigQuiet
namespace Go.Proofs.Ytabakjimlndhcaa
open Go.ChangeShapes Go.WideShapes Go.ChangeAt Go.RowKit Go.Maps Go.Shelf

set_option maxRecDepth 20000 in
set_option maxHeartbeats 8000000 in
theorem or_walk (now : Int) (sp : Option Addr) (len cap : Nat) (zs : List Int) (sq : Option Addr) (len2 cap2 : Nat) (ys : List Int) (w : World) (h : ZsAt w sp len zs) (h2 : ZsAt w sq len2 ys) :
    Calls Try.prog 4 #[.slice sp len cap, .slice sq len2 cap2, .int .i64 now] w fun e w' => e = .returned (.bool true) ∧ Turn NoBlock w w' := by
  have CN := Lib.hid (wst_new 100 w (by omega) (by omega))
  have CM := Lib.hid (fun w1 => wst_new 100 w1 (by omega) (by omega))
  have CA := Lib.hid awake16
  have HZ := Lib.hid h
  have HY := Lib.hid h2
  clear h h2
  by_cases hbig : 60 < len ∨ len2 < len
  · by_cases h60 : 60 < len
    · have hbi : (60 : Int) < (len : Int) := by omega
      clear hbig
      go_enter Try.func4, Try.ntmps4
      go_wp2_with (first
        | (go_at_call 11; (with_reducible refine (CM.out _).mono ?_); rintro x w2 ⟨cb, rfl, k2, -⟩; have K2 := Lib.hid (TT K1.out.turn k2.turn); clear k2)
        | (go_at_call 11; (with_reducible refine CN.out.mono ?_); rintro x w1 ⟨ca, rfl, k1, -⟩; have K1 := Lib.hid k1; clear k1)
        | (go_at_call 12; (with_reducible refine (CA.out _).mono ?_); rintro x w3 ⟨rfl, t3⟩; have T3 := Lib.hid t3; clear t3))
      go_ret
      exact ⟨rfl, TT K2.out T3.out⟩
    · have hbi : ¬ (60 : Int) < (len : Int) := by omega
      have hbj : (len2 : Int) < (len : Int) := by omega
      clear hbig
      go_enter Try.func4, Try.ntmps4
      go_wp2_with (first
        | (go_at_call 11; (with_reducible refine (CM.out _).mono ?_); rintro x w2 ⟨cb, rfl, k2, -⟩; have K2 := Lib.hid (TT K1.out.turn k2.turn); clear k2)
        | (go_at_call 11; (with_reducible refine CN.out.mono ?_); rintro x w1 ⟨ca, rfl, k1, -⟩; have K1 := Lib.hid k1; clear k1)
        | (go_at_call 12; (with_reducible refine (CA.out _).mono ?_); rintro x w3 ⟨rfl, t3⟩; have T3 := Lib.hid t3; clear t3))
      go_ret
      exact ⟨rfl, TT K2.out T3.out⟩
  · have hl60 : len ≤ 60 := by omega
    have hl2 : len ≤ len2 := by omega
    have hbi : ¬ (60 : Int) < (len : Int) := by omega
    have hbj : ¬ len2 < len := by omega
    clear hbig
    go_enter Try.func4, Try.ntmps4
    go_wp2_with (first
      | (go_at_call 11; (with_reducible refine (CM.out _).mono ?_); rintro x w2 ⟨cb, rfl, k2, -⟩; have K2 := Lib.hid (wtwo_new K1.out k2); clear k2)
      | (go_at_call 11; (with_reducible refine CN.out.mono ?_); rintro x w1 ⟨ca, rfl, k1, -⟩; have K1 := Lib.hid k1; clear k1))
    have HL2 := Lib.hid hl2
    clear hbi hbj hl2
    go_loopg [9, 59] len (fun z s9 s59 wr => ∃ (j : Nat) (L : List Wt), j ≤ len ∧ z = len - j ∧ s59 = .int .i64 (j : Int) ∧ Hid (OrS w wr ca cb L L s9 (L.map Wt.t) ∧ ORow L ∧ L.length ≤ j))
    case atStart => exact ⟨0, [], by omega, by omega, rfl, Lib.hid ⟨⟨K2.out.fewer (fun k hk => (blk_nil k hk).elim), wrow_nil _ _ _, fun k hk => (blk_nil k hk).elim⟩, ⟨List.nodup_nil, fun a ha => by cases ha⟩, by simp⟩⟩
    case round =>
      obtain ⟨j, L, hj, hz, rfl, HI⟩ := hrel
      by_cases hlt : j < len
      · have hjn : (j : Int) < (len : Int) := by omega
        have hjn2 : (j : Int) < (len2 : Int) := by have := HL2.out; omega
        obtain ⟨hzl, hzf, hzc⟩ := HZ.out
        obtain ⟨g, o, rfl, hcell⟩ := hzc (by omega)
        obtain ⟨t, ht⟩ : ∃ t, zs[j]? = some t := ⟨_, List.getElem?_eq_getElem (by omega)⟩
        have d0 := HI.out.1.st.turn.cell (hcell j t ht) (fun h => h)
        have htf := hzf t (List.mem_of_getElem? ht)
        obtain ⟨hyl, hyf, hyc⟩ := HY.out
        obtain ⟨g2, o2, rfl, hcell2⟩ := hyc (by have := HL2.out; omega)
        obtain ⟨d, hd⟩ : ∃ d, ys[j]? = some d := ⟨_, List.getElem?_eq_getElem (by have := HL2.out; omega)⟩
        have d1 := HI.out.1.st.turn.cell (hcell2 j d hd) (fun h => h)
        have hdf := hyf d (List.mem_of_getElem? hd)
        have CB := Lib.hid (HI.out.1.blockA t d htf hdf)
        have CC := Lib.hid (fun W L2 (hs : OrS w W ca cb L2 L u9 (L.map Wt.t)) => hs.blockB t d htf hdf)
        have DD := Lib.hid (fun W (hs : Turn NoBlock w W) => hs.cell (hcell2 j d hd) (fun h => h))
        obtain ⟨q1, q2, q3⟩ := or_blk HI.out.2.1 t d htf hdf
        have HN := Lib.hid (And.intro q1 (And.intro q2 q3))
        have hL60 : L.length ≤ 60 := by have := HI.out.2.2; omega
        clear hzl hzf hzc hcell ht htf hyl hyf hyc hcell2 hd hdf q1 q2 q3
        by_cases hs : blkS 100 L t [⟨4, 1⟩] = 0
        · have HS := Lib.hid hs
          rw [hs] at CB CC
          clear hs
          go_wp2_with (first
            | (go_at_call 14; (with_reducible refine (CC.out _ _ B1.out).mono ?_); rintro x w4 ⟨rfl, k4⟩; obtain ⟨p, n, cc, p', cc', W1, hv, hn, hap, hf⟩ := k4.push t (by rw [List.length_map]; omega); subst hv; have HF := Lib.hid hf; clear k4 hf hn)
            | (go_at_call 14; (with_reducible refine CB.out.mono ?_); rintro x w3 ⟨rfl, k3⟩; have B1 := Lib.hid k3; have d2 := DD.out _ k3.st.turn; clear k3)
            | (at_builtin; refine Lib.wpList_append_run _ rfl (.tmp 86) (.tmp 88) 53 53 rfl _ _ rfl rfl _ _ (hap _) ?_))
          go_roundg (len - (j + 1))
          case measure => omega
          case rel => exact ⟨j + 1, blkL 100 L t d [⟨4, 1⟩], by omega, by omega, by go_num, Lib.hid ⟨by rw [HN.out.2.2, if_pos HS.out]; exact HF.out, HN.out.1, by have := HN.out.2.1; have := HI.out.2.2; omega⟩⟩
        · have HS := Lib.hid hs
          have e1 : blkL 100 L t d [⟨4, 1⟩] = L := by unfold blkL; rw [if_neg hs]
          rw [e1] at CB CC
          have hsb : (blkS 100 L t [⟨4, 1⟩] == 0) = false := by simpa using hs
          generalize blkS 100 L t [⟨4, 1⟩] = s at *
          clear hs e1
          go_wp2_with (first
            | (go_at_call 14; (with_reducible refine (CC.out _ _ B1.out).mono ?_); rintro x w4 ⟨rfl, k4⟩; have B2 := Lib.hid k4; clear k4)
            | (go_at_call 14; (with_reducible refine CB.out.mono ?_); rintro x w3 ⟨rfl, k3⟩; have B1 := Lib.hid k3; have d2 := DD.out _ k3.st.turn; clear k3))
          go_roundg (len - (j + 1))
          case measure => omega
          case rel => exact ⟨j + 1, L, by omega, by omega, by go_num, Lib.hid ⟨B2.out, HI.out.2.1, by have := HI.out.2.2; omega⟩⟩
      · obtain rfl : j = len := by omega
        obtain ⟨po, co, hv⟩ := WRow.sl HI.out.1.row
        obtain ⟨N, hN⟩ : ∃ N, L.length = N := ⟨_, rfl⟩
        rw [List.length_map, hN] at hv
        subst hv
        obtain ⟨ot1, ot2⟩ := or_tell HI.out.2.1
        have hN60 : N ≤ 60 := by have := HI.out.2.2; omega
        have CT := Lib.hid (show Calls Try.prog 17 #[.pointer (some ⟨ca, 0, none⟩), .int .i64 4, .int .i64 3] wr fun x w' => ∃ (p : Option Addr) (cc : Nat), x = .returned (.slice p N cc) ∧ KRow (.slice p N cc) (L.map (fun a => ⟨a.t, 0, 0, 3⟩)) w' ∧ OrS w w' ca cb [] L (.slice po N co) (L.map Wt.t) from by
          refine (HI.out.1.st.tellA 4 3 (fit_small _ (by decide))).mono ?_
          rintro x w' ⟨u, rfl, h1, h2, h3, -⟩
          rw [ot1] at h1
          rw [ot2] at h2
          obtain ⟨p, cc, hu⟩ := WRow.sl h1
          rw [List.length_map, hN] at hu
          exact ⟨p, cc, by rw [hu], by rw [← hu]; exact h1, h2, h3.row HI.out.1.row (fun k hk => hk), HI.out.1.fr⟩)
        have HL := Lib.hid (And.intro hN HI.out.2.1)
        clear ot1 ot2 hN HI hlt hj hz
        go_wp2_with (first
          | (go_at_call 17; (with_reducible refine CT.out.mono ?_); rintro x w3 ⟨pl, cl, rfl, r3, k3⟩; have R3 := Lib.hid r3; have K3 := Lib.hid k3; clear r3 k3)
          | (go_at_call 27; (with_reducible refine K3.out.st.countA.mono ?_); rintro x w4 ⟨rfl, rfl⟩))
        go_loopg [105] N (fun z s105 wr => ∃ i : Nat, i ≤ N ∧ z = N - i ∧ s105 = .int .i64 (i : Int) ∧ Hid (Turn NoBlock w3 wr))
        case atStart => exact ⟨0, by omega, by omega, rfl, Lib.hid (Turn.refl _ _)⟩
        case round =>
          obtain ⟨i, hi, hz, rfl, HT⟩ := hrel
          by_cases hlt : i < N
          · have hin : (i : Int) < (N : Int) := by omega
            obtain ⟨a, ha⟩ : ∃ a, L[i]? = some a := ⟨_, List.getElem?_eq_getElem (by rw [HL.out.1]; exact hlt)⟩
            have r3 := R3.out.past HT.out
            obtain ⟨ga, go, gc, he, -⟩ := WRow.shape r3 (by rw [List.length_map, HL.out.1]; omega)
            simp only [Value.slice.injEq] at he
            obtain ⟨rfl, -, rfl⟩ := he
            obtain ⟨r0, r1, r2, r4⟩ := r3.four (j := i) (t := ⟨a.t, 0, 0, 3⟩) (by rw [List.getElem?_map, ha]; rfl)
            have b3 := K3.out.row.past HT.out
            obtain ⟨gb, gp, gd, he, -⟩ := WRow.shape b3 (by rw [List.length_map, HL.out.1]; omega)
            simp only [Value.slice.injEq] at he
            obtain ⟨rfl, -, rfl⟩ := he
            have o0 := nums_at b3 (j := i) (x := a.t) (by rw [List.getElem?_map, ha]; rfl)
            dsimp only at r0 r1 r2 r4
            generalize a.t = t at *
            have bx := heap_alloc_new wr (.cells #[.int .i64 t, .int .i64 0, .int .i64 0, .int .i64 3] 61)
            have tx : Turn NoBlock wr (wr.alloc (.cells #[.int .i64 t, .int .i64 0, .int .i64 0, .int .i64 3] 61)) := (Turn.refl _ _).alloc _
            obtain ⟨WB, hWB⟩ : ∃ WB, wr.alloc (.cells #[.int .i64 t, .int .i64 0, .int .i64 0, .int .i64 3] 61) = WB := ⟨_, rfl⟩
            rw [hWB] at bx tx
            have x0 : WB.cell? ⟨wr.heap.size, 0, none⟩ = some (.int .i64 t) := cell_at bx 0
            have x1 : WB.cell? ⟨wr.heap.size, 1, none⟩ = some (.int .i64 0) := cell_at bx 1
            have x2 : WB.cell? ⟨wr.heap.size, 2, none⟩ = some (.int .i64 0) := cell_at bx 2
            have x3 : WB.cell? ⟨wr.heap.size, 3, none⟩ = some (.int .i64 3) := cell_at bx 3
            have o1 := tx.cell o0 (fun h => h)
            have HT2 := Lib.hid (HT.out.trans tx (fun _ h => .inl h))
            clear r3 b3 ha bx tx
            go_wp2
            go_quiet (fail)
            have HT3 := Lib.hid ((HT2.out).drewN nq)
            go_wp2
            go_roundg (N - (i + 1))
            case measure => omega
            case rel => exact ⟨i + 1, by omega, by omega, by go_num, HT3⟩
          · obtain rfl : i = N := by omega
            have K4 := Lib.hid (orm_new (K3.out.past HT.out))
            have hmm := @run_makeMap Try.prog
            go_wp2
            clear hmm
            obtain ⟨m, hm⟩ : ∃ m, wr.heap.size = m := ⟨_, rfl⟩
            rw [hm] at K4
            rw [hm]
            generalize wr.alloc (.map #[] 0) = W4 at *
            clear hm
            go_loopg [136] i (fun z s136 wr => ∃ q : Nat, q ≤ i ∧ z = i - q ∧ s136 = .int .i64 (q : Int) ∧ Hid (OrM w wr ca cb m [] L (.slice po i co) (L.map Wt.t) (L.take q)))
            case atStart => exact ⟨0, by omega, by omega, rfl, K4⟩
            case round =>
              obtain ⟨q, hq, hz2, rfl, HM⟩ := hrel
              by_cases hqi : q < i
              · have hqn : (q : Int) < (i : Int) := by omega
                obtain ⟨a, ha⟩ : ∃ a, L[q]? = some a := ⟨_, List.getElem?_eq_getElem (by rw [HL.out.1]; exact hqi)⟩
                have b3 := HM.out.row
                obtain ⟨gb, gp, gd, he, -⟩ := WRow.shape b3 (by rw [List.length_map, HL.out.1]; omega)
                simp only [Value.slice.injEq] at he
                obtain ⟨rfl, -, rfl⟩ := he
                have o0 := nums_at b3 (j := q) (x := a.t) (by rw [List.getElem?_map, ha]; rfl)
                have hat := List.mem_of_getElem? ha
                obtain ⟨-, hft, hfd⟩ := HL.out.2.each a hat
                have CD := Lib.hid (HM.out.deadline HL.out.2.nod hat hft)
                have hno : hasW (L.take q) a.t = false := by
                  cases hb : hasW (L.take q) a.t with
                  | false => rfl
                  | true =>
                    exfalso
                    unfold hasW at hb
                    obtain ⟨y, hy, hyt⟩ := List.any_eq_true.1 hb
                    obtain ⟨u, hu, hyu⟩ := List.getElem_of_mem hy
                    rw [List.getElem_take] at hyu
                    rw [List.length_take] at hu
                    obtain ⟨hj, he⟩ := List.getElem?_eq_some_iff.1 ha
                    have := (List.getElem_inj (i := u) (j := q) (h₀ := by rw [List.length_map]; omega) (h₁ := by rw [List.length_map]; exact hj) HL.out.2.nod).1 (by rw [List.getElem_map, List.getElem_map, hyu, he]; simpa using hyt)
                    omega
                obtain ⟨W5, hput, k5⟩ := HM.out.put (p := a) hno (by rw [List.length_take]; omega) hft hfd
                have K5 := Lib.hid (show OrM w W5 ca cb m [] L (.slice (some ⟨gb, gp, none⟩) i co) (L.map Wt.t) (L.take (q + 1)) from by rw [List.take_add_one, ha]; exact k5)
                clear b3 ha hat hft hfd hno k5
                go_wp2_with (go_at_call 25; (with_reducible refine CD.out.mono ?_); rintro x w6 ⟨bb, rfl, rfl⟩)
                go_roundg (i - (q + 1))
                case measure => omega
                case rel => exact ⟨q + 1, by omega, by omega, by go_num, K5⟩
              · obtain rfl : q = i := by omega
                have K6 := Lib.hid (show OrM w wr ca cb m [] L (.slice po q co) (L.map Wt.t) L from by have := HM.out; rw [List.take_of_length_le (by rw [HL.out.1]; exact Nat.le_refl _)] at this; exact this)
                have CE := Lib.hid (show Calls Try.prog 19 #[.pointer (some ⟨cb, 0, none⟩), .int .i64 now] wr fun x w' => ∃ (p : Option Addr) (n cc : Nat) (D : List Wt), x = .returned (.slice p n cc) ∧ D.length = n ∧ Late L D now ∧ KRow (.slice p n cc) (D.map woke) w' ∧ OrM w w' ca cb m [] (L.filter (fun a => !decide (a.d ≤ now))) (.slice po q co) (L.map Wt.t) L ∧ ∀ k, Blk (.slice p n cc) k → k ≠ m from by
                  refine (K6.out.expire HL.out.2.nod now).mono ?_
                  rintro x w' ⟨u, D, rfl, h1, h2, h3, h4⟩
                  obtain ⟨p, cc, hu⟩ := WRow.sl h2
                  rw [List.length_map] at hu
                  subst hu
                  exact ⟨p, _, cc, D, rfl, rfl, h1, h2, h3, h4⟩)
                clear HM
                go_wp2_with (go_at_call 19; (with_reducible refine CE.out.mono ?_); rintro x w7 ⟨pe, n, ce, D, rfl, hn, hla, r7, k7, b7⟩; have HN := Lib.hid hn; have HA := Lib.hid hla; have R7 := Lib.hid (And.intro r7 b7); have K7 := Lib.hid k7; clear hn hla r7 k7 b7)
                go_loopg [20, 21, 154] n (fun z s20 s21 s154 wr => ∃ (j : Nat) (la wh : Int), j ≤ n ∧ z = n - j ∧ s154 = .int .i64 (j : Int) ∧ s20 = .int .i64 la ∧ s21 = .int .i64 wh ∧ Hid (OrM w wr ca cb m [] (L.filter (fun a => !decide (a.d ≤ now))) (.slice po q co) (L.map Wt.t) (oJ L D j) ∧ KRow (.slice pe n ce) (D.map woke) wr ∧ (∀ i, j = i + 1 → ∃ y, D[i]? = some y ∧ la = y.d ∧ wh = y.t)))
                case atStart => exact ⟨0, 0, 0, by omega, by omega, rfl, rfl, rfl, Lib.hid ⟨by rw [oJ_zero]; exact K7.out, R7.out.1, fun i hi => by omega⟩⟩
                case round =>
                  obtain ⟨j, la, wh, hj, hz3, rfl, rfl, rfl, HJ⟩ := hrel
                  by_cases hjn : j < n
                  · have hjni : (j : Int) < (n : Int) := by omega
                    have hn60 : n ≤ 60 := by
                      have h1 := HA.out.perm.length_eq
                      have h2 := List.length_filter_le (fun a : Wt => decide (a.d ≤ now)) L
                      have h3 := HL.out.1
                      have h4 := HN.out
                      omega
                    obtain ⟨a, ha⟩ : ∃ a, D[j]? = some a := ⟨_, List.getElem?_eq_getElem (by rw [HN.out]; exact hjn)⟩
                    obtain ⟨hm, hnow⟩ := HA.out.at ha
                    obtain ⟨-, hft, hfd⟩ := HL.out.2.each a (List.mem_filter.1 hm).1
                    have r7 := HJ.out.2.1
                    obtain ⟨ga, go, gc, he, -⟩ := WRow.shape r7 (by rw [List.length_map, HN.out]; omega)
                    simp only [Value.slice.injEq] at he
                    obtain ⟨rfl, -, rfl⟩ := he
                    obtain ⟨r0, r1, r2, r4⟩ := r7.four (j := j) (t := woke a) (by rw [List.getElem?_map, ha]; rfl)
                    unfold woke at r0 r1 r2 r4
                    dsimp only at r0 r1 r2 r4
                    have bx := heap_alloc_new wr (.cells #[.int .i64 a.t, .int .i64 (-1), .int .i64 (-21), .int .i64 0] 61)
                    have tx : Turn NoBlock wr (wr.alloc (.cells #[.int .i64 a.t, .int .i64 (-1), .int .i64 (-21), .int .i64 0] 61)) := (Turn.refl _ _).alloc _
                    obtain ⟨WB, hWB⟩ : ∃ WB, wr.alloc (.cells #[.int .i64 a.t, .int .i64 (-1), .int .i64 (-21), .int .i64 0] 61) = WB := ⟨_, rfl⟩
                    rw [hWB] at bx tx
                    have x0 : WB.cell? ⟨wr.heap.size, 0, none⟩ = some (.int .i64 a.t) := cell_at bx 0
                    have x1 : WB.cell? ⟨wr.heap.size, 1, none⟩ = some (.int .i64 (-1)) := cell_at bx 1
                    have x2 : WB.cell? ⟨wr.heap.size, 2, none⟩ = some (.int .i64 (-21)) := cell_at bx 2
                    have x3 : WB.cell? ⟨wr.heap.size, 3, none⟩ = some (.int .i64 0) := cell_at bx 3
                    have lk := (HJ.out.1.past tx).look (oJ_nod HL.out.2.nod j) hm hft
                    have DEL := Lib.hid (show ∀ W5, Turn NoBlock WB W5 → W5.cell? ⟨wr.heap.size, 0, none⟩ = some (.int .i64 a.t) ∧ ∃ w', (∀ ty, Sem.run Try.prog (Builtin.delete_ #[62, 3] ty #[.map (some m), .int .i64 a.t]) W5 = .ok (.tuple #[]) w') ∧ Hid (OrM w w' ca cb m [] (L.filter (fun a => !decide (a.d ≤ now))) (.slice po q co) (L.map Wt.t) (oJ L D (j + 1)) ∧ KRow (.slice (some ⟨ga, go, none⟩) n ce) (D.map woke) w' ∧ (∀ i, j + 1 = i + 1 → ∃ y, D[i]? = some y ∧ a.d = y.d ∧ a.t = y.t)) from by
                      intro W5 t5
                      obtain ⟨w', q1, q2, q3⟩ := (HJ.out.1.past (TT tx t5)).del (oJ_nod HL.out.2.nod j) hm hft
                      refine ⟨t5.cell x0 (fun h => h), w', q1, Lib.hid ⟨?_, ?_, fun i hi => ?_⟩⟩
                      · rw [oJ_next L ha] at q2
                        exact q2
                      · exact (r7.past (TT tx t5)).kept q3 (fun k hk => R7.out.2 k hk)
                      · obtain rfl : i = j := by omega
                        exact ⟨a, ha, rfl, rfl⟩)
                    have hdn : ¬ now < a.d := by omega
                    have HPREV := Lib.hid (show ∀ i, j = i + 1 → ¬ a.d < la ∧ (la = a.d → wh < a.t) from fun i hi => by
                      obtain ⟨y, hy, rfl, rfl⟩ := HJ.out.2.2 i hi
                      subst hi
                      exact HA.out.next hy ha)
                    clear r7 bx tx hm hft hfd hnow
                    subst hWB
                    rcases Nat.eq_zero_or_pos j with h0 | h0
                    · have hj0 : ¬ (0 : Int) < (j : Int) := by omega
                      have hj0n : ¬ 0 < j := by omega
                      clear h0 ha
                      go_wp2
                      go_quiet (fail)
                      obtain ⟨v5, w6, dl, k6⟩ := DEL.out _ ((Turn.refl NoBlock _).drewN nq)
                      clear x0 x1 x2 x3 lk hdn hj0 hj0n
                      go_wp2
                      go_roundg (n - (j + 1))
                      case measure => omega
                      case rel => exact ⟨j + 1, _, _, by omega, by omega, by go_num, rfl, rfl, k6⟩
                    · obtain ⟨hp1, hp2⟩ := HPREV.out (j - 1) (by omega)
                      have hj0 : (0 : Int) < (j : Int) := by omega
                      by_cases heq : la = a.d
                      · have hb : (la == a.d) = true := by simpa using heq
                        have hw : ¬ a.t ≤ wh := by have := hp2 heq; omega
                        clear hp2 heq ha
                        go_wp2
                        go_quiet (fail)
                        obtain ⟨v5, w6, dl, k6⟩ := DEL.out _ ((Turn.refl NoBlock _).drewN nq)
                        clear x0 x1 x2 x3 lk hdn hj0 hb hw hp1
                        go_wp2
                        go_roundg (n - (j + 1))
                        case measure => omega
                        case rel => exact ⟨j + 1, _, _, by omega, by omega, by go_num, rfl, rfl, k6⟩
                      · have hb : (la == a.d) = false := by simpa using heq
                        clear hp2 heq ha
                        go_wp2
                        go_quiet (fail)
                        obtain ⟨v5, w6, dl, k6⟩ := DEL.out _ ((Turn.refl NoBlock _).drewN nq)
                        clear x0 x1 x2 x3 lk hdn hj0 hb hp1
                        go_wp2
                        go_roundg (n - (j + 1))
                        case measure => omega
                        case rel => exact ⟨j + 1, _, _, by omega, by omega, by go_num, rfl, rfl, k6⟩
                  · obtain rfl : j = n := by omega
                    have HR := Lib.hid (show OrM w wr ca cb m [] (L.filter (fun a => !decide (a.d ≤ now))) (.slice po q co) (L.map Wt.t) (L.filter (fun a => !decide (a.d ≤ now))) from by
                      have h1 := HJ.out.1
                      rw [← HN.out, HA.out.left] at h1
                      exact h1)
                    obtain ⟨M, hM⟩ : ∃ M, L.filter (fun a => !decide (a.d ≤ now)) = M := ⟨_, rfl⟩
                    have HMd := Lib.hid (show ∀ p ∈ M, ¬ p.d ≤ now from fun p hp => by rw [← hM] at hp; have := (List.mem_filter.1 hp).2; simpa using this)
                    rw [hM] at HR
                    obtain ⟨DD, hown, hS⟩ := HR.out.mp
                    obtain ⟨ml, hml⟩ : ∃ ml, M.length = ml := ⟨_, rfl⟩
                    rw [hml] at hown
                    have SEEN := Lib.hid (show ∀ x c : Int, (∀ zd, DD.atKey (.int .i64 x) zd = .lit (.int .i64 c)) → ¬ c ≤ now from fun x c hat => by
                      have h1 := (hS.1 x).2 (.lit (.int .i64 0))
                      have h2 := (hS.1 x).2 (.lit (.int .i64 1))
                      rw [hat] at h1 h2
                      cases hg : dF M x with
                      | none => rw [hg] at h1 h2; simp at h1 h2; omega
                      | some v =>
                        rw [hg] at h1
                        simp at h1
                        obtain ⟨p, hp, -, hpd⟩ := dF_some hg
                        rw [h1, ← hpd]
                        exact HMd.out p hp)
                    have HML := Lib.hid hml
                    clear hS hM HJ hml
                    generalize wr = W8 at *
                    go_wp2_with (at_range; refine wpList_range_own _ rfl _ 62 rfl 3 3 intKey pmapUnder _ m ml DD rfl hown ?_; intro w0 hrg0 hg0 hs0; have K0 := Lib.hid (And.intro hrg0 ((Turn.refl NoBlock W8).grown hg0 (fun k e => by cases e))); clear hrg0 hg0 hs0)
                    go_loopg [27] (size DD) (fun g s27 wr => ∃ left, Hid (wr.ranges Try.prog 3 (plainElem Try.prog 3) m W8.heap.size ml DD left g ∧ Turn NoBlock W8 wr))
                    case atStart => exact ⟨_, K0⟩
                    case round =>
                      obtain ⟨left, HX⟩ := hrel
                      have hrg := HX.out.1
                      have ll := fun ty => (HR.out.past HX.out.2).mp.len ty
                      have CC := Lib.hid (HR.out.past HX.out.2).count
                      rw [HML.out] at ll CC
                      go_wp2_with (first
                        | (at_next; refine wp_next_I _ rfl _ rfl m W8.heap.size ml _ _ _ rfl hrg (fun KD => ?_) (fun x c w1 cnt1 KX hen => ?_); rotate_left; have hdn := SEEN.out _ _ KX.out.2.1; rotate_left)
                        | (go_at_call 27; (with_reducible refine CC.out.mono ?_); rintro x w9 ⟨rfl, rfl⟩)
                        | (go_at_call 12; (with_reducible refine (CA.out _).mono ?_); rintro x w10 ⟨rfl, t10⟩; have T10 := Lib.hid t10; clear t10))
                      · go_ret
                        exact ⟨rfl, TT (TT HR.out.st.turn HX.out.2) T10.out⟩
                      · go_roundg cnt1
                        case measure => exact KX.out.2.2.2.1
                        case rel => exact ⟨_, Lib.hid ⟨KX.out.2.2.1, HX.out.2.trans (show Turn (fun k => k = W8.heap.size) _ w1 from (Turn.refl _ _).grown KX.out.2.2.2.2 (fun k hk => by cases hk; exact .inl rfl)) (fun k hk => .inr (by subst hk; exact Nat.le_refl _))⟩⟩
end Go.Proofs.Ytabakjimlndhcaa
