/-
  TasksCritical's walk. No conditions.
-/
import Derived.Test.YtabakjimlndhcaaLawCrM
import Derived.Deep.LoopGhost
import Derived.Deep.RegionHeld3
namespace Go.Proofs.Ytabakjimlndhcaa
open Go.ChangeShapes Go.WideShapes Go.ChangeAt Go.RowKit

theorem cr_alive {w0 w : World} {c m p : Nat} {T : Nat → Tk} {X : Nat → Prop} (h : KSt w0 w c 100 m T X) (hm : m ≤ 13) (hp : p < m) (id : Int) (hid : id = (p : Int) + 1) (v : Bool) (hv : aliveB (T p) = v) (W : World) (t : Turn NoBlock w W) : Calls Try.prog 38 #[.pointer (some ⟨c, 0, none⟩), .int .i64 id] W fun x w' => x = .returned (.bool v) ∧ W = w' := by
  have := (h.past t).alive (by omega) id
  subst hid
  rw [alive_kid hp, hv] at this
  exact this
/-- The jobs in a row of the call's own. -/
structure JR (w0 w : World) (c n m : Nat) (T : Nat → Tk) (v : Value) (k : Nat) : Prop where
  st : KSt w0 w c 100 m T (Blk v)
  row : Nums v (numL (List.range k)) w
  own : ∀ i, Blk v i → w0.heap.size ≤ i
  eq : n = k
theorem JR.past {w0 w w' : World} {c n m k : Nat} {T : Nat → Tk} {v : Value} (h : JR w0 w c n m T v k) (t : Turn NoBlock w w') : JR w0 w' c n m T v k := ⟨h.st.past t, h.row.past t, h.own, h.eq⟩
theorem JR.next {w0 w w' : World} {c n m n' m' k : Nat} {T T' : Nat → Tk} {v : Value} (h : JR w0 w c n m T v k) (hs : KSt w0 w' c 100 m' T' (Blk v)) (hk : Kp (Blk v) w w') (e : n' = k) : JR w0 w' c n' m' T' v k :=
  ⟨hs, hk.row h.row (fun _ h => h), h.own, e⟩
theorem JR.at {w0 w : World} {c n m k : Nat} {T : Nat → Tk} {v : Value} (h : JR w0 w c n m T v k) (hk : 0 < k) : ∃ g o cap, v = .slice (some ⟨g, o, none⟩) k cap ∧ ∀ j, j < k → w.cell? ⟨g, o + j, none⟩ = some (.int .i64 ((j : Int) + 1)) := by
  have e : (numL (List.range k)).length = k := by rw [numL_len, List.length_range]
  obtain ⟨g, o, cap, h1, -, -, -, h5, -⟩ := WRow.shape h.row (by omega)
  rw [e] at h1
  refine ⟨g, o, cap, h1, fun j hj => ?_⟩
  rw [h5 j (by omega)]
  simp [icells, numL, hj]
/-- One more job is noted. -/
theorem JR.push {w0 w : World} {c n m k : Nat} {T : Nat → Tk} {v : Value} (h : JR w0 w c n m T v k) (hk : k ≤ 1000) :
    ∃ p cap W, (∀ ty, (Builtin.append_ #[53, 53] ty #[v, .slice (some ⟨w.heap.size, 0, none⟩) 1 1]).run Try.prog (w.alloc (.cells #[.int .i64 ((k : Int) + 1)] 3)) = .ok (.slice p (k + 1) cap) W) ∧ JR w0 W c (k + 1) m T (.slice p (k + 1) cap) (k + 1) := by
  have e : (numL (List.range k)).length = k := by rw [numL_len, List.length_range]
  obtain ⟨p, cap, W, hap, r, t, hb⟩ := push_any ((k : Int) + 1) h.row (by omega)
  rw [e] at hap r hb
  refine ⟨p, cap, W, hap, h.st.more t (fun i hi => ?_) h.own, ?_, fun i hi => ?_, rfl⟩
  · rcases hb i hi with h1 | h1
    · exact .inl h1
    · exact .inr ⟨h1, WRow.lt r hi⟩
  · rw [List.range_succ, numL_app]
    exact r
  · rcases hb i hi with h1 | h1
    · exact h.own i h1
    · exact Nat.le_trans h.st.turn.size h1
theorem jr_new {w0 w : World} {c : Nat} (h : KSt w0 w c 100 1 T1 NoBlock) : JR w0 (w.alloc (.cells #[.int .i64 1] 3)) c 1 1 T1 (.slice (some ⟨w.heap.size, 0, none⟩) 1 1) 1 := by
  have hb := heap_alloc_new w (.cells #[.int .i64 1] 3)
  have hblk : ∀ i, Blk (.slice (some ⟨w.heap.size, 0, none⟩) 1 1) i → i = w.heap.size := fun i hi => by simpa [Blk, Value.ownBlock, eq_comm] using hi
  refine ⟨h.more (Y := Blk (.slice (some ⟨w.heap.size, 0, none⟩) 1 1)) ((Turn.refl NoBlock w).alloc _) (fun i hi => .inr ?_) (fun i hi => hi.elim), ⟨rfl, .inr ⟨w.heap.size, 0, 1, rfl, Nat.le_refl _, by unfold maxLen; omega, ⟨_, hb⟩, fun j hj => ?_, fun j hj => ?_⟩⟩, fun i hi => ?_, rfl⟩
  · rw [hblk i hi, World.size_alloc]; omega
  · obtain rfl : j = 0 := by simp [numL] at hj; omega
    rw [cell_at hb]
    rfl
  · obtain rfl : j = 0 := by omega
    rw [cell_at hb]
    rfl
  · rw [hblk i hi]; exact h.turn.size
set_option maxRecDepth 100000 in
set_option maxHeartbeats 8000000 in
theorem critical_walk (zd za zc : Int) (K : Bool) (w : World) : Calls Try.prog 9 #[.agg #[.int .i64 zd, .int .i64 za, .int .i64 zc, .bool K]] w fun x w' => x = .returned (.bool true) ∧ Turn NoBlock w w' := by
  have CW := Lib.hid awake17
  obtain ⟨BX, hBX⟩ : ∃ b, w.heap.size = b := ⟨_, rfl⟩
  obtain ⟨w1, hw1⟩ : ∃ w1, w.alloc (.cells #[.int .i64 zd, .int .i64 za, .int .i64 zc, .bool K] 93) = w1 := ⟨_, rfl⟩
  have hb : w1.heap[BX]? = some (.cells #[.int .i64 zd, .int .i64 za, .int .i64 zc, .bool K] 93 (0, 0)) := by rw [← hw1, ← hBX]; exact heap_alloc_new w _
  have t1 : Turn NoBlock w w1 := by rw [← hw1]; exact (Turn.refl _ _).alloc _
  have CN := Lib.hid (new_yes 100 w1 (by decide))
  have z0 : w1.cell? ⟨BX, 0, none⟩ = some (.int .i64 zd) := cell_at hb 0
  have z1 : w1.cell? ⟨BX, 1, none⟩ = some (.int .i64 za) := cell_at hb 1
  have z3 : w1.cell? ⟨BX, 3, none⟩ = some (.bool K) := cell_at hb 3
  have ZB := Lib.hid (And.intro t1 (fun (W : World) (t : Turn NoBlock w1 W) => And.intro (t.cell (cell_at hb 0) (fun h => h)) (And.intro (t.cell (cell_at hb 1) (fun h => h)) (And.intro (t.cell (cell_at hb 2) (fun h => h)) (t.cell (cell_at hb 3) (fun h => h))))))
  have TOK1 := Lib.hid (ci1 (tok1 (most := 100) (by decide)))
  unfold tp at CN
  clear hb t1
  by_cases hk : 0 ≤ zd ∧ zd ≤ 10 ∧ 0 ≤ za ∧ za ≤ zd
  · obtain ⟨D, hD⟩ : ∃ D : Nat, zd = D := ⟨zd.toNat, by omega⟩
    obtain ⟨A, hA⟩ : ∃ A : Nat, za = A := ⟨za.toNat, by omega⟩
    subst hD hA
    have hD1 : D ≤ 10 := by omega
    have hAD : A ≤ D := by omega
    have e1 : ¬ (D : Int) < 0 := by omega
    have e2 : ¬ 10 < (D : Int) := by omega
    have e3 : ¬ (A : Int) < 0 := by omega
    have e4 : ¬ (D : Int) < (A : Int) := by omega
    have e5 : decide (D < A) = false := by simp; omega
    have e6 : ¬ D < A := by omega
    clear hk
    go_enter Try.func9, Try.ntmps9
    go_upto_region 4 with (go_at_call 29; (with_reducible refine CN.out.mono ?_); rintro e w2 ⟨c, rfl, h1⟩; obtain ⟨y0, y1, y2, y3⟩ := ZB.out.2 _ h1.turn; have H1 := Lib.hid (jr_new h1); clear h1)
    obtain ⟨y0', y1', y2', y3'⟩ := ZB.out.2 _ H1.out.st.turn
    clear y0 y1 y2 y3 z0 z1 z3
    go_wp2
    go_loopg [4, 48] D (fun z s4 s48 wr => ∃ (j : Nat) (T : Nat → Tk), j ≤ D ∧ z = D - j ∧ s48 = .int .i64 (j : Int) ∧ Hid (JR w1 wr c (j + 1) (j + 1) T s4 (j + 1) ∧ CI (j + 1) (j + 1) T))
    case atStart => exact ⟨0, T1, by omega, by omega, rfl, Lib.hid ⟨H1.out, TOK1.out⟩⟩
    case round =>
      clear H1 CN y0' y1' y2' y3'
      obtain ⟨j, T, hj, hz, rfl, HS⟩ := hrel
      obtain ⟨k1, r1⟩ := HS.out
      obtain ⟨g, o, cap, rfl, hcell⟩ := k1.at (by omega)
      have hlast := hcell j (by omega)
      by_cases hlt : j < D
      · have hjN : (j : Int) < (D : Int) := by omega
        have CM := Lib.hid (cr_job k1.st r1 (by omega))
        rw [show ((j + 1 : Nat) : Int) = (j : Int) + 1 by omega] at CM
        have HK := Lib.hid k1
        clear k1 r1 HS hcell
        go_upto_region 10 with (go_at_call 45; (with_reducible refine CM.out.mono ?_); rintro e w5 ⟨rfl, ⟨T5, h5, q5⟩, kp⟩; have H5 := Lib.hid (And.intro (HK.out.next h5 kp rfl) q5); clear h5 q5 kp)
        obtain ⟨p6, c6, W6, hap, j6⟩ := H5.out.1.push (by omega)
        rw [show ((j + 1 : Nat) : Int) = (j : Int) + 1 by omega] at hap
        have H6 := Lib.hid j6
        clear j6
        go_wp2_with (at_builtin; refine Lib.wpList_append_run _ rfl (.tmp 63) (.tmp 65) 53 53 rfl _ _ rfl rfl _ _ (hap _) ?_)
        go_roundg (D - (j + 1))
        case measure => omega
        case rel => exact ⟨j + 1, T5, by omega, rfl, by go_num, Lib.hid ⟨H6.out, H5.out.2⟩⟩
      · obtain rfl : j = D := by omega
        have hjN : ¬ (j : Int) < (j : Int) := by omega
        have CM := Lib.hid (cr_p k1.st r1)
        rw [show ((j + 1 : Nat) : Int) = (j : Int) + 1 by omega] at CM
        have HK := Lib.hid k1
        have HC := Lib.hid hcell
        clear k1 r1 HS hcell
        go_upto_region 13 with (go_at_call 45; (with_reducible refine CM.out.mono ?_); rintro e w5 ⟨rfl, ⟨T5, h5, q5⟩, kp⟩; have K5 := Lib.hid (HK.out.next h5 kp rfl); have CQ5 := Lib.hid (cr_q h5 q5 (A := A) (by omega)); clear h5 q5 kp)
        obtain ⟨ya, yb, yc, yd⟩ := ZB.out.2 _ K5.out.st.turn
        obtain ⟨g1, o1, cp1, he, hc5⟩ := K5.out.at (by omega)
        simp only [Value.slice.injEq, Option.some.injEq, Addr.mk.injEq, and_true, true_and] at he
        obtain ⟨⟨rfl, rfl⟩, rfl⟩ := he
        have hc5A := hc5 A (by omega)
        have hAl0 : (A : Int) < (j : Int) + 1 := by omega
        clear hc5 HC
        rw [show ((j + 1 : Nat) : Int) = (j : Int) + 1 by omega] at CQ5
        cases K with
        | false =>
          go_upto_region 16 with (go_at_call 45; (with_reducible refine CQ5.out.mono ?_); rintro e w6 ⟨rfl, ⟨T6, h6, q6⟩, kp⟩; have K6 := Lib.hid (K5.out.next h6 kp rfl); have Q6 := Lib.hid q6; clear h6 q6 kp)
          obtain ⟨ya, yb, yc, yd⟩ := ZB.out.2 _ K6.out.st.turn
          obtain ⟨g2, o2, cp2, he, hc6⟩ := K6.out.at (by omega)
          simp only [Value.slice.injEq, Option.some.injEq, Addr.mk.injEq, and_true, true_and] at he
          obtain ⟨⟨rfl, rfl⟩, rfl⟩ := he
          have hcA := hc6 A (by omega)
          have HC6 := Lib.hid hc6
          have hAl : (A : Int) < (j : Int) + 1 := by omega
          clear hc6
          have CK := Lib.hid (cr_kill (K := false) K6.out.st Q6.out zc)
          have K8 := K6
          rw [show ((j + 1 : Nat) : Int) = (j : Int) + 1 by omega] at CK
          go_upto_region 21 with (go_at_call 47; (with_reducible refine CK.out.mono ?_); rintro e w9 ⟨v9, l9, rfl, r9, ⟨T9, h9, a9, b9⟩, kp⟩; have K9 := Lib.hid (K8.out.next h9 kp rfl); have A9 := Lib.hid (And.intro a9 b9); obtain ⟨g9, o9, cp9, rfl, y9⟩ := r9.first; clear h9 kp a9 b9 r9)
          go_wp2
          go_loopg [132] (j + 1) (fun z s132 wr => ∃ i : Nat, i ≤ j + 1 ∧ z = j + 1 - i ∧ s132 = .int .i64 (i : Int) ∧ Hid (Turn NoBlock w9 wr))
          case atStart => exact ⟨0, by omega, by omega, rfl, Lib.hid (Turn.refl _ _)⟩
          case round =>
            clear hz
            obtain ⟨i, hi, hz, rfl, HT⟩ := hrel
            have ka := K9.out.past HT.out
            obtain ⟨x0, x1, x2, x3⟩ := ZB.out.2 _ ka.st.turn
            by_cases hlt2 : i < j + 1
            · have hij : (i : Int) < (j : Int) + 1 := by omega
              obtain ⟨g3, o3, cp3, he, hcr⟩ := ka.at (by omega)
              simp only [Value.slice.injEq, Option.some.injEq, Addr.mk.injEq, and_true, true_and] at he
              obtain ⟨⟨rfl, rfl⟩, rfl⟩ := he
              have hci := hcr i hlt2
              have CA := Lib.hid (fun k => quiet_same (n := k) (cr_alive K9.out.st (by omega) (show i < j + 1 + 2 by omega) ((i : Int) + 1) rfl true (by rw [A9.out.1 i (by omega)]; simp; try omega) _ (HT.out.drewN k)))
              clear ka hcr
              go_upto_region 24 with (fail)
              go_quiet (first | (go_at_call 38; with_reducible exact (CA.out _)))
              go_wp2
              go_roundg (j + 1 - (i + 1))
              case measure => omega
              case rel => exact ⟨i + 1, by omega, rfl, by go_num, Lib.hid (HT.out.drewN _)⟩
            · obtain rfl : i = j + 1 := by omega
              have hij : ¬ ((j + 1 : Nat) : Int) < (j : Int) + 1 := by omega
              have CA := Lib.hid (cr_alive K9.out.st (by omega) (show j + 1 + 1 < j + 1 + 2 by omega) ((j : Int) + 1 + 2) (by omega) true (by rw [A9.out.2]; rfl))
              have HKT := Lib.hid ka.st.turn
              have HX3 := Lib.hid x3
              clear ka x0 x1 x2
              go_upto_region 27 with (fail)
              have s0 : wr.drew.cell? ⟨BX, 3, none⟩ = some (.bool false) := x3
              go_region_held3 (fun W => W.cell? ⟨BX, 3, none⟩ = some (.bool false)) (first | exact s0 | exact s8)
                ((first
                  | (go_at_call 38; (with_reducible refine (CA.out _ (HT.out.drew)).mono ?_); rintro e w7 ⟨rfl, rfl⟩)
                  | (go_at_call 30; (with_reducible refine (CW.out _).mono ?_); rintro e w8 ⟨rfl, t8⟩; have T8 := Lib.hid (TT ((Turn.refl NoBlock wr).drew) t8); have s8 := T8.out.cell HX3.out (fun h => h); clear t8)))
              go_wp2
              go_ret
              exact ⟨rfl, TT (TT ZB.out.1 HKT.out) T8.out⟩
        | true =>
          go_upto_region 16 with (go_at_call 45; (with_reducible refine CQ5.out.mono ?_); rintro e w6 ⟨rfl, ⟨T6, h6, q6⟩, kp⟩; have K6 := Lib.hid (K5.out.next h6 kp rfl); have Q6 := Lib.hid q6; clear h6 q6 kp)
          obtain ⟨ya, yb, yc, yd⟩ := ZB.out.2 _ K6.out.st.turn
          obtain ⟨g2, o2, cp2, he, hc6⟩ := K6.out.at (by omega)
          simp only [Value.slice.injEq, Option.some.injEq, Addr.mk.injEq, and_true, true_and] at he
          obtain ⟨⟨rfl, rfl⟩, rfl⟩ := he
          have hcA := hc6 A (by omega)
          have HC6 := Lib.hid hc6
          have hAl : (A : Int) < (j : Int) + 1 := by omega
          clear hc6
          have CS := Lib.hid (cr_set K6.out.st Q6.out)
          rw [show ((j + 1 : Nat) : Int) = (j : Int) + 1 by omega] at CS
          go_upto_region 18 with (go_at_call 49; (with_reducible refine CS.out.mono ?_); rintro e w7 ⟨rfl, ⟨T7, h7, q7⟩, kp⟩; have K7 := Lib.hid (K6.out.next h7 kp rfl); have Q7 := Lib.hid q7; clear h7 q7 kp)
          clear ya yb yc yd hcA
          obtain ⟨ya, yb, yc, yd⟩ := ZB.out.2 _ K7.out.st.turn
          have CK := Lib.hid (cr_kill (K := true) K7.out.st Q7.out zc)
          have K8 := K7
          rw [show ((j + 1 : Nat) : Int) = (j : Int) + 1 by omega] at CK
          go_upto_region 21 with (go_at_call 47; (with_reducible refine CK.out.mono ?_); rintro e w9 ⟨v9, l9, rfl, r9, ⟨T9, h9, a9, b9⟩, kp⟩; have K9 := Lib.hid (K8.out.next h9 kp rfl); have A9 := Lib.hid (And.intro a9 b9); obtain ⟨g9, o9, cp9, rfl, y9⟩ := r9.first; clear h9 kp a9 b9 r9)
          go_wp2
          go_loopg [132] (j + 1) (fun z s132 wr => ∃ i : Nat, i ≤ j + 1 ∧ z = j + 1 - i ∧ s132 = .int .i64 (i : Int) ∧ Hid (Turn NoBlock w9 wr))
          case atStart => exact ⟨0, by omega, by omega, rfl, Lib.hid (Turn.refl _ _)⟩
          case round =>
            clear hz
            obtain ⟨i, hi, hz, rfl, HT⟩ := hrel
            have ka := K9.out.past HT.out
            obtain ⟨x0, x1, x2, x3⟩ := ZB.out.2 _ ka.st.turn
            by_cases hlt2 : i < j + 1
            · have hij : (i : Int) < (j : Int) + 1 := by omega
              obtain ⟨g3, o3, cp3, he, hcr⟩ := ka.at (by omega)
              simp only [Value.slice.injEq, Option.some.injEq, Addr.mk.injEq, and_true, true_and] at he
              obtain ⟨⟨rfl, rfl⟩, rfl⟩ := he
              have hci := hcr i hlt2
              by_cases hAi : A ≤ i
              · have hAb : (A : Int) ≤ (i : Int) := by omega
                have CA := Lib.hid (fun k => quiet_same (n := k) (cr_alive K9.out.st (by omega) (show i < j + 1 + 2 by omega) ((i : Int) + 1) rfl false (by rw [A9.out.1 i (by omega)]; simp; try omega) _ (HT.out.drewN k)))
                clear ka hcr
                go_upto_region 24 with (fail)
                go_quiet (first | (go_at_call 38; with_reducible exact (CA.out _)))
                go_wp2
                go_roundg (j + 1 - (i + 1))
                case measure => omega
                case rel => exact ⟨i + 1, by omega, rfl, by go_num, Lib.hid (HT.out.drewN _)⟩
              · have hAb : ¬ (A : Int) ≤ (i : Int) := by omega
                have CA := Lib.hid (fun k => quiet_same (n := k) (cr_alive K9.out.st (by omega) (show i < j + 1 + 2 by omega) ((i : Int) + 1) rfl true (by rw [A9.out.1 i (by omega)]; simp; try omega) _ (HT.out.drewN k)))
                clear ka hcr
                go_upto_region 24 with (fail)
                go_quiet (first | (go_at_call 38; with_reducible exact (CA.out _)))
                go_wp2
                go_roundg (j + 1 - (i + 1))
                case measure => omega
                case rel => exact ⟨i + 1, by omega, rfl, by go_num, Lib.hid (HT.out.drewN _)⟩
            · obtain rfl : i = j + 1 := by omega
              have hij : ¬ ((j + 1 : Nat) : Int) < (j : Int) + 1 := by omega
              have CA := Lib.hid (cr_alive K9.out.st (by omega) (show j + 1 + 1 < j + 1 + 2 by omega) ((j : Int) + 1 + 2) (by omega) false (by rw [A9.out.2]; rfl))
              have HKT := Lib.hid ka.st.turn
              have HX3 := Lib.hid x3
              clear ka x0 x1 x2
              go_upto_region 27 with (fail)
              have s0 : wr.drew.cell? ⟨BX, 3, none⟩ = some (.bool true) := x3
              go_region_held3 (fun W => W.cell? ⟨BX, 3, none⟩ = some (.bool true)) (first | exact s0 | exact s8)
                ((first
                  | (go_at_call 38; (with_reducible refine (CA.out _ (HT.out.drew)).mono ?_); rintro e w7 ⟨rfl, rfl⟩)
                  | (go_at_call 30; (with_reducible refine (CW.out _).mono ?_); rintro e w8 ⟨rfl, t8⟩; have T8 := Lib.hid (TT ((Turn.refl NoBlock wr).drew) t8); have s8 := T8.out.cell HX3.out (fun h => h); clear t8)))
              go_wp2
              go_ret
              exact ⟨rfl, TT (TT ZB.out.1 HKT.out) T8.out⟩
  · have hq : zd < 0 ∨ (¬ zd < 0 ∧ 10 < zd) ∨ (¬ zd < 0 ∧ ¬ 10 < zd ∧ za < 0) ∨ (¬ zd < 0 ∧ ¬ 10 < zd ∧ ¬ za < 0 ∧ zd < za) := by omega
    clear hk
    rcases hq with q1 | ⟨q1, q2⟩ | ⟨q1, q2, q3⟩ | ⟨q1, q2, q3, q4⟩
    · go_enter Try.func9, Try.ntmps9
      go_wp2_with (first
        | (go_at_call 29; (with_reducible refine CN.out.mono ?_); rintro e w2 ⟨c, rfl, h1⟩; obtain ⟨y0, y1, y2, y3⟩ := ZB.out.2 _ h1.turn; have H1 := Lib.hid h1.turn; clear h1)
        | (go_at_call 30; (with_reducible refine (CW.out _).mono ?_); rintro e w5 ⟨rfl, t5⟩; have T5 := Lib.hid t5; clear t5))
      go_ret
      exact ⟨rfl, TT (TT ZB.out.1 H1.out) T5.out⟩
    · go_enter Try.func9, Try.ntmps9
      go_wp2_with (first
        | (go_at_call 29; (with_reducible refine CN.out.mono ?_); rintro e w2 ⟨c, rfl, h1⟩; obtain ⟨y0, y1, y2, y3⟩ := ZB.out.2 _ h1.turn; have H1 := Lib.hid h1.turn; clear h1)
        | (go_at_call 30; (with_reducible refine (CW.out _).mono ?_); rintro e w5 ⟨rfl, t5⟩; have T5 := Lib.hid t5; clear t5))
      go_ret
      exact ⟨rfl, TT (TT ZB.out.1 H1.out) T5.out⟩
    · go_enter Try.func9, Try.ntmps9
      go_wp2_with (first
        | (go_at_call 29; (with_reducible refine CN.out.mono ?_); rintro e w2 ⟨c, rfl, h1⟩; obtain ⟨y0, y1, y2, y3⟩ := ZB.out.2 _ h1.turn; have H1 := Lib.hid h1.turn; clear h1)
        | (go_at_call 30; (with_reducible refine (CW.out _).mono ?_); rintro e w5 ⟨rfl, t5⟩; have T5 := Lib.hid t5; clear t5))
      go_ret
      exact ⟨rfl, TT (TT ZB.out.1 H1.out) T5.out⟩
    · go_enter Try.func9, Try.ntmps9
      go_wp2_with (first
        | (go_at_call 29; (with_reducible refine CN.out.mono ?_); rintro e w2 ⟨c, rfl, h1⟩; obtain ⟨y0, y1, y2, y3⟩ := ZB.out.2 _ h1.turn; have H1 := Lib.hid h1.turn; clear h1)
        | (go_at_call 30; (with_reducible refine (CW.out _).mono ?_); rintro e w5 ⟨rfl, t5⟩; have T5 := Lib.hid t5; clear t5))
      go_ret
      exact ⟨rfl, TT (TT ZB.out.1 H1.out) T5.out⟩
end Go.Proofs.Ytabakjimlndhcaa
