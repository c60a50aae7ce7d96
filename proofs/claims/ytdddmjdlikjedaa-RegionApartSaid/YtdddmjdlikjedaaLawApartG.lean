/-
  RegionApart's walk.
-/
import Derived.Test.YtdddmjdlikjedaaGTabS
import Derived.Test.YtdddmjdlikjedaaGOpsR
import Derived.BigQuiet
import Derived.Deep.RegionHeld3
namespace Go.Proofs.Ytdddmjdlikjedaa
open Go.ChangeShapes Go.WideShapes Go.ChangeAt Go.RowKit

set_option maxRecDepth 20000 in
theorem aparts_past (p : Option Addr) (len cap : Nat) (w : World) (h : 60 < len) : Calls Try.prog 8 #[.slice p len cap] w fun e w' => e = .returned (.bool true) ∧ Turn NoBlock w w' := by
  have cN := new_any 1024 100 w (by unfold isMul; omega) (by omega) (by omega)
  have cA := awake_any
  go_enter Try.func8, Try.ntmps8
  go_wp2_with (first
    | (go_at_call 30; (with_reducible refine cN.mono ?_); rintro e w1 ⟨rfl, rfl⟩)
    | (go_at_call 31; (with_reducible refine (cA _).mono ?_); rintro e w2 ⟨rfl, t2⟩))
  go_ret
  exact ⟨rfl, ((Turn.refl NoBlock w).alloc _).trans t2 (fun _ h => .inl h)⟩

set_option maxRecDepth 20000 in
set_option maxHeartbeats 4000000 in
theorem aparts_walk (p : Option Addr) (len cap : Nat) (os : Nat → Or9) (w : World) (h : len ≤ 60) (hp : OrsAt w p len os) (hok : OrsOK len os) : Calls Try.prog 8 #[.slice p len cap] w fun e w' => e = .returned (.bool true) ∧ Turn NoBlock w w' := by
  have cN := new_any 1024 100 w (by unfold isMul; omega) (by omega) (by omega)
  have cA := awake_any
  have g0 := gt_new NoBlock w w (Turn.refl _ _) 1024 100 (by omega) (fun j h => h.elim)
  obtain ⟨a, ha⟩ : ∃ a, w.heap.size = a := ⟨_, rfl⟩
  obtain ⟨W1, hW1⟩ : ∃ W1, W1 = w.alloc (.cells #[.int .i64 1024, .int .i64 100, .slice none 0 0] 114) := ⟨_, rfl⟩
  have hs1 : W1.heap.size = a + 1 := by rw [hW1, World.size_alloc, ha]
  rw [← hW1, ha] at cN g0
  have HP := Lib.hid (And.intro hp hok)
  have G0 := Lib.hid g0
  have HA := Lib.hid ha
  obtain ⟨Z, hZ0⟩ : ∃ Z, Z = (tabC (fun _ => 0)).toArray := ⟨_, rfl⟩
  have hZ : ∀ w, Sem.run Try.prog (zeroValue 59) w = .ok (.agg Z) w := fun w => by rw [hZ0]; exact tab_zero w
  have S0 : ApS w a (a + 1) (a + 1 + 1) (a + 1 + 1 + 1) (((W1.alloc (.cells Z 59)).alloc (.cells Z 59)).alloc (.cells Z 59)) := by
    subst hZ0
    have t1 : Turn NoBlock W1 (W1.alloc (.cells (tabC (fun _ => 0)).toArray 59)) := (Turn.refl _ _).alloc _
    have t2 : Turn NoBlock (W1.alloc (.cells (tabC (fun _ => 0)).toArray 59)) ((W1.alloc (.cells (tabC (fun _ => 0)).toArray 59)).alloc (.cells (tabC (fun _ => 0)).toArray 59)) := (Turn.refl _ _).alloc _
    have b4 := tab_new W1
    have b5 := tab_new (W1.alloc (.cells (tabC (fun _ => 0)).toArray 59))
    have b6 := tab_new ((W1.alloc (.cells (tabC (fun _ => 0)).toArray 59)).alloc (.cells (tabC (fun _ => 0)).toArray 59))
    rw [hs1] at b4
    rw [World.size_alloc, hs1] at b5
    rw [World.size_alloc, World.size_alloc, hs1] at b6
    obtain ⟨v0, m0, f0⟩ := g0.mem
    have t3 := ((t1.alloc (.cells (tabC (fun _ => 0)).toArray 59)).alloc (.cells (tabC (fun _ => 0)).toArray 59))
    refine ⟨⟨[], fun _ => 0, fun _ => 0, fun _ => 0, ⟨g0.ok, ⟨v0, m0.past t3, fun j hj => ⟨(f0 j hj).1, fun e => ?_⟩⟩, fun j hj => ?_, g0.turn.trans t3 (fun _ h => .inl h)⟩, (b4.past (t2.alloc _) id), b5.past ((Turn.refl NoBlock _).alloc _) id, b6, ApIs.zero⟩, by omega, by omega⟩
    · have := m0.lt hj
      omega
    · simp only [World.size_alloc]
      omega
  have HS0 := Lib.hid S0
  clear hW1 hp hok g0 ha hZ0 S0
  go_enter Try.func8, Try.ntmps8
  go_wp2_with (go_at_call 30; (with_reducible refine cN.mono ?_); rintro e w1 ⟨rfl, rfl⟩)
  go_loopg [37] len (fun g s37 wr => ∃ k : Nat, k ≤ len ∧ g = len - k ∧ s37 = .int .i64 k ∧ Hid (ApS w a (a + 1) (a + 1 + 1) (a + 1 + 1 + 1) wr))
  case atStart => exact ⟨0, by omega, by omega, rfl, HS0⟩
  case round =>
    obtain ⟨k, hk, hg, rfl, HT⟩ := hrel
    have turnW : Turn NoBlock w wr := by obtain ⟨l, V, F, P, g1, _⟩ := HT.out.st; exact g1.turn
    by_cases hlt : k < len
    · obtain ⟨b, off, rfl, hc⟩ := HP.out.1.past turnW (by omega)
      have d0 := hc k hlt 0 (by omega)
      have d1 := hc k hlt 1 (by omega)
      have d2 := hc k hlt 2 (by omega)
      have d3 := hc k hlt 3 (by omega)
      have d4 := hc k hlt 4 (by omega)
      have d5 := hc k hlt 5 (by omega)
      have d6 := hc k hlt 6 (by omega)
      have d7 := hc k hlt 7 (by omega)
      have d8 := hc k hlt 8 (by omega)
      simp [Or9.cells] at d0 d1 d2 d3 d4 d5 d6 d7 d8
      have hf := HP.out.2 k hlt
      generalize os k = q at *
      obtain ⟨kd, oat, on, opr, ⟨qa, ql, qv, qf, qr⟩⟩ := q
      simp only at d0 d1 d2 d3 d4 d5 d6 d7 d8
      have HFt := Lib.hid hf
      clear hc hf turnW
      obtain ⟨WR, hWR⟩ : ∃ WR, WR = wr := ⟨_, rfl⟩
      by_cases k1 : kd = 1
      · subst k1
        obtain ⟨l, V, F, P, g1, g2, g3, g4, g5⟩ := HT.out.st
        have ta : ∀ o1 o2 : Obj, Turn NoBlock wr ((wr.alloc o1).alloc o2) := fun o1 o2 => ((Turn.refl _ _).alloc _).alloc _
        have cQ := fun o1 o2 => (g1.since (ta o1 o2)).put (by omega) (by have := gok_len g1.ok; omega) (⟨qa, ql, qv, qf, qr⟩ : Pc) ⟨HFt.out.2.2.2.2.1, HFt.out.2.2.2.2.2.1⟩
        unfold Pc.agg at cQ
        simp only at cQ
        by_cases kp : isPut ⟨qa, ql, qv, qf, qr⟩ ∧ Pc.fin ⟨qa, ql, qv, qf, qr⟩ ≤ 1024 ∧ ∀ q ∈ l, ¬ Ov qa ql q
        · have kp1 : 0 ≤ qa ∧ qa % 64 = 0 ∧ 0 < ql ∧ ql % 64 = 0 ∧ qa + ql ≤ 1024 ∧ 0 ≤ qf ∧ qf ≤ 4294967296 := by have k1 := kp.1; have k2 := kp.2.1; unfold isPut isGrid isMul at k1; unfold Pc.fin at k2; simp only at k1 k2; omega
          obtain ⟨A, hA⟩ : ∃ A : Nat, qa = 64 * (A : Int) := ⟨(qa / 64).toNat, by omega⟩
          obtain ⟨m, hm⟩ : ∃ m : Nat, ql = 64 * (m : Int) := ⟨(ql / 64).toNat, by omega⟩
          subst hA hm
          have ht1 : Int.tdiv (64 * (A : Int)) 64 = (A : Int) := by rw [Int.tdiv_eq_ediv_of_nonneg (by omega)]; omega
          have ht2 : Int.tdiv (64 * (m : Int)) 64 = (m : Int) := by rw [Int.tdiv_eq_ediv_of_nonneg (by omega)]; omega
          have hAm : A + m ≤ 16 ∧ 0 < m := by omega
          have hqf : 0 ≤ qf ∧ qf ≤ 4294967296 := kp1.2.2.2.2.2
          clear kp1
          have cQ2 := fun o1 o2 => (cQ o1 o2).mono (R' := fun e w' => e = .returned (.int .i64 0) ∧ ∃ kk, Hid (GT (fun j => (j = a + 1 ∨ j = a + 1 + 1 ∨ j = a + 1 + 1 + 1) ∨ (wr.heap.size ≤ j ∧ j < ((wr.alloc o1).alloc o2).heap.size)) w a 1024 100 (putL l kk ⟨64 * (A : Int), 64 * (m : Int), qv, qf, qr⟩) w' ∧ Turn (fun j => ¬ ((j = a + 1 ∨ j = a + 1 + 1 ∨ j = a + 1 + 1 + 1) ∨ (wr.heap.size ≤ j ∧ j < ((wr.alloc o1).alloc o2).heap.size)) ∧ w.heap.size ≤ j) ((wr.alloc o1).alloc o2) w')) (by
            rintro e w' (⟨z, _, _, h3, _⟩ | ⟨kk, h1, _, h2, h3⟩)
            · exact absurd kp h3
            · exact ⟨h1, kk, Lib.hid ⟨h2, h3⟩⟩)
          have HKP := Lib.hid kp
          have HG := Lib.hid (And.intro g2 (And.intro g3 (And.intro g4 (And.intro g5 g1))))
          clear cQ kp g1 g2 g3 g4 g5 ta hWR
          go_wp2_with (go_at_call 32; (with_reducible refine (cQ2 _ _).mono ?_); rintro e w4 ⟨rfl, kk, H4⟩; have hbx := H4.out.2.heap (heap_alloc_new (wr.alloc _) _) (fun e => e.1 (.inr ⟨by simp only [World.size_alloc]; omega, by simp only [World.size_alloc]; omega⟩)); rw [World.size_alloc] at hbx; have hbl := lt_of_block hbx; have x0 := cell_at hbx 0; have x1 := cell_at hbx 1; have x2 := cell_at hbx 2; have x3 := cell_at hbx 3; have x4 := cell_at hbx 4; simp at x0 x1 x2 x3 x4; have HBX := Lib.hid hbx; clear hbx)
          obtain ⟨WR, rfl⟩ : ∃ WR, WR = wr := ⟨_, rfl⟩
          have HI := Lib.hid (And.intro hAm hqf)
          have hvw := wrap_ne HFt.out.2.2.2.2.2.2.1
          obtain ⟨vw, hvwe⟩ : ∃ vw, vw = IntKind.i64.wrap (qv + 1) := ⟨_, rfl⟩
          rw [← hvwe] at hvw
          have HVW := Lib.hid (And.intro hvwe hvw)
          have hA16 : A < 16 := by omega
          have hm16 : m ≤ 16 := by omega
          clear hvw hvwe hAm x0 x1 x2 x3 x4 hbl
          go_loopg [54] m (fun g s54 wr => ∃ i : Nat, i ≤ m ∧ g = m - i ∧ s54 = .int .i64 i ∧ Hid (TS w a (a + 1) (a + 1 + 1) (a + 1 + 1 + 1) (WR.heap.size + 1) 61 (putL l kk ⟨64 * (A : Int), 64 * (m : Int), qv, qf, qr⟩) (updR V A i (fun _ => vw)) (updR F A i (fun j => qf + 64 * ((j : Int) - (A : Int)))) (updR P A i (fun _ => qr)) #[.int .i64 (64 * (A : Int)), .int .i64 (64 * (m : Int)), .int .i64 qv, .int .i64 qf, .int .i64 qr] wr))
          case atStart =>
            refine ⟨0, by omega, by omega, rfl, Lib.hid (TS.congr ⟨(H4.out.1.weak (fun j hj => .inl hj)), ?_, ?_, ?_, HBX.out, ?_, by omega, ?_⟩ (fun i => (updR_zero i).symm) (fun i => (updR_zero i).symm) (fun i => (updR_zero i).symm))⟩
            · exact (HG.out.1.past (((Turn.refl NoBlock _).alloc _).alloc _) id).past H4.out.2 (fun e => e.1 (.inl (.inl rfl)))
            · exact (HG.out.2.1.past (((Turn.refl NoBlock _).alloc _).alloc _) id).past H4.out.2 (fun e => e.1 (.inl (.inr (.inl rfl))))
            · exact (HG.out.2.2.1.past (((Turn.refl NoBlock _).alloc _).alloc _) id).past H4.out.2 (fun e => e.1 (.inl (.inr (.inr rfl))))
            · have := HA.out
              omega
            · have h4 := lt_of_block HG.out.1
              have h5 := lt_of_block HG.out.2.1
              have h6 := lt_of_block HG.out.2.2.1
              omega
          case round =>
            obtain ⟨i, hi, hg2, rfl, HJ⟩ := hrel
            have x0 := cell_at HJ.out.t8 0
            have x1 := cell_at HJ.out.t8 1
            have x2 := cell_at HJ.out.t8 2
            have x3 := cell_at HJ.out.t8 3
            have x4 := cell_at HJ.out.t8 4
            simp at x0 x1 x2 x3 x4
            have hbl := lt_of_block HJ.out.t8
            by_cases hlt2 : i < m
            · --Q[
              have hAi : A + i < 16 := by have := HI.out.1; omega
              have hk4 := HJ.out.t4.cell hAi
              have hz4 : updR V A i (fun _ => vw) (A + i) = 0 := by
                rw [updR_far (by omega)]
                exact HG.out.2.2.2.1.clear HG.out.2.2.2.2.ok HKP.out.2.2 HKP.out.1 A m rfl rfl (A + i) hAi (by omega) (by omega)
              rw [hz4] at hk4
              have hk5 := HJ.out.t5.cell hAi
              have hk6 := HJ.out.t6.cell hAi
              have hf4 := HJ.out.t4.free (A + i)
              have hf5 := HJ.out.t5.free (A + i)
              have hf6 := HJ.out.t6.free (A + i)
              have hl4 := lt_of_block HJ.out.t4
              have hl5 := lt_of_block HJ.out.t5
              have hl6 := lt_of_block HJ.out.t6
              have hwA : IntKind.i64.wrap ((A : Int) + (i : Int)) = (A : Int) + (i : Int) := wrap_fit (by unfold fit; omega)
              have q4 := tab_ix (a + 1) A i hAi
              have q5 := tab_ix (a + 1 + 1) A i hAi
              have q6 := tab_ix (a + 1 + 1 + 1) A i hAi
              have J3 := Lib.hid (HJ.out.put3 hAi)
              clear hz4
              go_wp2
              have hwA0 : IntKind.i64.wrap (A : Int) = (A : Int) := wrap_fit (by unfold fit; omega)
              have hwy : IntKind.i64.wrap (64 * (i : Int)) = 64 * (i : Int) := wrap_fit (by unfold fit; omega)
              have hwz : IntKind.i64.wrap (qf + 64 * (i : Int)) = qf + 64 * (i : Int) := wrap_fit (by have := HI.out.2; unfold fit; omega)
              have hwv : IntKind.i64.wrap (qv + 1) = vw := HVW.out.1.symm
              obtain ⟨N4, N5, N6⟩ := HJ.out.n8
              go_region_held3 (fun w' => w'.cell? ⟨WR.heap.size + 1, 0, none⟩ = some (.int .i64 (64 * (A : Int))) ∧ w'.cell? ⟨WR.heap.size + 1, 2, none⟩ = some (.int .i64 qv) ∧ w'.cell? ⟨WR.heap.size + 1, 3, none⟩ = some (.int .i64 qf) ∧ w'.cell? ⟨WR.heap.size + 1, 4, none⟩ = some (.int .i64 qr)) ((refine ⟨?_, ?_, ?_, ?_⟩ <;> ((try (refine cell_keep N6 ?_)); (try (refine cell_keep N5 ?_)); (try (refine cell_keep N4 ?_)); assumption))) ((fail))
              go_wp2
              go_roundg (m - (i + 1))
              case measure => omega
              case rel => exact ⟨i + 1, by omega, by omega, by go_num, Lib.hid (J3.out.past (Turn.refl NoBlock _).drew)⟩
              --Q]
            · obtain rfl : i = m := by omega
              by_cases hv1 : qv = -1
              · subst hv1
                go_wp2_with (go_at_call 31; (with_reducible refine (cA _).mono ?_); rintro e w2 ⟨rfl, t2⟩)
                go_ret
                exact ⟨rfl, HJ.out.gt.turn.trans t2 (fun _ h => .inl h)⟩
              · have hG := Lib.hid (HJ.out.aps (by
                  have h1 := ApIs.put (k := kk) (p := (⟨64 * (A : Int), 64 * (i : Int), qv, qf, qr⟩ : Pc)) HG.out.2.2.2.1 (by show IntKind.i64.wrap (qv + 1) ≠ 0; rw [← HVW.out.1]; exact HVW.out.2 hv1) A i rfl rfl
                  simp only [← HVW.out.1] at h1
                  exact h1))
                go_wp2
                go_roundg (len - (k + 1))
                case measure => omega
                case rel => exact ⟨k + 1, by omega, by omega, by go_num, hG⟩
        · have cQ2 := fun o1 o2 => (cQ o1 o2).mono (R' := fun e w' => ∃ z : Int, z < 0 ∧ e = .returned (.int .i64 z) ∧ Turn NoBlock ((wr.alloc o1).alloc o2) w') (by
            rintro e w' (⟨z, h1, h2, _, _, h3⟩ | ⟨kk, h1, h2, _⟩)
            · exact ⟨z, h1, h2, h3⟩
            · exact absurd h2 kp)
          clear cQ kp
          go_wp2_with (go_at_call 32; (with_reducible refine (cQ2 _ _).mono ?_); rintro e w4 ⟨z, hz, rfl, t4⟩; have T4 := Lib.hid ((ta _ _).trans t4 (fun _ h => .inl h)); clear t4)
          go_roundg (len - (k + 1))
          case measure => omega
          case rel => exact ⟨k + 1, by omega, by omega, by go_num, Lib.hid (HT.out.past T4.out)⟩
      · by_cases k3 : kd = 3
        · subst k3
          --Q[
          obtain ⟨l, V, F, P, g1, g2, g3, g4, g5⟩ := HT.out.st
          have ta : ∀ o1 : Obj, Turn NoBlock wr (wr.alloc o1) := fun o1 => (Turn.refl _ _).alloc _
          have cC := fun o1 => (g1.since (ta o1)).cut (by omega) (by omega) oat on HFt.out.2.1 HFt.out.2.2.1
          by_cases kp : isGrid oat on ∧ oat + on ≤ 1024
          · have kp1 : 0 ≤ oat ∧ oat % 64 = 0 ∧ 0 < on ∧ on % 64 = 0 ∧ oat + on ≤ 1024 := by have k1 := kp.1; have k2 := kp.2; unfold isGrid isMul at k1; omega
            obtain ⟨A, hA⟩ : ∃ A : Nat, oat = 64 * (A : Int) := ⟨(oat / 64).toNat, by omega⟩
            obtain ⟨m, hm⟩ : ∃ m : Nat, on = 64 * (m : Int) := ⟨(on / 64).toNat, by omega⟩
            subst hA hm
            have ht1 : Int.tdiv (64 * (A : Int)) 64 = (A : Int) := by rw [Int.tdiv_eq_ediv_of_nonneg (by omega)]; omega
            have ht2 : Int.tdiv (64 * (m : Int)) 64 = (m : Int) := by rw [Int.tdiv_eq_ediv_of_nonneg (by omega)]; omega
            have hAm : A + m ≤ 16 ∧ 0 < m := by omega
            clear kp1
            have cC2 := fun o1 => (cC o1).mono (R' := fun e w' => ∃ (pi : Option Addr) (ni ci : Nat) (li l' : List Pc), e = .returned (.tuple #[.slice pi ni ci, .int .i64 0]) ∧ Hid (CutM l 1024 (64 * (A : Int)) (64 * (m : Int)) li l' ∧ GT (fun j => j = a + 1 ∨ j = a + 1 + 1 ∨ j = a + 1 + 1 + 1) w a 1024 100 l' w' ∧ Turn (fun j => ¬ ((j = a + 1 ∨ j = a + 1 + 1 ∨ j = a + 1 + 1 + 1) ∨ (wr.heap.size ≤ j ∧ j < (wr.alloc o1).heap.size)) ∧ w.heap.size ≤ j) (wr.alloc o1) w')) (by
              rintro e w' (⟨z, _, _, h3, _⟩ | ⟨_, vi, li, l', h1, h2, h3, h4, h5, _⟩)
              · exact absurd kp h3
              · obtain ⟨pi, ci, hv⟩ := h2.slice
                subst hv
                exact ⟨pi, _, ci, li, l', h1, Lib.hid ⟨h3, h4.weak (fun j hj => .inl (.inl hj)), h5⟩⟩)
            have HG := Lib.hid (And.intro g2 (And.intro g3 (And.intro g4 (And.intro g5 g1))))
            clear cC kp g1 g2 g3 g4 g5 ta hWR
            go_wp2_with (go_at_call 33; (with_reducible refine (cC2 _).mono ?_); rintro e w4 ⟨pi, ni, ci, li, l', rfl, H4⟩; have hbx := H4.out.2.2.heap (heap_alloc_new wr _) (fun e => e.1 (.inr ⟨by omega, by simp only [World.size_alloc]; omega⟩)); have hbl := lt_of_block hbx; have x0 := cell_at hbx 0; have x1 := cell_at hbx 1; have x2 := cell_at hbx 2; have x3 := cell_at hbx 3; simp at x0 x1 x2 x3; have HBX := Lib.hid hbx; clear hbx)
            obtain ⟨WR, rfl⟩ : ∃ WR, WR = wr := ⟨_, rfl⟩
            have HI := Lib.hid hAm
            have hA16 : A < 16 := by omega
            have hm16 : m ≤ 16 := by omega
            clear hAm x0 x1 x2 x3 hbl
            go_loopg [114] m (fun g s114 wr => ∃ i : Nat, i ≤ m ∧ g = m - i ∧ s114 = .int .i64 i ∧ Hid (TS w a (a + 1) (a + 1 + 1) (a + 1 + 1 + 1) WR.heap.size 63 l' (updR V A i (fun _ => 0)) F P #[.int .i64 3, .int .i64 (64 * (A : Int)), .int .i64 (64 * (m : Int)), .int .i64 opr, .int .i64 qa, .int .i64 ql, .int .i64 qv, .int .i64 qf, .int .i64 qr] wr))
            case atStart =>
              refine ⟨0, by omega, by omega, rfl, Lib.hid (TS.congr ⟨H4.out.2.1, ?_, ?_, ?_, HBX.out, ?_, by omega, ?_⟩ (fun i => (updR_zero i).symm) (fun i => rfl) (fun i => rfl))⟩
              · exact (HG.out.1.past ((Turn.refl NoBlock _).alloc _) id).past H4.out.2.2 (fun e => e.1 (.inl (.inl rfl)))
              · exact (HG.out.2.1.past ((Turn.refl NoBlock _).alloc _) id).past H4.out.2.2 (fun e => e.1 (.inl (.inr (.inl rfl))))
              · exact (HG.out.2.2.1.past ((Turn.refl NoBlock _).alloc _) id).past H4.out.2.2 (fun e => e.1 (.inl (.inr (.inr rfl))))
              · have := HA.out
                omega
              · have h4 := lt_of_block HG.out.1
                have h5 := lt_of_block HG.out.2.1
                have h6 := lt_of_block HG.out.2.2.1
                omega
            case round =>
              obtain ⟨i, hi, hg2, rfl, HJ⟩ := hrel
              have x1 := cell_at HJ.out.t8 1
              have x2 := cell_at HJ.out.t8 2
              simp at x1 x2
              have hbl := lt_of_block HJ.out.t8
              by_cases hlt2 : i < m
              · have hAi : A + i < 16 := by have := HI.out.1; omega
                have hk4 := HJ.out.t4.cell hAi
                have hf4 := HJ.out.t4.free (A + i)
                have hl4 := lt_of_block HJ.out.t4
                have hwA : IntKind.i64.wrap ((A : Int) + (i : Int)) = (A : Int) + (i : Int) := wrap_fit (by unfold fit; omega)
                have q4 := tab_ix (a + 1) A i hAi
                have J3 := Lib.hid (HJ.out.set4 hAi)
                go_wp2
                go_roundg (m - (i + 1))
                case measure => omega
                case rel => exact ⟨i + 1, by omega, by omega, by go_num, J3⟩
              · obtain rfl : i = m := by omega
                have hG := Lib.hid (HJ.out.aps (ApIs.cut HG.out.2.2.2.1 A i rfl rfl H4.out.1.vw))
                go_wp2
                go_roundg (len - (k + 1))
                case measure => omega
                case rel => exact ⟨k + 1, by omega, by omega, by go_num, hG⟩
          · have cC2 := fun o1 => (cC o1).mono (R' := fun e w' => ∃ z : Int, z < 0 ∧ e = .returned (.tuple #[.slice none 0 0, .int .i64 z]) ∧ Turn NoBlock (wr.alloc o1) w') (by
              rintro e w' (⟨z, h1, h2, _, h3⟩ | ⟨h3, _⟩)
              · exact ⟨z, h1, h2, h3⟩
              · exact absurd h3 kp)
            clear cC kp
            go_wp2_with (go_at_call 33; (with_reducible refine (cC2 _).mono ?_); rintro e w4 ⟨z, hz, rfl, t4⟩; have T4 := Lib.hid ((ta _).trans t4 (fun _ h => .inl h)); clear t4)
            go_roundg (len - (k + 1))
            case measure => omega
            case rel => exact ⟨k + 1, by omega, by omega, by go_num, Lib.hid (HT.out.past T4.out)⟩
          --Q]
        · by_cases k4 : kd = 4
          · subst k4
            --Q[
            obtain ⟨l, V, F, P, g1, g2, g3, g4, g5⟩ := HT.out.st
            have ta : ∀ o1 : Obj, Turn NoBlock wr (wr.alloc o1) := fun o1 => (Turn.refl _ _).alloc _
            have cC := fun o1 => (g1.since (ta o1)).protect (by omega) (by omega) oat on opr HFt.out.2.1 HFt.out.2.2.1
            have cC2 := fun o1 => (cC o1).mono (R' := fun e w' => ∃ z : Int, e = .returned (.int .i64 z) ∧ ((z < 0 ∧ Hid (Turn NoBlock (wr.alloc o1) w')) ∨ (z = 0 ∧ ∃ (l' : List Pc) (A m : Nat), oat = 64 * (A : Int) ∧ on = 64 * (m : Int) ∧ (A + m ≤ 16 ∧ A < 16 ∧ m ≤ 16) ∧ Hid (ProtV l (64 * (A : Int)) (64 * (m : Int)) opr l' ∧ GT (fun j => j = a + 1 ∨ j = a + 1 + 1 ∨ j = a + 1 + 1 + 1) w a 1024 100 l' w' ∧ Turn (fun j => ¬ ((j = a + 1 ∨ j = a + 1 + 1 ∨ j = a + 1 + 1 + 1) ∨ (wr.heap.size ≤ j ∧ j < (wr.alloc o1).heap.size)) ∧ w.heap.size ≤ j) (wr.alloc o1) w')))) (by
              rintro e w' (⟨z, h1, h2, h3⟩ | ⟨h1, l', h2, h3, h4, h5⟩)
              · exact ⟨z, h2, .inl ⟨h1, Lib.hid h3⟩⟩
              · have kp1 : 0 ≤ oat ∧ oat % 64 = 0 ∧ 0 < on ∧ on % 64 = 0 ∧ oat + on ≤ 1024 := by have k1 := h1.1; have k2 := h1.2; unfold isGrid isMul at k1; omega
                have e1 : oat = 64 * (((oat / 64).toNat : Nat) : Int) := by omega
                have e2 : on = 64 * (((on / 64).toNat : Nat) : Int) := by omega
                rw [e1, e2] at h3
                exact ⟨0, h2, .inr ⟨rfl, l', (oat / 64).toNat, (on / 64).toNat, e1, e2, by omega, Lib.hid ⟨h3, h4.weak (fun j hj => .inl hj), h5⟩⟩⟩)
            have HG := Lib.hid (And.intro g2 (And.intro g3 (And.intro g4 (And.intro g5 g1))))
            clear cC g1 g2 g3 g4 g5 hWR
            go_wp2_with (go_at_call 34; (with_reducible refine (cC2 _).mono ?_); clear cC2; rintro e w4 ⟨z, rfl, ⟨hz, H4⟩ | ⟨rfl, l', A, m, rfl, rfl, hAm, H4⟩⟩; all_goals (first | (have ht1 : Int.tdiv (64 * (A : Int)) 64 = (A : Int) := (by rw [Int.tdiv_eq_ediv_of_nonneg (by omega)]; omega); have ht2 : Int.tdiv (64 * (m : Int)) 64 = (m : Int) := (by rw [Int.tdiv_eq_ediv_of_nonneg (by omega)]; omega); have hbx := H4.out.2.2.heap (heap_alloc_new wr _) (fun e => e.1 (.inr ⟨by omega, by simp only [World.size_alloc]; omega⟩)); have hbl := lt_of_block hbx; have x0 := cell_at hbx 0; have x1 := cell_at hbx 1; have x2 := cell_at hbx 2; have x3 := cell_at hbx 3; simp at x0 x1 x2 x3; have HBX := Lib.hid hbx; clear hbx) | skip))
            · go_roundg (len - (k + 1))
              case measure => omega
              case rel => exact ⟨k + 1, by omega, by omega, by go_num, Lib.hid (HT.out.past ((ta _).trans H4.out (fun _ h => .inl h)))⟩
            · clear ta
              obtain ⟨WR, rfl⟩ : ∃ WR, WR = wr := ⟨_, rfl⟩
              obtain ⟨hAm1, hA16, hm16⟩ := hAm
              have HI := Lib.hid hAm1
              clear hAm1 x0 x1 x2 x3 hbl
              go_loopg [138] m (fun g s138 wr => ∃ i : Nat, i ≤ m ∧ g = m - i ∧ s138 = .int .i64 i ∧ Hid (TS w a (a + 1) (a + 1 + 1) (a + 1 + 1 + 1) WR.heap.size 63 l' V F (updR P A i (fun _ => opr)) #[.int .i64 4, .int .i64 (64 * (A : Int)), .int .i64 (64 * (m : Int)), .int .i64 opr, .int .i64 qa, .int .i64 ql, .int .i64 qv, .int .i64 qf, .int .i64 qr] wr))
              case atStart =>
                refine ⟨0, by omega, by omega, rfl, Lib.hid (TS.congr ⟨H4.out.2.1, ?_, ?_, ?_, HBX.out, ?_, by omega, ?_⟩ (fun i => rfl) (fun i => rfl) (fun i => (updR_zero i).symm))⟩
                · exact (HG.out.1.past ((Turn.refl NoBlock _).alloc _) id).past H4.out.2.2 (fun e => e.1 (.inl (.inl rfl)))
                · exact (HG.out.2.1.past ((Turn.refl NoBlock _).alloc _) id).past H4.out.2.2 (fun e => e.1 (.inl (.inr (.inl rfl))))
                · exact (HG.out.2.2.1.past ((Turn.refl NoBlock _).alloc _) id).past H4.out.2.2 (fun e => e.1 (.inl (.inr (.inr rfl))))
                · have := HA.out
                  omega
                · have h4 := lt_of_block HG.out.1
                  have h5 := lt_of_block HG.out.2.1
                  have h6 := lt_of_block HG.out.2.2.1
                  omega
              case round =>
                obtain ⟨i, hi, hg2, rfl, HJ⟩ := hrel
                have x1 := cell_at HJ.out.t8 1
                have x2 := cell_at HJ.out.t8 2
                have x3 := cell_at HJ.out.t8 3
                simp at x1 x2 x3
                have hbl := lt_of_block HJ.out.t8
                by_cases hlt2 : i < m
                · have hAi : A + i < 16 := by have := HI.out; omega
                  have hk4 := HJ.out.t6.cell hAi
                  have hf4 := HJ.out.t6.free (A + i)
                  have hl4 := lt_of_block HJ.out.t6
                  have hwA : IntKind.i64.wrap ((A : Int) + (i : Int)) = (A : Int) + (i : Int) := wrap_fit (by unfold fit; omega)
                  have q4 := tab_ix (a + 1 + 1 + 1) A i hAi
                  have J3 := Lib.hid (HJ.out.set6 hAi)
                  go_wp2
                  go_roundg (m - (i + 1))
                  case measure => omega
                  case rel => exact ⟨i + 1, by omega, by omega, by go_num, J3⟩
                · obtain rfl : i = m := by omega
                  have hG := Lib.hid (HJ.out.aps (ApIs.prot HG.out.2.2.2.1 A i rfl rfl H4.out.1))
                  go_wp2
                  go_roundg (len - (k + 1))
                  case measure => omega
                  case rel => exact ⟨k + 1, by omega, by omega, by go_num, hG⟩
            --Q]
          · go_wp2
            go_roundg (len - (k + 1))
            case measure => omega
            case rel => exact ⟨k + 1, by omega, by omega, by go_num, Lib.hid (HT.out.past ((Turn.refl NoBlock _).alloc _))⟩
    · obtain rfl : k = len := by omega
      obtain ⟨l, V, F, P, g1, g2, g3, g4, g5⟩ := HT.out.st
      have cL := g1.list (by omega)
      have HG := Lib.hid (And.intro g2 (And.intro g3 (And.intro g4 (And.intro g5 g1))))
      obtain ⟨N, hN⟩ : ∃ N, N = l.length := ⟨_, rfl⟩
      have hN16 : N ≤ 16 := by have := gok_len g1.ok; omega
      have HN := Lib.hid hN
      clear g1 g2 g3 g4 g5 hN turnW
      go_wp2_with (go_at_call 35; (with_reducible refine cL.mono ?_); intro e w4 hh; obtain ⟨pl, cl, rfl, HL⟩ : ∃ (pl : Option Addr) (cl : Nat), e = .returned (.slice pl N cl) ∧ Hid (PRow (.slice pl N cl) l w4 ∧ Turn NoBlock wr w4) := (by obtain ⟨v', h1, h2, h3, h4⟩ := hh; obtain ⟨pl, cl, hv⟩ := h2.slice; subst hv; exact ⟨pl, cl, by rw [h1, HN.out], Lib.hid ⟨by rw [HN.out]; exact h2, h4⟩⟩); clear hh)
      obtain ⟨WR, rfl⟩ : ∃ WR, WR = wr := ⟨_, rfl⟩
      go_loopg [155] N (fun g s155 wr => ∃ j : Nat, j ≤ N ∧ g = N - j ∧ s155 = .int .i64 j ∧ Hid (Turn NoBlock w4 wr))
      case atStart => exact ⟨0, by omega, by omega, rfl, Lib.hid (Turn.refl _ _)⟩
      case round =>
        obtain ⟨j, hj, hg3, rfl, TR⟩ := hrel
        by_cases hlt3 : j < N
        · obtain ⟨q, hq⟩ := gget_some (show j < l.length by rw [← HN.out]; exact hlt3)
          have hr1 := HL.out.1.past TR.out
          obtain ⟨g, c', he, -, -⟩ := hr1.shape (by rw [← HN.out]; omega)
          simp only [Value.slice.injEq] at he
          obtain ⟨rfl, -, rfl⟩ := he
          obtain ⟨c0, c1, c2, c3, c4⟩ := hr1.five hq
          have hq2 := (HG.out.2.2.2.2.ok.each q (List.mem_of_getElem? hq)).1
          have hw2 : IntKind.i64.wrap (q.at' + q.len) = q.at' + q.len := wrap_fit (by unfold fit Pc.fin at *; omega)
          have hd1 : decide (q.at' < 0) = false := decide_eq_false (by omega)
          have hd2 : decide (q.len < 64) = false := decide_eq_false (by omega)
          have hd3 : decide (1024 < q.at' + q.len) = false := decide_eq_false (by unfold Pc.fin at *; omega)
          clear hq2
          rcases Nat.eq_zero_or_pos j with h0 | h0
          · have hd5 : decide (0 < (j : Int)) = false := decide_eq_false (by omega)
            have hd6 : decide (0 < j) = false := decide_eq_false (by omega)
            clear hr1 hq h0
            go_wp2
            go_quiet (fail)
            go_wp2
            go_roundg (N - (j + 1))
            case measure => omega
            case rel => exact ⟨j + 1, by omega, by omega, by go_num, Lib.hid ((TR.out.alloc _).drewN _)⟩
          · obtain ⟨m, hm⟩ : ∃ m, j = m + 1 := ⟨j - 1, by omega⟩
            obtain ⟨q', hq'⟩ := gget_some (show m < l.length by rw [← HN.out]; omega)
            have hd5 : decide (0 < (j : Int)) = true := decide_eq_true (by omega)
            have hd6 : decide (0 < j) = true := decide_eq_true (by omega)
            have hrs := rise_at HG.out.2.2.2.2.ok.rise (show m < j by omega) hq' hq
            have hq3 := (HG.out.2.2.2.2.ok.each q' (List.mem_of_getElem? hq')).1
            obtain ⟨c5, c6, -⟩ := hr1.five hq'
            have hw6 : IntKind.i64.wrap (q'.at' + q'.len) = q'.at' + q'.len := wrap_fit (by unfold fit Pc.fin at *; omega)
            have hd4 : decide (q.at' < q'.at' + q'.len) = false := decide_eq_false (by unfold Pc.fin at *; omega)
            have hw5 : IntKind.i64.wrap ((j : Int) - 1) = (m : Int) := by rw [wrap_fit (by unfold fit; omega)]; omega
            have hlt5 : m < N := by omega
            have hglt : g < wr.heap.size := World.block_lt_of_cell? wr _ c5
            clear hm
            clear hr1 hq hq' hrs hq3 h0
            go_wp2
            go_quiet (fail)
            go_wp2
            go_roundg (N - (j + 1))
            case measure => omega
            case rel => exact ⟨j + 1, by omega, by omega, by go_num, Lib.hid ((TR.out.alloc _).drewN _)⟩
        · obtain rfl : j = N := by omega
          have HT5 := Lib.hid (HL.out.2.trans TR.out (fun _ h => .inl h))
          go_wp2
          go_loopg [18, 199] 16 (fun g s18 s199 wr => ∃ (i : Nat) (c : Int), i ≤ 16 ∧ g = 16 - i ∧ s18 = .int .i64 c ∧ s199 = .int .i64 i ∧ (0 ≤ c ∧ c ≤ 64 * (i : Int)) ∧ Hid (c = cnt (fun i => decide (V i ≠ 0)) i ∧ Turn NoBlock WR wr))
          case atStart => exact ⟨0, 0, by omega, by omega, rfl, rfl, by omega, Lib.hid ⟨rfl, HT5.out⟩⟩
          case round =>
            obtain ⟨i, c, hi, hg4, rfl, rfl, hc, HC⟩ := hrel
            by_cases hlt6 : i < 16
            · have hc1 := cnt_bd (fun i => decide (V i ≠ 0)) (i + 1)
              have hst : cnt (fun i => decide (V i ≠ 0)) (i + 1) = c + (if decide (V i ≠ 0) then 64 else 0) := by rw [HC.out.1]; rfl
              have cF := ((HG.out.2.2.2.2.past HC.out.2).find (by omega) (64 * (i : Int) + 63) (by unfold fit; omega) (by omega)).mono (R' := fun e w' => _) (fun e w' hh => And.intro (ap_find HG.out.2.2.2.2.ok HG.out.2.2.2.1 hlt6 hh.1) hh.2)
              have hwx : IntKind.i64.wrap (64 * (i : Int)) = 64 * (i : Int) := wrap_fit (by unfold fit; omega)
              have hwy : IntKind.i64.wrap (64 * (i : Int) + 63) = 64 * (i : Int) + 63 := wrap_fit (by unfold fit; omega)
              have hw6 : IntKind.i64.wrap (c + 64) = c + 64 := wrap_fit (by unfold fit; omega)
              have HTb := Lib.hid (fun w5 (t5 : Turn NoBlock wr w5) => And.intro (HG.out.1.past (HC.out.2.trans t5 (fun _ h => .inl h)) id) (And.intro (HG.out.2.1.past (HC.out.2.trans t5 (fun _ h => .inl h)) id) (HG.out.2.2.1.past (HC.out.2.trans t5 (fun _ h => .inl h)) id)))
              have q4 := tab_ix1 (a + 1) i hlt6
              have q5 := tab_ix1 (a + 1 + 1) i hlt6
              have q6 := tab_ix1 (a + 1 + 1 + 1) i hlt6
              generalize hvi : V i = vi at *
              generalize hfi : F i = fi at *
              generalize hpi : P i = pi at *
              by_cases hv : vi = 0
              · subst hv
                simp only [ne_eq, not_true_eq_false, decide_false] at cF hst
                have HST := Lib.hid hst
                have HVI := Lib.hid (And.intro hvi (And.intro hfi hpi))
                clear hc1 hst hvi hfi hpi
                go_wp2_with (go_at_call 36; (with_reducible refine cF.mono ?_); rintro e w5 ⟨⟨r, rfl, -⟩, t5⟩; have hb4 := (HTb.out _ t5).1; have k4 := hb4.cell hlt6; rw [HVI.out.1] at k4; have l4 := lt_of_block hb4; have T5 := Lib.hid t5; clear hb4 t5)
                clear hwy hw6 q5 q6
                go_quiet (fail)
                go_wp2
                go_roundg (16 - (i + 1))
                case measure => omega
                case rel => exact ⟨i + 1, c, by omega, by omega, rfl, by go_num, by omega, Lib.hid ⟨by rw [HST.out]; simp, (HC.out.2.trans (T5.out.alloc _) (fun _ h => .inl h)).drewN _⟩⟩
              · have hdv : decide (vi ≠ 0) = true := decide_eq_true hv
                rw [hdv] at cF hst
                simp only [if_true] at hst
                have HST := Lib.hid hst
                have HVI := Lib.hid (And.intro hvi (And.intro hfi hpi))
                have HV := Lib.hid hv
                have hbv : (vi != 0) = true := bne_iff_ne.2 hv
                clear hc1 hst hvi hfi hpi
                go_wp2_with (go_at_call 36; (with_reducible refine cF.mono ?_); rintro e w5 ⟨⟨r, rfl, hr⟩, t5⟩; obtain ⟨hr1, hr2, hr3, hr4⟩ := hr HV.out; have hw7 : IntKind.i64.wrap (r.from' + 64 * (i : Int)) = r.from' + 64 * (i : Int) := (wrap_fit (by unfold PcOK Pc.fin at hr4; unfold fit; omega)); have hw8 : IntKind.i64.wrap (r.from' + 64 * (i : Int) - r.at') = fi := (by rw [hr2]; rw [wrap_fit (by unfold PcOK Pc.fin at hr4; unfold fit; omega)]; omega); subst hr3; clear hr2 hr4 hr; obtain ⟨hb4, hb5, hb6⟩ := HTb.out _ t5; have k4 := hb4.cell hlt6; rw [HVI.out.1] at k4; have l4 := lt_of_block hb4; have k5 := hb5.cell hlt6; rw [HVI.out.2.1] at k5; have l5 := lt_of_block hb5; have k6 := hb6.cell hlt6; rw [HVI.out.2.2] at k6; have l6 := lt_of_block hb6; have T5 := Lib.hid t5; clear hb4 hb5 hb6 t5)
                go_quiet (fail)
                go_wp2
                go_roundg (16 - (i + 1))
                case measure => omega
                case rel => exact ⟨i + 1, c + 64, by omega, by omega, by go_num, by go_num, by omega, Lib.hid ⟨by rw [HST.out], (HC.out.2.trans (T5.out.alloc _) (fun _ h => .inl h)).drewN _⟩⟩
            · obtain rfl : i = 16 := by omega
              have hsum := HG.out.2.2.2.1.sum HG.out.2.2.2.2.ok (by omega)
              rw [← HC.out.1] at hsum
              have cM2 := (HG.out.2.2.2.2.past HC.out.2).mapped (by omega)
              rw [hsum] at cM2
              clear hsum
              go_wp2_with (first
                | (go_at_call 37; (with_reducible refine cM2.mono ?_); rintro e w11 ⟨rfl, t11⟩; have T11 := Lib.hid t11; clear t11)
                | (go_at_call 31; (with_reducible refine (cA _).mono ?_); rintro e w2 ⟨rfl, t2⟩))
              go_ret
              exact ⟨rfl, ((HG.out.2.2.2.2.turn.trans HC.out.2 (fun _ h => .inl h)).trans T11.out (fun _ h => .inl h)).trans t2 (fun _ h => .inl h)⟩
end Go.Proofs.Ytdddmjdlikjedaa
