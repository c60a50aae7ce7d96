/-
  RegionPlaces' walk.
-/
import Derived.Test.YtdddmjdlikjedaaGRun
namespace Go.Proofs.Ytdddmjdlikjedaa
open Go.ChangeShapes Go.WideShapes Go.ChangeAt Go.RowKit

def PcsAt (W : World) (p : Option Addr) (len : Nat) (ps : Nat → Pc) : Prop := 0 < len → ∃ b off, p = some ⟨b, off, none⟩ ∧ ∀ j, j < len → ∀ i, i < 5 → W.cell? ⟨b, off + j * 5 + i, none⟩ = (ps j).cells[i]?
def PcsOK (len : Nat) (ps : Nat → Pc) : Prop := ∀ j, j < len → fit (ps j).at' ∧ fit (ps j).len ∧ fit (ps j).vmo ∧ fit (ps j).from' ∧ fit (ps j).prot
theorem cell_past {W w : World} (t : Turn NoBlock W w) {p : Addr} {u : Value} (h : W.cell? p = some u) : w.cell? p = some u := by
  have hb := World.block_lt_of_cell? W p h
  have e := t.block p.block hb (fun h => h)
  unfold World.cell? at *
  rw [e]
  exact h
theorem PcsAt.past {W w : World} {p : Option Addr} {len : Nat} {ps : Nat → Pc} (h : PcsAt W p len ps) (t : Turn NoBlock W w) : PcsAt w p len ps := fun h0 => by
  obtain ⟨b, off, hp, hc⟩ := h h0
  refine ⟨b, off, hp, fun j hj i hi => ?_⟩
  have h1 := hc j hj i hi
  obtain ⟨u, hu⟩ : ∃ u, (ps j).cells[i]? = some u := ⟨_, List.getElem?_eq_getElem (by rw [Pc.cells_len]; exact hi)⟩
  rw [hu] at h1 ⊢
  exact cell_past t h1

set_option maxRecDepth 20000 in
theorem places_past (p : Option Addr) (len cap : Nat) (n : Int) (w : World) (h : 30 < len) : Calls Try.prog 9 #[.slice p len cap, .int .i64 n] w fun e w' => e = .returned (.bool true) ∧ Turn NoBlock w w' := by
  have cN := new_any 2048 100 w (by unfold isMul; omega) (by omega) (by omega)
  have cA := awake_any
  go_enter Try.func9, Try.ntmps9
  go_wp2_with (first
    | (go_at_call 30; (with_reducible refine cN.mono ?_); rintro e w1 ⟨rfl, rfl⟩)
    | (go_at_call 31; (with_reducible refine (cA _).mono ?_); rintro e w2 ⟨rfl, t2⟩))
  go_ret
  exact ⟨rfl, ((Turn.refl NoBlock w).alloc _).trans t2 (fun _ h => .inl h)⟩

set_option maxRecDepth 20000 in
set_option maxHeartbeats 4000000 in
theorem places_walk (p : Option Addr) (len cap : Nat) (n : Int) (ps : Nat → Pc) (w : World) (fn : fit n) (h : len ≤ 30) (hp : PcsAt w p len ps) (hok : PcsOK len ps) : Calls Try.prog 9 #[.slice p len cap, .int .i64 n] w fun e w' => e = .returned (.bool true) ∧ Turn NoBlock w w' := by
  have cN := new_any 2048 100 w (by unfold isMul; omega) (by omega) (by omega)
  have cA := awake_any
  have g0 := gs_new w w (Turn.refl _ _) 2048 100 (by omega)
  obtain ⟨a, ha⟩ : ∃ a, w.heap.size = a := ⟨_, rfl⟩
  obtain ⟨W1, hW1⟩ : ∃ W1, W1 = w.alloc (.cells #[.int .i64 2048, .int .i64 100, .slice none 0 0] 114) := ⟨_, rfl⟩
  rw [← hW1, ha] at cN g0
  have HP := Lib.hid (And.intro hp hok)
  have G0 := Lib.hid g0
  clear hW1 hp hok g0 ha
  go_enter Try.func9, Try.ntmps9
  go_wp2_with (go_at_call 30; (with_reducible refine cN.mono ?_); rintro e w1 ⟨rfl, rfl⟩)
  go_loopg [30] len (fun g s30 wr => ∃ (k : Nat) (l : List Pc), k ≤ len ∧ g = len - k ∧ s30 = .int .i64 k ∧ Hid (GS w a 2048 100 l wr))
  case atStart => exact ⟨0, [], by omega, by omega, rfl, Lib.hid G0.out⟩
  case round =>
    obtain ⟨k, l, hk, hg, rfl, HT⟩ := hrel
    by_cases hlt : k < len
    · obtain ⟨b, off, rfl, hc⟩ := HP.out.1.past HT.out.turn (by omega)
      have d0 := hc k hlt 0 (by omega)
      have d1 := hc k hlt 1 (by omega)
      have d2 := hc k hlt 2 (by omega)
      have d3 := hc k hlt 3 (by omega)
      have d4 := hc k hlt 4 (by omega)
      simp [Pc.cells] at d0 d1 d2 d3 d4
      have hf := HP.out.2 k hlt
      have cP := fun w' (h : GS w a 2048 100 l w') => GS.put h (by omega) (by omega) (ps k) ⟨hf.1, hf.2.1⟩
      generalize ps k = q at *
      unfold Pc.agg at cP
      obtain ⟨qa, ql, qv, qf, qr⟩ := q
      simp only at d0 d1 d2 d3 d4 cP
      clear hc
      go_wp2_with (go_at_call 32; (with_reducible refine (cP _ (HT.out.past ((Turn.refl NoBlock _).alloc _))).mono ?_); intro e w4 hh; obtain ⟨z, l4, rfl, g4⟩ : ∃ (z : Int) (l4 : List Pc), e = .returned (.int .i64 z) ∧ GS w a 2048 100 l4 w4 := (by rcases hh with ⟨z, _, h1, _, h2⟩ | ⟨kk, h1, _, h2⟩; exact ⟨_, _, h1, h2⟩; exact ⟨_, _, h1, h2⟩); have G4 := Lib.hid g4; clear hh g4)
      go_roundg (len - (k + 1))
      case measure => omega
      case rel => exact ⟨k + 1, l4, by omega, by omega, by go_num, G4⟩
    · obtain rfl : k = len := by omega
      have gT := HT.out
      by_cases hgr : isGrid 0 n
      · have hgn : 1 ≤ n ∧ n % 64 = 0 := by unfold isGrid isMul at hgr; omega
        obtain ⟨m, hm⟩ : ∃ m : Nat, n = 64 * (m : Int) := ⟨(n / 64).toNat, by omega⟩
        have hm0 : 0 < m := by omega
        have ht : Int.tmod n 64 = n % 64 := Int.tmod_eq_emod_of_nonneg (by omega)
        have hb0 : (n % 64 == 0) = true := by simp [hgn.2]
        have cL := gT.place (by omega) n fn hgr
        have hn1 : 1 ≤ n := hgn.1
        have hn64 : n % 64 = 0 := hgn.2
        have HM := Lib.hid (And.intro hm (And.intro hm0 hgn))
        have okT := gT.ok
        have HOK := Lib.hid okT
        clear hm hm0 hgn hgr gT okT
        go_wp2_with (go_at_call 38; (with_reducible refine cL.mono ?_); intro e w4 hh; obtain ⟨A, S, he⟩ : ∃ A S : Int, e = .returned (.tuple #[.int .i64 A, .int .i64 S]) := (by rcases place_win HOK.out (by omega) hh.1 with ⟨at', h1, _⟩ | ⟨h1, _⟩; exact ⟨_, _, h1⟩; exact ⟨_, _, h1⟩); subst he; have H4 := Lib.hid hh; clear hh)
        go_loopg [10, 11, 56] 32 (fun g s10 s11 s56 wr => ∃ (k r : Nat) (L : Int), k ≤ 32 ∧ g = 32 - k ∧ s10 = .int .i64 L ∧ s11 = .int .i64 r ∧ s56 = .int .i64 k ∧ Hid (GS w a 2048 100 l wr ∧ RunIs l m k r L))
        case atStart => exact ⟨0, 0, -1, by omega, by omega, rfl, rfl, rfl, Lib.hid ⟨H4.out.2, RunIs.zero HM.out.2.1⟩⟩
        case round =>
          obtain ⟨k2, r, L, hk2, hg2, rfl, rfl, rfl, HR⟩ := hrel
          have hrk := HR.out.2.le
          have hr32 : (r : Int) ≤ 32 := by omega
          have hmn := HM.out.1
          by_cases hlt2 : k2 < 32
          · have cF := HR.out.1.find (by omega) (64 * (k2 : Int)) (by unfold fit; omega) (by omega)
            unfold Pc.agg at cF
            have hL : (L = -1 ∧ r < m) ∨ (0 ≤ L ∧ L ≤ 2048) := by
              rcases HR.out.2.win with ⟨h1, h2, _⟩ | ⟨s, h1, h2, _⟩
              · exact .inl ⟨h1, h2⟩
              · exact .inr (by omega)
            have fin1 : ∀ q, HasP l (64 * (k2 : Int)) q → ¬ FC l k2 := fun q hq hf => hf q hq
            have HF := Lib.hid fin1
            clear fin1 hmn
            rcases (by omega : 64 * ((r : Int) + 1) < n ∨ 64 * ((r : Int) + 1) = n ∨ n < 64 * ((r : Int) + 1)) with e1 | e1 | e1
            · rcases hL with ⟨rfl, hrm⟩ | hL0
              · go_wp2_with (go_at_call 36; (with_reducible refine cF.mono ?_); rintro e w5 ⟨⟨q, rfl, hq⟩ | ⟨rfl, hq⟩, g5⟩ <;> (have HQ := Lib.hid (And.intro hq g5); clear hq g5))
                · go_roundg (32 - (k2 + 1))
                  case measure => omega
                  case rel => exact ⟨k2 + 1, 0, _, by omega, by omega, rfl, rfl, by go_num, Lib.hid ⟨HQ.out.2.past ((Turn.refl NoBlock _).alloc _), HR.out.2.hit HM.out.2.1 (HF.out _ HQ.out.1)⟩⟩
                · go_roundg (32 - (k2 + 1))
                  case measure => omega
                  case rel => exact ⟨k2 + 1, r + 1, -1, by omega, by omega, by go_num, by go_num, by go_num, Lib.hid ⟨HQ.out.2.past ((Turn.refl NoBlock _).alloc _), HR.out.2.free HQ.out.1 (.inr (by have := HM.out.1; omega))⟩⟩
              · go_wp2_with (go_at_call 36; (with_reducible refine cF.mono ?_); rintro e w5 ⟨⟨q, rfl, hq⟩ | ⟨rfl, hq⟩, g5⟩ <;> (have HQ := Lib.hid (And.intro hq g5); clear hq g5))
                · go_roundg (32 - (k2 + 1))
                  case measure => omega
                  case rel => exact ⟨k2 + 1, 0, _, by omega, by omega, rfl, rfl, by go_num, Lib.hid ⟨HQ.out.2.past ((Turn.refl NoBlock _).alloc _), HR.out.2.hit HM.out.2.1 (HF.out _ HQ.out.1)⟩⟩
                · go_roundg (32 - (k2 + 1))
                  case measure => omega
                  case rel => exact ⟨k2 + 1, r + 1, L, by omega, by omega, by go_num, by go_num, by go_num, Lib.hid ⟨HQ.out.2.past ((Turn.refl NoBlock _).alloc _), HR.out.2.free HQ.out.1 (.inl hL0.1)⟩⟩
            · rcases hL with ⟨rfl, hrm⟩ | hL0
              · go_wp2_with (go_at_call 36; (with_reducible refine cF.mono ?_); rintro e w5 ⟨⟨q, rfl, hq⟩ | ⟨rfl, hq⟩, g5⟩ <;> (have HQ := Lib.hid (And.intro hq g5); clear hq g5))
                · go_roundg (32 - (k2 + 1))
                  case measure => omega
                  case rel => exact ⟨k2 + 1, 0, _, by omega, by omega, rfl, rfl, by go_num, Lib.hid ⟨HQ.out.2.past ((Turn.refl NoBlock _).alloc _), HR.out.2.hit HM.out.2.1 (HF.out _ HQ.out.1)⟩⟩
                · go_roundg (32 - (k2 + 1))
                  case measure => omega
                  case rel => exact ⟨k2 + 1, r + 1, 64 * ((k2 : Int) + 1) - n, by omega, by omega, by go_num, by go_num, by go_num, Lib.hid ⟨HQ.out.2.past ((Turn.refl NoBlock _).alloc _), (by have h9 := HR.out.2.full HQ.out.1 (by have := HM.out.1; omega); rw [← HM.out.1] at h9; exact h9)⟩⟩
              · go_wp2_with (go_at_call 36; (with_reducible refine cF.mono ?_); rintro e w5 ⟨⟨q, rfl, hq⟩ | ⟨rfl, hq⟩, g5⟩ <;> (have HQ := Lib.hid (And.intro hq g5); clear hq g5))
                · go_roundg (32 - (k2 + 1))
                  case measure => omega
                  case rel => exact ⟨k2 + 1, 0, _, by omega, by omega, rfl, rfl, by go_num, Lib.hid ⟨HQ.out.2.past ((Turn.refl NoBlock _).alloc _), HR.out.2.hit HM.out.2.1 (HF.out _ HQ.out.1)⟩⟩
                · go_roundg (32 - (k2 + 1))
                  case measure => omega
                  case rel => exact ⟨k2 + 1, r + 1, L, by omega, by omega, by go_num, by go_num, by go_num, Lib.hid ⟨HQ.out.2.past ((Turn.refl NoBlock _).alloc _), HR.out.2.free HQ.out.1 (.inl hL0.1)⟩⟩
            · rcases hL with ⟨rfl, hrm⟩ | hL0
              · exfalso
                have := HM.out.1
                omega
              · go_wp2_with (go_at_call 36; (with_reducible refine cF.mono ?_); rintro e w5 ⟨⟨q, rfl, hq⟩ | ⟨rfl, hq⟩, g5⟩ <;> (have HQ := Lib.hid (And.intro hq g5); clear hq g5))
                · go_roundg (32 - (k2 + 1))
                  case measure => omega
                  case rel => exact ⟨k2 + 1, 0, _, by omega, by omega, rfl, rfl, by go_num, Lib.hid ⟨HQ.out.2.past ((Turn.refl NoBlock _).alloc _), HR.out.2.hit HM.out.2.1 (HF.out _ HQ.out.1)⟩⟩
                · go_roundg (32 - (k2 + 1))
                  case measure => omega
                  case rel => exact ⟨k2 + 1, r + 1, L, by omega, by omega, by go_num, by go_num, by go_num, Lib.hid ⟨HQ.out.2.past ((Turn.refl NoBlock _).alloc _), HR.out.2.free HQ.out.1 (.inl hL0.1)⟩⟩
          · obtain rfl : k2 = 32 := by omega
            have ok' : GOK (64 * ((32 : Nat) : Int)) l := HR.out.1.ok
            have gR := HR.out.1
            have hres := run_win ok' HM.out.2.1 HM.out.1 H4.out.1 HR.out.2
            have HR1 := Lib.hid gR
            clear ok' hmn
            rcases hres with ⟨rfl, he⟩ | ⟨b0, b1, b2, he, hF⟩
            · simp at he
              obtain ⟨rfl, rfl⟩ := he
              clear gR
              go_wp2_with (go_at_call 31; (with_reducible refine (cA _).mono ?_); rintro e w2 ⟨rfl, t2⟩)
              go_ret
              exact ⟨rfl, HR1.out.turn.trans t2 (fun _ h => .inl h)⟩
            · simp at he
              obtain ⟨rfl, rfl⟩ := he
              have hput : isPut ⟨A, n, 0, 0, 0⟩ := by
                unfold isPut isGrid isMul isProt
                dsimp only
                omega
              have cP := (gR.put (by omega) (by omega) ⟨A, n, 0, 0, 0⟩ ⟨(show fit A by unfold fit; omega), fn⟩).mono (R' := fun e w' => e = .returned (.int .i64 0) ∧ Turn NoBlock w w') (by
                rintro e w' (⟨z, _, _, h3, _⟩ | ⟨kk, h1, _, h2⟩)
                · refine absurd ⟨hput, ?_, fun q hq hov => ?_⟩ h3
                  · unfold Pc.fin
                    simpa using b1
                  · have h9 := (gR.ok.each q hq).1
                    unfold Ov at hov
                    simp only at hov
                    exact hF (max A q.at') (by omega) (by omega) q ⟨hq, by omega, by unfold Pc.fin at *; omega⟩
                · exact ⟨h1, h2.turn⟩)
              unfold Pc.agg at cP
              simp only at cP
              clear gR hF hput
              go_wp2_with (first
                | (go_at_call 32; (with_reducible refine cP.mono ?_); rintro e w6 ⟨rfl, t6⟩; have T6 := Lib.hid t6; clear t6)
                | (go_at_call 31; (with_reducible refine (cA _).mono ?_); rintro e w2 ⟨rfl, t2⟩))
              go_ret
              exact ⟨rfl, T6.out.trans t2 (fun _ h => .inl h)⟩
      · have cL := fun w => place_no a n w hgr
        have gN := HT.out
        have HN := Lib.hid gN
        clear gN gT
        by_cases h1 : n < 1
        · clear hgr
          go_wp2_with (first
            | (go_at_call 38; (with_reducible refine (cL _).mono ?_); rintro e w4 ⟨rfl, rfl⟩)
            | (go_at_call 31; (with_reducible refine (cA _).mono ?_); rintro e w2 ⟨rfl, t2⟩))
          go_ret
          exact ⟨rfl, HN.out.turn.trans t2 (fun _ h => .inl h)⟩
        · have ht : Int.tmod n 64 = n % 64 := Int.tmod_eq_emod_of_nonneg (by omega)
          have hnz : ¬ n % 64 = 0 := fun hz => hgr (by unfold isGrid isMul; omega)
          have hb0 : (n % 64 == 0) = false := by simp [hnz]
          have hn1 : 1 ≤ n := by omega
          clear hgr
          go_wp2_with (first
            | (go_at_call 38; (with_reducible refine (cL _).mono ?_); rintro e w4 ⟨rfl, rfl⟩)
            | (go_at_call 31; (with_reducible refine (cA _).mono ?_); rintro e w2 ⟨rfl, t2⟩))
          all_goals first
            | (go_ret; exact ⟨rfl, HN.out.turn.trans t2 (fun _ h => .inl h)⟩)
            | (exfalso; omega)
            | (exfalso; simp_all; done)
            | trace_state
end Go.Proofs.Ytdddmjdlikjedaa
