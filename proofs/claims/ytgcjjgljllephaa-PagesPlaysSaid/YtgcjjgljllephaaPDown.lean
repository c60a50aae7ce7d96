/-
  One step after the other down the freed places' heap. Conditions: the slice is the call's own.
-/
import Derived.Test.YtgcjjgljllephaaPLow
namespace Go.Proofs.Ytgcjjgljllephaa
open Go.ChangeShapes Go.WideShapes Go.ChangeAt Go.RowKit

set_option maxRecDepth 100000 in
set_option maxHeartbeats 4000000 in
/-- down(h, 0, n) -/
theorem down_any {w : World} {c : Addr} {g n cap : Nat} {l : List Nat} (h : LowW w c g (n + 1) cap l) (hn : n ≤ 65537) (hu : DownInv (fun k => l.getD k 0) n 0) :
    Calls Try.prog 63 #[.iface 105 (.pointer (some c)), .int .i64 0, .int .i64 n] w fun e w' => (∃ b, e = .returned (.bool b)) ∧
      ∃ l', LowW w' c g (n + 1) cap l' ∧ l'.Perm l ∧ HeapN (fun k => l'.getD k 0) n ∧ l'.getD n 0 = l.getD n 0 ∧ Turn (fun k => k = g) w w' := by
  have HL := Lib.hid h
  have HU := Lib.hid hu
  clear h hu
  go_enter Try.func63, Try.ntmps63
  go_wp2
  go_loopg [7] (n + 1) (fun kx s wr => ∃ (i : Nat) (l' : List Nat), n + 1 - i ≤ kx ∧ s = .int .i64 i ∧ i ≤ n ∧ LowW wr c g (n + 1) cap l' ∧ Hid (l'.Perm l ∧ DownInv (fun k => l'.getD k 0) n i ∧ l'.getD n 0 = l.getD n 0 ∧ Turn (fun k => k = g) w wr))
  case atStart => exact ⟨0, l, by omega, rfl, by omega, HL.out, List.Perm.refl _, HU.out, rfl, Turn.refl _ _⟩
  case round =>
    obtain ⟨i, l', hkx, rfl, hi, hL, hP⟩ := hrel
    have hlen := hL.len
    obtain ⟨a, ha⟩ : ∃ a : Nat, 2 * i + 1 = a := ⟨_, rfl⟩
    obtain ⟨b, hb⟩ : ∃ b : Nat, a + 1 = b := ⟨_, rfl⟩
    have e1 : 2 * (i : Int) + 1 = a := by omega
    have e2 : (a : Int) + 1 = b := by omega
    by_cases h0 : n ≤ a
    · have HF : Hid (LowW wr c g (n + 1) cap l' ∧ l'.Perm l ∧ HeapN (fun k => l'.getD k 0) n ∧ l'.getD n 0 = l.getD n 0 ∧ Turn (fun k => k = g) w wr) := ⟨hL, hP.out.1, down_end hP.out.2.1 (by omega), hP.out.2.2⟩
      clear hL hP
      go_wp2
      go_ret
      exact ⟨⟨_, rfl⟩, l', HF.out⟩
    · have cl := hL.cell
      have ml := fun W h => m_less c (.slice (some ⟨g, 0, none⟩) (n + 1) cap) W h
      have ms := fun W h => m_swap c (.slice (some ⟨g, 0, none⟩) (n + 1) cap) W h
      -- the child that is the lower one
      have pick : ∃ j : Nat, j < n ∧ 0 < j ∧ (j - 1) / 2 = i ∧ (∀ c, 0 < c → c < n → (c - 1) / 2 = i → l'.getD j 0 ≤ l'.getD c 0) ∧
          ((¬ b < n ∧ j = a) ∨ (b < n ∧ l'.getD b 0 < l'.getD a 0 ∧ j = b) ∨ (b < n ∧ ¬ l'.getD b 0 < l'.getD a 0 ∧ j = a)) := by
        by_cases h1 : b < n
        · by_cases h2 : l'.getD b 0 < l'.getD a 0
          · refine ⟨b, h1, by omega, by omega, fun c h3 h4 h5 => ?_, .inr (.inl ⟨h1, h2, rfl⟩)⟩
            rcases (show c = a ∨ c = b by omega) with rfl | rfl
            · omega
            · exact Nat.le_refl _
          · refine ⟨a, by omega, by omega, by omega, fun c h3 h4 h5 => ?_, .inr (.inr ⟨h1, h2, rfl⟩)⟩
            rcases (show c = a ∨ c = b by omega) with rfl | rfl
            · exact Nat.le_refl _
            · omega
        · refine ⟨a, by omega, by omega, by omega, fun c h3 h4 h5 => ?_, .inl ⟨h1, rfl⟩⟩
          rcases (show c = a by omega) with rfl
          exact Nat.le_refl _
      obtain ⟨j, hj, hj0, hjp, hjm, hcase⟩ := pick
      have c2 : ∀ m, Calls Try.prog 110 #[.slice (some ⟨g, 0, none⟩) (n + 1) cap, .int .i64 j, .int .i64 i] (wr.drewN m) fun e w' => e = .returned (.bool (decide (l'.getD j 0 < l'.getD i 0))) ∧ ∃ q, w' = wr.drewN (m + q) := fun m =>
        (less_any (hL.drewN m) j i (by omega) (by omega)).mono fun e w' ⟨he, q, hq⟩ => ⟨he, q, by rw [hq, World.drewN_drewN]⟩
      have c2' := less_any hL j i (by omega) (by omega)
      by_cases hsw : l'.getD j 0 < l'.getD i 0
      · have HS : Hid (∀ m, Calls Try.prog 111 #[.slice (some ⟨g, 0, none⟩) (n + 1) cap, .int .i64 i, .int .i64 j] (wr.drewN m) fun e w' => e = .returned (.tuple #[]) ∧ LowW w' c g (n + 1) cap (swl l' i j) ∧ Turn (fun k => k = g) (wr.drewN m) w') := fun m => swap_any (hL.drewN m) i j (by omega) (by omega)
        have HF : Hid ((swl l' i j).Perm l ∧ DownInv (fun k => (swl l' i j).getD k 0) n j ∧ (swl l' i j).getD n 0 = l.getD n 0) := ⟨(swl_perm l' i j (by omega) (by omega)).trans hP.out.1, by
          rw [swl_fun l' i j (by omega) (by omega)]
          exact down_step hP.out.2.1 hj hjp hj0 hjm hsw, by
          rw [swl_at l' i j n (by omega) (by omega), sw_k _ (by omega) (by omega)]
          exact hP.out.2.2.1⟩
        simp only [decide_eq_true hsw] at c2 c2'
        clear hjm hjp
        rcases hcase with ⟨h1, rfl⟩ | ⟨h1, h2, rfl⟩ | ⟨h1, h2, rfl⟩
        · clear hL
          go_wp2_with (first
            | (go_at_call 110; (with_reducible refine c2'.mono ?_); rintro e w' ⟨rfl, m, rfl⟩)
            | (go_at_call 111; (with_reducible refine (HS.out _).mono ?_); rintro e w' ⟨rfl, hL2, hT2⟩))
          go_roundg (n + 1 - j)
          case measure => omega
          case rel => exact ⟨j, swl l' i j, Nat.le_refl _, rfl, by omega, hL2, HF.out.1, HF.out.2.1, HF.out.2.2, (hP.out.2.2.2.drewN _).trans hT2 (fun _ h => .inl h)⟩
        · have c1 := less_any hL j a (by omega) (by omega)
          rw [decide_eq_true h2] at c1
          clear hL
          go_wp2_with (first
            | (go_at_call 110; (with_reducible refine c1.mono ?_); rintro e w' ⟨rfl, m, rfl⟩)
            | (go_at_call 110; (with_reducible refine (c2 _).mono ?_); rintro e w' ⟨rfl, m, rfl⟩)
            | (go_at_call 111; (with_reducible refine (HS.out _).mono ?_); rintro e w' ⟨rfl, hL2, hT2⟩))
          go_roundg (n + 1 - j)
          case measure => omega
          case rel => exact ⟨j, swl l' i j, Nat.le_refl _, rfl, by omega, hL2, HF.out.1, HF.out.2.1, HF.out.2.2, (hP.out.2.2.2.drewN _).trans hT2 (fun _ h => .inl h)⟩
        · have c1 := less_any hL b j (by omega) (by omega)
          rw [decide_eq_false h2] at c1
          clear hL
          go_wp2_with (first
            | (go_at_call 110; (with_reducible refine c1.mono ?_); rintro e w' ⟨rfl, m, rfl⟩)
            | (go_at_call 110; (with_reducible refine (c2 _).mono ?_); rintro e w' ⟨rfl, m, rfl⟩)
            | (go_at_call 111; (with_reducible refine (HS.out _).mono ?_); rintro e w' ⟨rfl, hL2, hT2⟩))
          go_roundg (n + 1 - j)
          case measure => omega
          case rel => exact ⟨j, swl l' i j, Nat.le_refl _, rfl, by omega, hL2, HF.out.1, HF.out.2.1, HF.out.2.2, (hP.out.2.2.2.drewN _).trans hT2 (fun _ h => .inl h)⟩
      · have HF : Hid (∀ m, LowW (wr.drewN m) c g (n + 1) cap l' ∧ l'.Perm l ∧ HeapN (fun k => l'.getD k 0) n ∧ l'.getD n 0 = l.getD n 0 ∧ Turn (fun k => k = g) w (wr.drewN m)) := fun m => ⟨hL.drewN m, hP.out.1, down_stop hP.out.2.1 hjm (Nat.le_of_not_lt hsw), hP.out.2.2.1, hP.out.2.2.2.drewN m⟩
        simp only [decide_eq_false hsw] at c2 c2'
        clear hjm hjp
        rcases hcase with ⟨h1, rfl⟩ | ⟨h1, h2, rfl⟩ | ⟨h1, h2, rfl⟩
        · clear hL
          go_wp2_with (go_at_call 110; (with_reducible refine c2'.mono ?_); rintro e w' ⟨rfl, m, rfl⟩)
          go_ret
          exact ⟨⟨_, rfl⟩, l', HF.out _⟩
        · have c1 := less_any hL j a (by omega) (by omega)
          rw [decide_eq_true h2] at c1
          clear hL
          go_wp2_with (first
            | (go_at_call 110; (with_reducible refine c1.mono ?_); rintro e w' ⟨rfl, m, rfl⟩)
            | (go_at_call 110; (with_reducible refine (c2 _).mono ?_); rintro e w' ⟨rfl, m, rfl⟩))
          go_ret
          exact ⟨⟨_, rfl⟩, l', HF.out _⟩
        · have c1 := less_any hL b j (by omega) (by omega)
          rw [decide_eq_false h2] at c1
          clear hL
          go_wp2_with (first
            | (go_at_call 110; (with_reducible refine c1.mono ?_); rintro e w' ⟨rfl, m, rfl⟩)
            | (go_at_call 110; (with_reducible refine (c2 _).mono ?_); rintro e w' ⟨rfl, m, rfl⟩))
          go_ret
          exact ⟨⟨_, rfl⟩, l', HF.out _⟩
end Go.Proofs.Ytgcjjgljllephaa
