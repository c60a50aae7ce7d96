/-
  TasksRoom's walk. No conditions.
-/
import Derived.Test.YtabakjimlndhcaaTkAwake
import Derived.Deep.LoopGhost
namespace Go.Proofs.Ytabakjimlndhcaa
open Go.ChangeShapes Go.WideShapes Go.ChangeAt Go.RowKit

/-- A root job, and processes below it. -/
structure RI (most : Int) (n : Nat) (T : Nat → Tk) : Prop where
  ok : TOK most n T
  root : T 0 = ⟨1, 0, 1, 0, 0, 0⟩
  sub : ∀ j, 0 < j → j < n → (T j).par = 1 ∧ (T j).crit = 0
section
variable {w0 w : World} {c n : Nat} {most : Int} {T : Nat → Tk} {X : Nat → Prop}
theorem ri1 (h : 1 ≤ most ∧ most ≤ 65536) : RI most 1 T1 := ⟨tok1 h, rfl, fun j h0 h1 => by omega⟩
theorem RI.mks (h : RI most n T) : mkS most n T 2 1 = if (liveN T n : Int) = most then -4 else 0 := by
  have hin : inN n 1 = true := inN_iff.2 ⟨Int.le_refl _, by have := h.ok.n1; omega⟩
  have hjp : jobP T 0 = 0 := by unfold jobP; rw [h.root]; rfl
  have hpl : plc 1 = 0 := rfl
  unfold mkS
  rw [if_neg (by rw [hin]; simp), hpl, hjp, h.root, if_neg (by decide), if_neg (by decide), if_neg (by decide), if_neg (fun e => absurd e.1 (by decide))]
theorem RI.make (h : RI most n T) (hl : (liveN T n : Int) ≠ most) : RI most (n + 1) (setT T n (newT T 2 1)) ∧ (setT T n (newT T 2 1) n).st ≠ 2 := by
  have hs : mkS most n T 2 1 = 0 := by rw [h.mks, if_neg hl]
  have hn := h.ok.n1
  refine ⟨⟨h.ok.make hs, by rw [setT_other _ _ (by omega)]; exact h.root, fun j h0 h1 => ?_⟩, by rw [setT_same]; exact (show (0 : Int) ≠ 2 by decide)⟩
  by_cases e : j = n
  · subst e; rw [setT_same]; exact ⟨rfl, rfl⟩
  · rw [setT_other _ _ e]; exact h.sub j h0 (by omega)
theorem RI.leaf (h : RI most n T) (hn : 2 ≤ n) : ∀ j, j < n → (T j).par = ((n - 1 : Nat) : Int) + 1 → (T j).st = 2 := by
  intro j hj he
  exfalso
  by_cases h0 : j = 0
  · subst h0; rw [h.root] at he; have : (0 : Int) = ((n - 1 : Nat) : Int) + 1 := he; omega
  · have := (h.sub j (by omega) hj).1; omega
theorem RI.kill (h : RI most n T) (hn : 2 ≤ n) (ha : (T (n - 1)).st ≠ 2) : killS n T n = 0 ∧ killL n T n 3 = [(n : Int)] ∧ RI most n (killT n T n 3) ∧ (liveN (killT n T n 3) n : Int) = (liveN T n : Int) - 1 := by
  have hin : inN n (n : Int) = true := inN_iff.2 ⟨by omega, Int.le_refl _⟩
  have hpl : plc (n : Int) = n - 1 := by unfold plc; omega
  have hs : killS n T n = 0 := by unfold killS; rw [if_neg (by rw [hin]; simp), hpl, if_neg ha]
  have hp : n - 1 < n := by omega
  have hd := die_leaf h.ok.dok hp ha (h.leaf hn) 3
  rw [if_pos (h.sub _ (by omega) hp).2] at hd
  have hk : killT n T n 3 = endT T 3 (n - 1) := by unfold killT; rw [if_pos hs, hpl, hd]
  have hE : Ends n 3 T [n - 1] (endT T 3 (n - 1)) := .one hp ha (h.leaf hn)
  refine ⟨hs, ?_, ?_, ?_⟩
  · unfold killL
    rw [if_pos hs, hpl, hd]
    show [((n - 1 : Nat) : Int) + 1] = _
    rw [show ((n - 1 : Nat) : Int) + 1 = n by omega]
  · rw [hk]
    refine ⟨h.ok.ends hE, ?_, fun j h0 h1 => ?_⟩
    · rw [endT_other _ _ (by omega)]; exact h.root
    · rw [(endT_par T 3 (n - 1) j).1, (endT_par T 3 (n - 1) j).2.1]; exact h.sub j h0 h1
  · rw [hk]
    have := live_end hp ha 3
    omega
theorem rm_full (h : KSt w0 w c most n T X) (r : RI most n T) (hn : n ≤ 999999) (hl : (liveN T n : Int) = most) : Calls Try.prog 45 #[.pointer (some ⟨c, 0, none⟩), .int .i64 2, .int .i64 1] w fun x w' => x = .returned (.tuple #[.int .i64 0, .int .i64 (-4)]) ∧ KSt w0 w' c most n T X := by
  have hs : mkS most n T 2 1 = -4 := by rw [r.mks, if_pos hl]
  refine (h.make hn 2 1).mono ?_
  rintro x w' ⟨rfl, h2, -⟩
  unfold mkC mkT at h2
  rw [hs] at h2 ⊢
  exact ⟨rfl, h2⟩
theorem rm_make (h : KSt w0 w c most n T X) (r : RI most n T) (hn : n ≤ 999999) (hl : (liveN T n : Int) ≠ most) : Calls Try.prog 45 #[.pointer (some ⟨c, 0, none⟩), .int .i64 2, .int .i64 1] w fun x w' => x = .returned (.tuple #[.int .i64 ((n : Int) + 1), .int .i64 0]) ∧ ∃ T', KSt w0 w' c most (n + 1) T' X ∧ RI most (n + 1) T' ∧ (T' n).st ≠ 2 ∧ (liveN T' (n + 1) : Int) ≤ most := by
  have hs : mkS most n T 2 1 = 0 := by rw [r.mks, if_neg hl]
  refine (h.make hn 2 1).mono ?_
  rintro x w' ⟨rfl, h2, -⟩
  unfold mkC mkT at h2
  rw [hs] at h2 ⊢
  obtain ⟨a, b⟩ := r.make hl
  exact ⟨rfl, _, h2, a, b, a.ok.live⟩
theorem rm_kill (h : KSt w0 w c most n T X) (r : RI most n T) (hn : n ≤ 999999) (h2 : 2 ≤ n) (ha : (T (n - 1)).st ≠ 2) : Calls Try.prog 47 #[.pointer (some ⟨c, 0, none⟩), .int .i64 (n : Int), .int .i64 3] w fun x w' => ∃ v, x = .returned (.tuple #[v, .int .i64 0]) ∧ Nums v [(n : Int)] w' ∧ ∃ T', KSt w0 w' c most n T' X ∧ RI most n T' ∧ (liveN T' n : Int) = (liveN T n : Int) - 1 := by
  obtain ⟨k1, k2, k3, k4⟩ := r.kill h2 ha
  refine (h.kill (by omega) n 3).mono ?_
  rintro x w' ⟨v, rfl, q, h2, -, -⟩
  rw [k2] at q
  rw [k1]
  exact ⟨v, rfl, q, _, h2, k3, k4⟩
theorem live_one (r : RI most n T) : 1 ≤ liveN T n := by
  have h := r.ok.n1
  have h0 : 0 ∈ List.range n := List.mem_range.2 (by omega)
  exact List.countP_pos_iff.2 ⟨0, h0, by rw [r.root]; rfl⟩
set_option maxRecDepth 100000 in
set_option maxHeartbeats 8000000 in
theorem room_walk (most k : Int) (w : World) : Calls Try.prog 10 #[.int .i64 most, .int .i64 k] w fun x w' => x = .returned (.bool true) ∧ Turn NoBlock w w' := by
  have CW := Lib.hid awake17
  by_cases hm : 1 ≤ most ∧ most ≤ 65536
  · have CN := Lib.hid (new_yes most w hm)
    unfold tp at CN
    by_cases hk : 0 ≤ k ∧ k ≤ 60
    · obtain ⟨N, hN⟩ : ∃ N : Nat, k = N := ⟨k.toNat, by omega⟩
      subst hN
      have hN6 : N ≤ 60 := by omega
      have b1 : ¬ ((N : Int) < 0) := by omega
      have b2 : ¬ (60 < (N : Int)) := by omega
      clear hk
      go_enter Try.func10, Try.ntmps10
      go_wp2_with (go_at_call 29; (with_reducible refine CN.out.mono ?_); rintro e w1 ⟨c, rfl, h1⟩; have H1 := Lib.hid h1; clear h1)
      go_loopg [6, 37] N (fun z s6 s37 wr => ∃ (j n : Nat) (T : Nat → Tk), j ≤ N ∧ z = N - j ∧ s37 = .int .i64 (j : Int) ∧ s6 = .int .i64 (n : Int) ∧ n ≤ j + 1 ∧ Hid (KSt w wr c most n T NoBlock ∧ RI most n T ∧ (T (n - 1)).st ≠ 2))
      case atStart => exact ⟨0, 1, T1, by omega, by omega, rfl, rfl, by omega, Lib.hid ⟨H1.out, ri1 hm, by decide⟩⟩
      case round =>
        clear H1 CN
        obtain ⟨j, n, T, hj, hz, rfl, rfl, hnj, HI⟩ := hrel
        obtain ⟨k1, r1, a1⟩ := HI.out
        have hlo := live_one r1
        have hup := r1.ok.live
        have hn1 := r1.ok.n1
        have CL := Lib.hid k1.live
        unfold tp at CL
        by_cases hlt : j < N
        · have hjN : (j : Int) < (N : Int) := by omega
          by_cases hm2 : most < 2
          · have CM := Lib.hid (rm_full k1 r1 (by omega) (by omega))
            clear k1 CL
            go_wp2_with (go_at_call 45; (with_reducible refine CM.out.mono ?_); rintro e w2 ⟨rfl, h2⟩; have H2 := Lib.hid h2; clear h2)
            go_roundg (N - (j + 1))
            case measure => omega
            case rel => exact ⟨j + 1, n, T, by omega, rfl, by go_num, rfl, by omega, Lib.hid ⟨H2.out, HI.out.2⟩⟩
          · by_cases hl : (liveN T n : Int) = most
            · have hn2 : 2 ≤ n := by
                have : liveN T n ≤ (List.range n).length := List.countP_le_length
                rw [List.length_range] at this
                omega
              have CM := Lib.hid (rm_full k1 r1 (by omega) hl)
              have hml : (liveN T n : Int) - 1 = most - 1 := by omega
              have A1 := Lib.hid (And.intro r1 (And.intro hn2 (And.intro a1 hml)))
              clear k1 CL r1 a1
              go_wp2_with (first
                | (go_at_call 45; (with_reducible refine CM.out.mono ?_); rintro e w2 ⟨rfl, h2⟩; have H2 := Lib.hid h2; clear h2)
                | (go_at_call 47; (with_reducible refine (rm_kill H2.out A1.out.1 (by omega) A1.out.2.1 A1.out.2.2.1).mono ?_); rintro e w3 ⟨v, rfl, r3, T3, h3, i3, l3⟩; obtain ⟨g, o, cap, rfl, q0⟩ := r3.first; have l4 := l3.trans A1.out.2.2.2; have CL3 := Lib.hid h3.live; rw [l4] at CL3; unfold tp at CL3; have CM3 := Lib.hid (rm_make h3 i3 (by omega) (by omega)); clear h3 r3 i3 l3 l4)
                | (go_at_call 34; (with_reducible refine CL3.out.mono ?_); rintro e w4 ⟨rfl, rfl⟩)
                | (go_at_call 45; (with_reducible refine CM3.out.mono ?_); rintro e w5 ⟨rfl, T5, h5, i5, a5, l5⟩; have H5 := Lib.hid (And.intro h5 (And.intro i5 a5)); have CL5 := Lib.hid h5.live; unfold tp at CL5; clear h5 i5 a5)
                | (go_at_call 34; (with_reducible refine CL5.out.mono ?_); rintro e w4 ⟨rfl, rfl⟩))
              go_roundg (N - (j + 1))
              case measure => omega
              case rel => exact ⟨j + 1, n + 1, T5, by omega, rfl, by go_num, by go_num, by omega, Lib.hid H5.out⟩
            · have CM := Lib.hid (rm_make k1 r1 (by omega) hl)
              clear k1 CL r1 a1
              go_wp2_with (first
                | (go_at_call 45; (with_reducible refine CM.out.mono ?_); rintro e w5 ⟨rfl, T5, h5, i5, a5, l5⟩; have H5 := Lib.hid (And.intro h5 (And.intro i5 a5)); have CL5 := Lib.hid h5.live; unfold tp at CL5; clear h5 i5 a5)
                | (go_at_call 34; (with_reducible refine CL5.out.mono ?_); rintro e w4 ⟨rfl, rfl⟩))
              go_roundg (N - (j + 1))
              case measure => omega
              case rel => exact ⟨j + 1, n + 1, T5, by omega, rfl, by go_num, by go_num, by omega, Lib.hid H5.out⟩
        · have hjN : ¬ (j : Int) < (N : Int) := by omega
          have CC := Lib.hid k1.count
          unfold tp at CC
          have HT := Lib.hid k1.turn
          clear k1 CL r1 a1
          go_wp2_with (first
            | (go_at_call 33; (with_reducible refine CC.out.mono ?_); rintro e w4 ⟨rfl, rfl⟩)
            | (go_at_call 30; (with_reducible refine (CW.out _).mono ?_); rintro e w5 ⟨rfl, t5⟩; have T5 := Lib.hid t5; clear t5))
          go_ret
          exact ⟨rfl, TT HT.out T5.out⟩
    · by_cases hk0 : k < 0
      · clear hk
        go_enter Try.func10, Try.ntmps10
        go_wp2_with (first
          | (go_at_call 29; (with_reducible refine CN.out.mono ?_); rintro e w1 ⟨c, rfl, h1⟩; have H1 := Lib.hid h1.turn; clear h1)
          | (go_at_call 30; (with_reducible refine (CW.out _).mono ?_); rintro e w5 ⟨rfl, t5⟩; have T5 := Lib.hid t5; clear t5))
        go_ret
        exact ⟨rfl, TT H1.out T5.out⟩
      · have hk1 : 60 < k := by omega
        clear hk
        go_enter Try.func10, Try.ntmps10
        go_wp2_with (first
          | (go_at_call 29; (with_reducible refine CN.out.mono ?_); rintro e w1 ⟨c, rfl, h1⟩; have H1 := Lib.hid h1.turn; clear h1)
          | (go_at_call 30; (with_reducible refine (CW.out _).mono ?_); rintro e w5 ⟨rfl, t5⟩; have T5 := Lib.hid t5; clear t5))
        go_ret
        exact ⟨rfl, TT H1.out T5.out⟩
  · have CN := Lib.hid (new_no most w (by omega))
    by_cases hm0 : most < 1
    · clear hm
      go_enter Try.func10, Try.ntmps10
      go_wp2_with (first
        | (go_at_call 29; (with_reducible refine CN.out.mono ?_); rintro e w1 ⟨rfl, rfl⟩)
        | (go_at_call 30; (with_reducible refine (CW.out _).mono ?_); rintro e w5 ⟨rfl, t5⟩; have T5 := Lib.hid t5; clear t5))
      go_ret
      exact ⟨rfl, T5.out⟩
    · have hm1 : 65536 < most := by omega
      clear hm
      go_enter Try.func10, Try.ntmps10
      go_wp2_with (first
        | (go_at_call 29; (with_reducible refine CN.out.mono ?_); rintro e w1 ⟨rfl, rfl⟩)
        | (go_at_call 30; (with_reducible refine (CW.out _).mono ?_); rintro e w5 ⟨rfl, t5⟩; have T5 := Lib.hid t5; clear t5))
      go_ret
      exact ⟨rfl, T5.out⟩
end
end Go.Proofs.Ytabakjimlndhcaa
