/-
  SpacePlaces' walk.
-/
import Derived.Test.YtdddmjdlikjedaaSAll
namespace Go.Proofs.Ytdddmjdlikjedaa
open Go.ChangeShapes Go.WideShapes Go.ChangeAt Go.RowKit

def ZsAt (W : World) (p : Option Addr) (len : Nat) (zs : List Int) : Prop := zs.length = len ∧ (∀ z ∈ zs, fit z) ∧ (0 < len → ∃ b off, p = some ⟨b, off, none⟩ ∧ ∀ j, j < len → W.cell? ⟨b, off + j, none⟩ = some (.int .i64 (zs.getD j 0)))
set_option maxRecDepth 20000 in
theorem spl_past (p : Option Addr) (len cap : Nat) (w : World) (h : 40 < len) : Calls Try.prog 13 #[.slice p len cap] w fun e w' => e = .returned (.bool true) ∧ Turn NoBlock w w' := by
  have c1 : Calls Try.prog 14 #[.int .i64 4, .int .i64 3] w _ := vnew_yes 4 3 w (by omega) (by omega)
  have cA := awake10
  go_enter Try.func13, Try.ntmps13
  go_wp2_with (first
    | (go_at_call 14; (with_reducible refine c1.mono ?_); rintro x w1 ⟨s, r, rfl, m1, t1, f1⟩; have T1 := Lib.hid t1; clear m1 t1 f1)
    | (go_at_call 39; (with_reducible refine (cA _).mono ?_); rintro e w2 ⟨rfl, t2⟩))
  go_ret
  exact ⟨rfl, T1.out.trans t2 (fun _ h => .inl h)⟩

set_option maxRecDepth 20000 in
set_option maxHeartbeats 4000000 in
theorem spl_walk (p : Option Addr) (len cap : Nat) (zs : List Int) (w : World) (h : len ≤ 40) (hz : ZsAt w p len zs) : Calls Try.prog 13 #[.slice p len cap] w fun e w' => e = .returned (.bool true) ∧ Turn NoBlock w w' := by
  have c1 : Calls Try.prog 14 #[.int .i64 4, .int .i64 3] w _ := vnew_yes 4 3 w (by omega) (by omega)
  have cA := awake10
  have HZ := Lib.hid hz
  clear hz
  go_enter Try.func13, Try.ntmps13
  go_wp2_with (first
    | (go_at_call 40; (with_reducible refine (znew_any s 1024 50 _ (by unfold isMul; omega) (by omega) (by omega)).mono ?_); rintro x w3 ⟨rfl, rfl⟩; have K3 := Lib.hid (sps_new K2.out 1024 50 (by omega)))
    | (go_at_call 16; (with_reducible refine (so_create K1.out.mem (by omega) 1024 (by omega) (by omega)).mono ?_); rintro x w2 ⟨rfl, r2, m2, k2⟩; have K2 := Lib.hid (show VSt w w2 s r2 (ZN 4 3 1024) from K1.out.next m2 k2); clear m2 k2)
    | (go_at_call 14; (with_reducible refine c1.mono ?_); rintro x w1 ⟨s, r, rfl, m1, t1, f1⟩; have K1 := Lib.hid (show VSt w w1 s r (M0 4 3) from ⟨m1, t1, f1⟩); clear m1 t1 f1))
  obtain ⟨c, hc⟩ : ∃ c, c = w2.heap.size + 1 := ⟨_, rfl⟩
  rw [← hc] at K3 ⊢
  clear hc
  go_loopg [7, 36] len (fun g s7 s36 wr => ∃ (k : Nat) (E : Int) (l : List Pc), k ≤ len ∧ g = len - k ∧ s7 = .int .i64 E ∧ s36 = .int .i64 k ∧ (0 ≤ E ∧ E ≤ 1024) ∧ Hid (SpS w c s w2.heap.size 1024 50 r2 (ZN 4 3 1024) l wr ∧ RunQ l E (fun p => p.vmo = 1) ∧ E % 64 = 0))
  case atStart => exact ⟨0, 0, [], by omega, by omega, rfl, rfl, by omega, Lib.hid ⟨K3.out, RunQ.nil _, rfl⟩⟩
  case round =>
    obtain ⟨k, E, l, hk, hg, rfl, rfl, hE, HT⟩ := hrel
    by_cases hlt : k < len
    · obtain ⟨b, off, rfl, hc⟩ := HZ.out.2.2 (by omega)
      have d0 := HT.out.1.turn.cell (hc k hlt) (fun h => h)
      have fn : fit (zs.getD k 0) := by
        rw [List.getD_eq_getElem?_getD, List.getElem?_eq_getElem (by rw [HZ.out.1]; exact hlt)]
        exact HZ.out.2.1 _ (List.getElem_mem _)
      generalize zs.getD k 0 = n at *
      have hll := gok_len HT.out.1.gt.ok
      have hob : (ZN 4 3 1024).O 1 = some (newOb 1024 0 0 0) := rfl
      have hE64 := HT.out.2.2
      by_cases hok : 1 ≤ n ∧ n % 64 = 0 ∧ E + n ≤ 1024
      · have cM := SpS.mapRun HT.out.1 HT.out.2.1 ⟨hE.1, hE64⟩ (by omega) (by omega) n 1 1 (by unfold fit; omega) ⟨hok.1, hok.2.1⟩ (by unfold isProt; omega) hok.2.2 hob rfl (by decide) (by show n ≤ ((1024 : Nat) : Int); omega) rfl
        have ht : Int.tmod n 64 = n % 64 := Int.tmod_eq_emod_of_nonneg (by omega)
        have ht0 : Int.tmod n 64 = 0 := by omega
        have hd1 : decide (n < 1) = false := decide_eq_false (by omega)
        have hw1 : IntKind.i64.wrap (1024 - E) = 1024 - E := wrap_fit (by unfold fit; omega)
        have hd2 : decide (1024 - E < n) = false := decide_eq_false (by omega)
        have hw2 : IntKind.i64.wrap (E + n) = E + n := wrap_fit (by unfold fit; omega)
        have HOK := Lib.hid (And.intro hok hE64)
        have hb : 0 ≤ E + n ∧ E + n ≤ 1024 := by omega
        have hbe : (E != E) = false := by simp
        have hb64 : (Int.tmod n 64 != 0) = false := by simp [ht0]
        clear hok hll ht hc fn hE64
        go_wp2_with (go_at_call 41; (with_reducible refine cM.mono ?_); rintro e w4 ⟨rfl, kk, g4⟩; have G4 := Lib.hid g4; clear g4)
        go_roundg (len - (k + 1))
        case measure => omega
        case rel => exact ⟨k + 1, E + n, _, by omega, by omega, by go_num, by go_num, hb, Lib.hid ⟨G4.out.1, G4.out.2, by have := HOK.out; omega⟩⟩
      · have cM := SpS.mapRunNo HT.out.1 HT.out.2.1 (by omega) n 1 1 (by unfold fit; omega) fn hok hob rfl (by decide)
        have hw1 : IntKind.i64.wrap (1024 - E) = 1024 - E := wrap_fit (by unfold fit; omega)
        have hcase : n < 1 ∨ (1 ≤ n ∧ ¬ n % 64 = 0) ∨ (1 ≤ n ∧ n % 64 = 0 ∧ 1024 - E < n) := by omega
        clear hok hll hc fn hE64
        rcases hcase with h1 | ⟨h1, h2⟩ | ⟨h1, h2, h3⟩
        all_goals
          try (have hb2 : (n % 64 != 0) = true := bne_iff_ne.2 h2)
          try (have hb3 : (n % 64 != 0) = false := by simp [h2])
          go_wp2_with (go_at_call 41; (with_reducible refine cM.mono ?_); rintro e w4 ⟨z, hz, rfl, t4⟩; have hz0 : (z == 0) = false := beq_eq_false_iff_ne.2 (by omega); have T4 := Lib.hid t4; clear t4)
          go_roundg (len - (k + 1))
          case measure => omega
          case rel => exact ⟨k + 1, E, l, by omega, by omega, rfl, by go_num, hE, Lib.hid ⟨HT.out.1.past T4.out, HT.out.2⟩⟩
    · obtain rfl : k = len := by omega
      have hu : usesN l 1 = l.length := uses_all HT.out.2.1.each
      have cU := HT.out.1.uses (by omega) 1
      rw [hu] at cU
      have HP := Lib.hid (fun w' (t : Turn NoBlock wr w') => (HT.out.1.past t).pieces (by omega))
      clear hu
      go_wp2_with (first
        | (go_at_call 44; (with_reducible refine cU.mono ?_); rintro e w5 ⟨rfl, t5⟩; have T5 := Lib.hid t5; have cP := HP.out _ t5; clear t5)
        | (go_at_call 47; (with_reducible refine cP.mono ?_); rintro e w6 ⟨⟨pv, cv, rfl⟩, t6⟩; have T6 := Lib.hid (T5.out.trans t6 (fun _ h => .inl h)); clear t6)
        | (go_at_call 39; (with_reducible refine (cA _).mono ?_); rintro e w2 ⟨rfl, t2⟩))
      go_ret
      exact ⟨rfl, (HT.out.1.turn.trans T6.out (fun _ h => .inl h)).trans t2 (fun _ h => .inl h)⟩
end Go.Proofs.Ytdddmjdlikjedaa
