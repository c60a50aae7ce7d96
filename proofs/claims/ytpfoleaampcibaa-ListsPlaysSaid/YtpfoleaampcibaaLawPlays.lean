/-
  The statement ListsPlays answers true at all numbers and all slices of calls.
-/
import Derived.Test.YtpfoleaampcibaaPlaysParts
namespace Go.Proofs.Ytpfoleaampcibaa
open Go.ChangeShapes Go.WideShapes Go.ChangeAt Go.RowKit

theorem where_eq {n k : Nat} {L : Nat → List Nat} {i : Nat} (h : i < n) : whereAt n k L i = whereOf k L i := by
  unfold whereAt
  rw [if_pos ⟨by omega, by omega⟩, Int.toNat_natCast]
theorem where_oob {n k : Nat} {L : Nat → List Nat} {i : Int} (h : ¬ inQ n i) : whereAt n k L i = -1 := by
  unfold whereAt
  exact if_neg h

set_option maxRecDepth 100000 in
set_option maxHeartbeats 8000000 in
theorem plays_walk (os : Nat → OpV) (k n : Nat) (p : Option Addr) (len cap : Nat) (w : World) (hk : k ≤ 20) (hn : n ≤ 65536) (h1 : len ≤ 150) (hos : OpsAt w p len os) :
    Calls Try.prog 3 #[.int .i64 k, .int .i64 n, .slice p len cap] w fun e w' => e = .returned (.bool true) ∧ Turn NoBlock w w' := by
  have c1 := new_yes k n w (by omega) hn
  have c9 := awake_any
  obtain ⟨i41, hi, hz0, hz1, hz2⟩ := info_parts info41
  have mk := fun (w : World) => run_make (P := Try.prog) w 27 41 i41 _ under27 hi hz0 .i64 .i64 (k : Int) k (by omega) (by omega) (by rw [hz2]; omega) (by omega)
  rw [hz1] at mk
  simp only [Int.toNat_natCast] at mk
  have P1 : ∀ i, i < k → (madeCells (Value.slice none 0 0).cells (k * 1))[i]? = some (.slice none 0 0) := fun i hi => made_at (by omega) (fun j hj => by
    have : j < 1 := by simpa [Value.cells] using hj
    match j, this with
    | 0, _ => rfl) (by simp [Value.cells])
  obtain ⟨C, hC⟩ : ∃ C, madeCells (Value.slice none 0 0).cells (k * 1) = C := ⟨_, rfl⟩
  rw [hC] at mk P1
  have HP1 : Hid (∀ i, i < k → C[i]? = some (.slice none 0 0)) := P1
  have HOs : Hid (OpsAt w p len os) := hos
  clear hos hC P1 hi hz0 hz1 hz2
  go_enter Try.func3, Try.ntmps3
  go_wp2_with (go_at_call 8; (with_reducible refine c1.mono ?_); rintro e w1 ⟨a, F, rfl, A1, T1, L1⟩; have S1 : Hid (ListsAt w1 a F n k (fun _ => []) ∧ Turn NoBlock w w1 ∧ ∀ j, F j → w.heap.size ≤ j) := ⟨A1, T1, L1⟩; clear A1 T1 L1)
  obtain ⟨r1, r2⟩ := ref_new (w := w1) (n := n) HP1.out
  have hlow := S1.out.2.1.size
  have S2 : Hid (PlSt w ((w1.alloc (.cells C 41)).alloc (.cells #[.slice (some ⟨w1.heap.size, 0, none⟩) k k, .int .i64 n] 29)) a F (w1.heap.size + 1) (RFoot (w1.heap.size + 1) w1.heap.size k (fun _ => .slice none 0 0)) n k (fun _ => []) (fun _ => []) NoBlock Nothing) :=
    ((St.begin w).step1 (lists_own a F n k _) S1.out.1 (S1.out.2.1.mono (fun _ h => .inl h)) (fun j hj => .inr (S1.out.2.2 j hj))).step2 (ref_own _ _ _ _ _) r1 (((Turn.refl _ _).alloc _).alloc _) (fun j hj => .inr (r2 j hj))
  generalize ((w1.alloc (.cells C 41)).alloc (.cells #[.slice (some ⟨w1.heap.size, 0, none⟩) k k, .int .i64 n] 29)) = w2 at S2 ⊢
  obtain ⟨x, hx⟩ : ∃ x, w1.heap.size + 1 = x := ⟨_, rfl⟩
  rw [hx] at S2 ⊢
  have S3 : Hid (∃ R, PlSt w w2 a F x R n k (fun _ => []) (fun _ => []) NoBlock Nothing) := ⟨_, S2.out⟩
  clear S2 r1 r2 hx hlow S1 mk HP1
  go_loopg [64] len (fun g c wr => ∃ (j : Nat) (L : Nat → List Nat), j ≤ len ∧ g = len - j ∧ c = .int .i64 j ∧ Hid (∃ R, PlSt w wr a F x R n k L L NoBlock Nothing))
  case atStart => exact ⟨0, _, by omega, by omega, rfl, S3⟩
  case round =>
    clear S3
    obtain ⟨j, L, hj, hgk, rfl, SS⟩ := hrel
    obtain ⟨R, S4⟩ := SS.out
    by_cases hlt : j < len
    · obtain ⟨b, off, rfl, hc⟩ := HOs.out (by omega)
      obtain ⟨k0, k1, k2⟩ := hc j hlt
      have k0 := S4.turn.cell k0 (fun h => h)
      have k1 := S4.turn.cell k1 (fun h => h)
      have k2 := S4.turn.cell k2 (fun h => h)
      obtain ⟨o, ho⟩ : ∃ o, os j = o := ⟨_, rfl⟩
      rw [ho] at k0 k1 k2
      have S5 := pl_box (o := o) S4
      have H5 : Hid (PlSt w (wr.alloc (.cells #[.int .i64 o.kind, .int .i64 o.q, .int .i64 o.i] 31)) a F x R n k L L (OneB wr.heap.size) (OpBox wr.heap.size o)) := S5
      clear hc ho S5 SS S4
      go_upto_block 2 with (fail)
      obtain ⟨W, hW⟩ : ∃ W, wr.alloc (.cells #[.int .i64 o.kind, .int .i64 o.q, .int .i64 o.i] 31) = W := ⟨_, rfl⟩
      obtain ⟨ob, hob⟩ : ∃ ob, wr.heap.size = ob := ⟨_, rfl⟩
      rw [hW, hob] at H5
      rw [hW, hob]
      have m12 := OpBox.cells (PlSt.third (Hid.out H5))
      obtain ⟨m1, m2⟩ := m12
      have m12 := And.intro m1 m2
      have hap := PlSt.apart (Hid.out H5)
      clear hW hob k0 k1 k2
      go_cut [] (fun wx => ∃ L' : Nat → List Nat, Hid (∃ R', PlSt w wx a F x R' n k L' L' (OneB ob) (OpBox ob o)))
      case first =>
        by_cases q1 : o.kind = 1
        · have b1 : (o.kind == 1) = true := by simpa using q1
          obtain ⟨s, hs⟩ : ∃ s, putS n k L o.q o.i = s := ⟨_, rfl⟩
          obtain ⟨L', hL'⟩ : ∃ L', pushL n k L o.q o.i = L' := ⟨_, rfl⟩
          have cp : ∀ W', ListsAt W' a F n k L → Calls Try.prog 10 #[.pointer (some ⟨a, 0, none⟩), .int .i64 o.q, .int .i64 o.i] W' fun e w' => e = .returned (.int .i64 s) ∧ ListsAt w' a F n k L' ∧ Turn F W' w' := fun W' h => by rw [← hs, ← hL']; exact push_any W' a F n k L o.q o.i h
          have cr : ∀ W' R', RefAt W' x R' n k L → Calls Try.prog 11 #[.pointer (some ⟨x, 0, none⟩), .int .i64 o.q, .int .i64 o.i] W' fun e w' => e = .returned (.int .i64 s) ∧ RefNext W' x R' n k L' w' := fun W' R' h => by rw [← hs, ← hL']; exact rpush_any W' x R' n k L o.q o.i h hap (by omega) hn
          clear hs hL' q1
          go_wp2_with fail
          go_region_held3 (fun w' => w'.cell? ⟨ob, 1, none⟩ = some (.int .i64 o.q) ∧ w'.cell? ⟨ob, 2, none⟩ = some (.int .i64 o.i)) (first | exact m12 | exact v1 | exact v2)
            (first
              | (go_at_call 10; (with_reducible refine (cp _ (PlSt.lists (PlSt.drew (Hid.out H5)))).mono ?_); rintro e w5 ⟨rfl, A5, T5⟩; have H6 : Hid (PlSt w w5 a F x R n k L' L (OneB ob) (OpBox ob o)) := pl_step1 (PlSt.drew (Hid.out H5)) A5 T5; have v1 := OpBox.cells (PlSt.third (Hid.out H6)); clear A5 T5)
              | (go_at_call 11; (with_reducible refine (cr _ _ (PlSt.ref (Hid.out H6))).mono ?_); rintro e w6 ⟨rfl, N6⟩; obtain ⟨R7, S7⟩ := pl_step2 (Hid.out H6) N6; have H7 : Hid (∃ R', PlSt w w6 a F x R' n k L' L' (OneB ob) (OpBox ob o)) := ⟨R7, S7⟩; have v2 := OpBox.cells (PlSt.third S7); clear N6 S7)
              | (go_at_call 11; (with_reducible refine (cr _ _ (PlSt.ref (PlSt.drew (Hid.out H5)))).mono ?_); rintro e w5 ⟨rfl, N5⟩; obtain ⟨R6, S6⟩ := pl_step2 (PlSt.drew (Hid.out H5)) N5; have H6 : Hid (PlSt w w5 a F x R6 n k L L' (OneB ob) (OpBox ob o)) := S6; have v1 := OpBox.cells (PlSt.third S6); clear N5 S6)
              | (go_at_call 10; (with_reducible refine (cp _ (PlSt.lists (Hid.out H6))).mono ?_); rintro e w6 ⟨rfl, A6, T6⟩; have S7 := pl_step1 (Hid.out H6) A6 T6; have H7 : Hid (∃ R', PlSt w w6 a F x R' n k L' L' (OneB ob) (OpBox ob o)) := ⟨R6, S7⟩; have v2 := OpBox.cells (PlSt.third S7); clear A6 T6 S7))
          all_goals
            go_wp2
            go_meet
            exact ⟨L', H7⟩
        · by_cases q2 : o.kind = 2
          · have b1 : (o.kind == 1) = false := by simpa using q1
            have b2 : (o.kind == 2) = true := by simpa using q2
            obtain ⟨s, hs⟩ : ∃ s, putS n k L o.q o.i = s := ⟨_, rfl⟩
            obtain ⟨L', hL'⟩ : ∃ L', frontL n k L o.q o.i = L' := ⟨_, rfl⟩
            have cp : ∀ W', ListsAt W' a F n k L → Calls Try.prog 12 #[.pointer (some ⟨a, 0, none⟩), .int .i64 o.q, .int .i64 o.i] W' fun e w' => e = .returned (.int .i64 s) ∧ ListsAt w' a F n k L' ∧ Turn F W' w' := fun W' h => by rw [← hs, ← hL']; exact front_any W' a F n k L o.q o.i h
            have cr : ∀ W' R', RefAt W' x R' n k L → Calls Try.prog 13 #[.pointer (some ⟨x, 0, none⟩), .int .i64 o.q, .int .i64 o.i] W' fun e w' => e = .returned (.int .i64 s) ∧ RefNext W' x R' n k L' w' := fun W' R' h => by rw [← hs, ← hL']; exact rfront_any W' x R' n k L o.q o.i h hap (by omega) hn
            clear hs hL' q1 q2
            go_wp2_with fail
            go_region_held3 (fun w' => w'.cell? ⟨ob, 1, none⟩ = some (.int .i64 o.q) ∧ w'.cell? ⟨ob, 2, none⟩ = some (.int .i64 o.i)) (first | exact m12 | exact v1 | exact v2)
              (first
                | (go_at_call 12; (with_reducible refine (cp _ (PlSt.lists (PlSt.drew (Hid.out H5)))).mono ?_); rintro e w5 ⟨rfl, A5, T5⟩; have H6 : Hid (PlSt w w5 a F x R n k L' L (OneB ob) (OpBox ob o)) := pl_step1 (PlSt.drew (Hid.out H5)) A5 T5; have v1 := OpBox.cells (PlSt.third (Hid.out H6)); clear A5 T5)
                | (go_at_call 13; (with_reducible refine (cr _ _ (PlSt.ref (Hid.out H6))).mono ?_); rintro e w6 ⟨rfl, N6⟩; obtain ⟨R7, S7⟩ := pl_step2 (Hid.out H6) N6; have H7 : Hid (∃ R', PlSt w w6 a F x R' n k L' L' (OneB ob) (OpBox ob o)) := ⟨R7, S7⟩; have v2 := OpBox.cells (PlSt.third S7); clear N6 S7)
                | (go_at_call 13; (with_reducible refine (cr _ _ (PlSt.ref (PlSt.drew (Hid.out H5)))).mono ?_); rintro e w5 ⟨rfl, N5⟩; obtain ⟨R6, S6⟩ := pl_step2 (PlSt.drew (Hid.out H5)) N5; have H6 : Hid (PlSt w w5 a F x R6 n k L L' (OneB ob) (OpBox ob o)) := S6; have v1 := OpBox.cells (PlSt.third S6); clear N5 S6)
                | (go_at_call 12; (with_reducible refine (cp _ (PlSt.lists (Hid.out H6))).mono ?_); rintro e w6 ⟨rfl, A6, T6⟩; have S7 := pl_step1 (Hid.out H6) A6 T6; have H7 : Hid (∃ R', PlSt w w6 a F x R' n k L' L' (OneB ob) (OpBox ob o)) := ⟨R6, S7⟩; have v2 := OpBox.cells (PlSt.third S7); clear A6 T6 S7))
            all_goals
              go_wp2
              go_meet
              exact ⟨L', H7⟩
          · by_cases q3 : o.kind = 3
            · have b1 : (o.kind == 1) = false := by simpa using q1
              have b2 : (o.kind == 2) = false := by simpa using q2
              have b3 : (o.kind == 3) = true := by simpa using q3
              obtain ⟨s, hs⟩ : ∃ s, popS k L o.q = s := ⟨_, rfl⟩
              obtain ⟨y, hy⟩ : ∃ y, popI k L o.q = y := ⟨_, rfl⟩
              obtain ⟨L', hL'⟩ : ∃ L', popL k L o.q = L' := ⟨_, rfl⟩
              have cp : ∀ W', ListsAt W' a F n k L → Calls Try.prog 14 #[.pointer (some ⟨a, 0, none⟩), .int .i64 o.q] W' fun e w' => e = .returned (.tuple #[.int .i64 y, .int .i64 s]) ∧ ListsAt w' a F n k L' ∧ Turn F W' w' := fun W' h => by rw [← hs, ← hL', ← hy]; exact pop_any W' a F n k L o.q h
              have cr : ∀ W' R', RefAt W' x R' n k L → Calls Try.prog 15 #[.pointer (some ⟨x, 0, none⟩), .int .i64 o.q] W' fun e w' => e = .returned (.tuple #[.int .i64 y, .int .i64 s]) ∧ RefNext W' x R' n k L' w' := fun W' R' h => by rw [← hs, ← hL', ← hy]; exact rpop_any W' x R' n k L o.q h hap (by omega) hn
              clear hs hL' hy q1 q2 q3
              go_wp2_with (first
                | (go_at_call 14; (with_reducible refine (cp _ (PlSt.lists (Hid.out H5))).mono ?_); rintro e w5 ⟨rfl, A5, T5⟩; have H6 : Hid (PlSt w w5 a F x R n k L' L (OneB ob) (OpBox ob o)) := pl_step1 (Hid.out H5) A5 T5; have v1 := (OpBox.cells (PlSt.third (Hid.out H6))).1; clear A5 T5)
                | (go_at_call 15; (with_reducible refine (cr _ _ (PlSt.ref (Hid.out H6))).mono ?_); rintro e w6 ⟨rfl, N6⟩; have H7 : Hid (∃ R', PlSt w w6 a F x R' n k L' L' (OneB ob) (OpBox ob o)) := pl_step2 (Hid.out H6) N6; clear N6))
              go_meet
              exact ⟨L', H7⟩
            · by_cases q4 : o.kind = 4
              · have b1 : (o.kind == 1) = false := by simpa using q1
                have b2 : (o.kind == 2) = false := by simpa using q2
                have b3 : (o.kind == 3) = false := by simpa using q3
                have b4 : (o.kind == 4) = true := by simpa using q4
                obtain ⟨s, hs⟩ : ∃ s, remS n k L o.i = s := ⟨_, rfl⟩
                obtain ⟨L', hL'⟩ : ∃ L', remL n k L o.i = L' := ⟨_, rfl⟩
                have cp : ∀ W', ListsAt W' a F n k L → Calls Try.prog 16 #[.pointer (some ⟨a, 0, none⟩), .int .i64 o.i] W' fun e w' => e = .returned (.int .i64 s) ∧ ListsAt w' a F n k L' ∧ Turn F W' w' := fun W' h => by rw [← hs, ← hL']; exact remove_any W' a F n k L o.i h
                have cr : ∀ W' R', RefAt W' x R' n k L → Calls Try.prog 17 #[.pointer (some ⟨x, 0, none⟩), .int .i64 o.i] W' fun e w' => e = .returned (.int .i64 s) ∧ RefNext W' x R' n k L' w' := fun W' R' h => by rw [← hs, ← hL']; exact rremove_any W' x R' n k L o.i h hap (by omega) hn
                clear hs hL' q1 q2 q3 q4
                go_wp2_with fail
                go_region_held3 (fun w' => w'.cell? ⟨ob, 1, none⟩ = some (.int .i64 o.q) ∧ w'.cell? ⟨ob, 2, none⟩ = some (.int .i64 o.i)) (first | exact m12 | exact v1 | exact v2)
                  (first
                    | (go_at_call 16; (with_reducible refine (cp _ (PlSt.lists (PlSt.drew (Hid.out H5)))).mono ?_); rintro e w5 ⟨rfl, A5, T5⟩; have H6 : Hid (PlSt w w5 a F x R n k L' L (OneB ob) (OpBox ob o)) := pl_step1 (PlSt.drew (Hid.out H5)) A5 T5; have v1 := OpBox.cells (PlSt.third (Hid.out H6)); clear A5 T5)
                    | (go_at_call 17; (with_reducible refine (cr _ _ (PlSt.ref (Hid.out H6))).mono ?_); rintro e w6 ⟨rfl, N6⟩; obtain ⟨R7, S7⟩ := pl_step2 (Hid.out H6) N6; have H7 : Hid (∃ R', PlSt w w6 a F x R' n k L' L' (OneB ob) (OpBox ob o)) := ⟨R7, S7⟩; have v2 := OpBox.cells (PlSt.third S7); clear N6 S7)
                    | (go_at_call 17; (with_reducible refine (cr _ _ (PlSt.ref (PlSt.drew (Hid.out H5)))).mono ?_); rintro e w5 ⟨rfl, N5⟩; obtain ⟨R6, S6⟩ := pl_step2 (PlSt.drew (Hid.out H5)) N5; have H6 : Hid (PlSt w w5 a F x R6 n k L L' (OneB ob) (OpBox ob o)) := S6; have v1 := OpBox.cells (PlSt.third S6); clear N5 S6)
                    | (go_at_call 16; (with_reducible refine (cp _ (PlSt.lists (Hid.out H6))).mono ?_); rintro e w6 ⟨rfl, A6, T6⟩; have S7 := pl_step1 (Hid.out H6) A6 T6; have H7 : Hid (∃ R', PlSt w w6 a F x R' n k L' L' (OneB ob) (OpBox ob o)) := ⟨R6, S7⟩; have v2 := OpBox.cells (PlSt.third S7); clear A6 T6 S7))
                all_goals
                  go_wp2
                  go_meet
                  exact ⟨L', H7⟩
              · by_cases q5 : o.kind = 5
                · have b1 : (o.kind == 1) = false := by simpa using q1
                  have b2 : (o.kind == 2) = false := by simpa using q2
                  have b3 : (o.kind == 3) = false := by simpa using q3
                  have b4 : (o.kind == 4) = false := by simpa using q4
                  have b5 : (o.kind == 5) = true := by simpa using q5
                  obtain ⟨s, hs⟩ : ∃ s, splS k o.q o.i = s := ⟨_, rfl⟩
                  obtain ⟨L', hL'⟩ : ∃ L', splL k L o.q o.i = L' := ⟨_, rfl⟩
                  have cp : ∀ W', ListsAt W' a F n k L → Calls Try.prog 18 #[.pointer (some ⟨a, 0, none⟩), .int .i64 o.q, .int .i64 o.i] W' fun e w' => e = .returned (.int .i64 s) ∧ ListsAt w' a F n k L' ∧ Turn F W' w' := fun W' h => by rw [← hs, ← hL']; exact splice_any W' a F n k L o.q o.i h
                  have cr : ∀ W' R', RefAt W' x R' n k L → Calls Try.prog 19 #[.pointer (some ⟨x, 0, none⟩), .int .i64 o.q, .int .i64 o.i] W' fun e w' => e = .returned (.int .i64 s) ∧ RefNext W' x R' n k L' w' := fun W' R' h => by rw [← hs, ← hL']; exact rsplice_any W' x R' n k L o.q o.i h hap hn
                  clear hs hL' q1 q2 q3 q4 q5
                  go_wp2_with fail
                  go_region_held3 (fun w' => w'.cell? ⟨ob, 1, none⟩ = some (.int .i64 o.q) ∧ w'.cell? ⟨ob, 2, none⟩ = some (.int .i64 o.i)) (first | exact m12 | exact v1 | exact v2)
                    (first
                      | (go_at_call 18; (with_reducible refine (cp _ (PlSt.lists (PlSt.drew (Hid.out H5)))).mono ?_); rintro e w5 ⟨rfl, A5, T5⟩; have H6 : Hid (PlSt w w5 a F x R n k L' L (OneB ob) (OpBox ob o)) := pl_step1 (PlSt.drew (Hid.out H5)) A5 T5; have v1 := OpBox.cells (PlSt.third (Hid.out H6)); clear A5 T5)
                      | (go_at_call 19; (with_reducible refine (cr _ _ (PlSt.ref (Hid.out H6))).mono ?_); rintro e w6 ⟨rfl, N6⟩; obtain ⟨R7, S7⟩ := pl_step2 (Hid.out H6) N6; have H7 : Hid (∃ R', PlSt w w6 a F x R' n k L' L' (OneB ob) (OpBox ob o)) := ⟨R7, S7⟩; have v2 := OpBox.cells (PlSt.third S7); clear N6 S7)
                      | (go_at_call 19; (with_reducible refine (cr _ _ (PlSt.ref (PlSt.drew (Hid.out H5)))).mono ?_); rintro e w5 ⟨rfl, N5⟩; obtain ⟨R6, S6⟩ := pl_step2 (PlSt.drew (Hid.out H5)) N5; have H6 : Hid (PlSt w w5 a F x R6 n k L L' (OneB ob) (OpBox ob o)) := S6; have v1 := OpBox.cells (PlSt.third S6); clear N5 S6)
                      | (go_at_call 18; (with_reducible refine (cp _ (PlSt.lists (Hid.out H6))).mono ?_); rintro e w6 ⟨rfl, A6, T6⟩; have S7 := pl_step1 (Hid.out H6) A6 T6; have H7 : Hid (∃ R', PlSt w w6 a F x R' n k L' L' (OneB ob) (OpBox ob o)) := ⟨R6, S7⟩; have v2 := OpBox.cells (PlSt.third S7); clear A6 T6 S7))
                  all_goals
                    go_wp2
                    go_meet
                    exact ⟨L', H7⟩
                · have b1 : (o.kind == 1) = false := by simpa using q1
                  have b2 : (o.kind == 2) = false := by simpa using q2
                  have b3 : (o.kind == 3) = false := by simpa using q3
                  have b4 : (o.kind == 4) = false := by simpa using q4
                  have b5 : (o.kind == 5) = false := by simpa using q5
                  clear q1 q2 q3 q4 q5
                  go_wp2_with fail
                  go_meet
                  exact ⟨L, R, H5.out⟩
      case rest =>
        clear H5 m12 m1 m2 hap
        obtain ⟨L', HH⟩ := hcut
        obtain ⟨R', S6⟩ := HH.out
        have H6 : Hid (PlSt w wc a F x R' n k L' L' (OneB ob) (OpBox ob o)) := S6
        have m2 := (OpBox.cells (PlSt.third S6)).2
        obtain ⟨qb, vs, hm, hR⟩ := PlSt.ref S6
        have ap := PlSt.apart S6
        have mQ := hm.c0
        clear HH S6
        have hk16 : k ≤ 65536 := by omega
        obtain ⟨z, hz⟩ : ∃ z, whereAt n k L' o.i = z := ⟨_, rfl⟩
        have cw : ∀ W, ListsAt W a F n k L' → Calls Try.prog 21 #[.pointer (some ⟨a, 0, none⟩), .int .i64 o.i] W fun e w' => e = .returned (.int .i64 z) ∧ W = w' := fun W h => by rw [← hz]; exact where_any W a F n k L' o.i h
        have HM : Hid (RefMem wc x qb n k vs L') := hm
        have H7 : Hid (PlSt w wc a F x R' n k L' L' (OneB ob) (OpBox ob o) ∧ RefMem wc x qb n k vs L') := ⟨H6.out, hm⟩
        have hgo : (inQ n o.i ∧ 0 ≤ o.i ∧ o.i < n ∧ Calls Try.prog 20 #[.pointer (some ⟨x, 0, none⟩), .int .i64 o.i] wc fun e w' => e = .returned (.int .i64 z) ∧ wc = w') ∨ (o.i < 0 ∧ z = -1) ∨ (0 ≤ o.i ∧ (n : Int) ≤ o.i ∧ z = -1) := by
          by_cases hin : inQ n o.i
          · obtain ⟨b, hb, hbn⟩ := inQ_nat hin
            refine .inl ⟨hin, hin.1, hin.2, ?_⟩
            rw [← hz, hb, where_eq hbn]
            exact rwhere_any wc x qb n k vs L' b hm ap hk16 hn
          · have h1 := where_oob (k := k) (L := L') hin
            rw [hz] at h1
            rcases inQ_not hin with h2 | h2
            · exact .inr (.inl ⟨h2, h1⟩)
            · by_cases h3 : o.i < 0
              · exact .inr (.inl ⟨h3, h1⟩)
              · exact .inr (.inr ⟨by omega, h2, h1⟩)
        clear hm hz HM H6
        rcases hgo with ⟨-, g1, g2, cr⟩ | ⟨g1, rfl⟩ | ⟨g1, g2, rfl⟩
        all_goals
          go_wp2_with (first
            | (go_at_call 20; (with_reducible refine cr.mono ?_); rintro e w8 ⟨rfl, rfl⟩)
            | (go_at_call 21; (with_reducible refine (cw _ (PlSt.lists (Hid.out H7).1)).mono ?_); rintro e w9 ⟨rfl, rfl⟩))
          go_loopg [174] k (fun g c wy => ∃ q : Nat, q ≤ k ∧ g = k - q ∧ c = .int .i64 q ∧ Hid (PlSt w wy a F x R' n k L' L' (OneB ob) (OpBox ob o) ∧ RefMem wy x qb n k vs L'))
          case atStart => exact ⟨0, by omega, by omega, rfl, H7⟩
          case round =>
            clear H7
            obtain ⟨q, hq, hgk2, rfl, H8⟩ := hrel
            by_cases hlt2 : q < k
            · obtain ⟨pr, cc, -, kv, hI⟩ := ref_row H8.out.2 hlt2
              obtain ⟨l, hl⟩ : ∃ l, L' q = l := ⟨_, rfl⟩
              obtain ⟨m, hm⟩ : ∃ m, l.length = m := ⟨_, rfl⟩
              have hli : listOf k L' q = l := by unfold listOf; rw [if_pos (inQ_cast hlt2), Int.toNat_natCast, hl]
              have hm16 : m ≤ 65536 := by
                have := nodup_len n (L' q) (ap.nodup q hlt2) (fun y hy => ap.lt q y hlt2 hy)
                rw [hl, hm] at this
                omega
              rw [hl] at kv hI
              rw [hm] at kv hI
              have HI : Hid (Ints (.slice pr m cc) (castL l) wr) := hI
              have cn : ∀ W, ListsAt W a F n k L' → Calls Try.prog 22 #[.pointer (some ⟨a, 0, none⟩), .int .i64 q] W fun e w' => e = .returned (.int .i64 m) ∧ W = w' := fun W h => by
                have := len_any W a F n k L' q h
                rw [hli, hm] at this
                exact this
              have cl : ∀ W, ListsAt W a F n k L' → Calls Try.prog 25 #[.pointer (some ⟨a, 0, none⟩), .int .i64 q] W fun e w' => ∃ v, e = .returned v ∧ Ints v (castL l) w' ∧ (∀ j, Blk v j → W.heap.size ≤ j) ∧ Turn NoBlock W w' := fun W h => by
                have := list_any W a F n k L' q h
                rw [hli] at this
                exact this
              have ce : ∀ W v u, Ints v (castL l) W → Ints u (castL l) W → Calls Try.prog 24 #[v, u] W fun e w' => e = .returned (.bool true) ∧ ∃ d, w' = W.drewN d := fun W v u ha hb => ints_same W v u _ ha hb (by rw [castL_len]; omega)
              have hcs : (m = 0 ∧ firstOf k L' q = -1) ∨ (∃ g y, 0 < m ∧ pr = some ⟨g, 0, none⟩ ∧ m ≤ cc ∧ cc ≤ 9223372036854775807 ∧ wr.cell? ⟨g, 0, none⟩ = some (.int .i64 y) ∧ firstOf k L' q = y) := by
                unfold firstOf
                rw [hli]
                cases l with
                | nil => exact .inl ⟨by simpa using hm.symm, rfl⟩
                | cons y l' =>
                  have hm0 : 0 < m := by simp at hm; omega
                  obtain ⟨g, c1, he, hcc, hcc'⟩ := ints_shape hI (by rw [castL_len, hm]; omega)
                  simp only [Value.slice.injEq] at he
                  obtain ⟨rfl, -, rfl⟩ := he
                  rw [castL_len, hm] at hcc
                  have k1 := ints_cell hI 0 (by rw [castL_len, hm]; omega)
                  rw [castL_getD] at k1
                  exact .inr ⟨g, y, hm0, rfl, hcc, hcc', k1, rfl⟩
              obtain ⟨z1, hz1⟩ : ∃ z1, firstOf k L' q = z1 := ⟨_, rfl⟩
              have cf : ∀ W, ListsAt W a F n k L' → Calls Try.prog 23 #[.pointer (some ⟨a, 0, none⟩), .int .i64 q] W fun e w' => e = .returned (.int .i64 z1) ∧ ∃ d, w' = W.drewN d := fun W h => by
                have := first_any W a F n k L' q h
                rw [hz1] at this
                exact this
              rw [hz1] at hcs
              clear hl hm hli hz1 hI
              rcases hcs with ⟨rfl, rfl⟩ | ⟨g, y, hm0, rfl, hcc, hcc', k1, rfl⟩
              all_goals
                go_wp2_with (first
                  | (go_at_call 22; (with_reducible refine (cn _ (PlSt.lists (Hid.out H8).1)).mono ?_); rintro e w9 ⟨rfl, rfl⟩)
                  | (go_at_call 23; (with_reducible refine (cf _ (PlSt.lists (Hid.out H8).1)).mono ?_); rintro e w10 ⟨rfl, d, rfl⟩)
                  | (go_at_call 25; (with_reducible refine (cl _ (PlSt.lists (PlSt.past (Hid.out H8).1 ((Turn.refl _ _).drewN _)))).mono ?_); rintro e w11 ⟨v5, rfl, I5, -, T5⟩; have T6 := ((Turn.refl NoBlock _).drewN _).then T5; have H9 : Hid (PlSt w w11 a F x R' n k L' L' (OneB ob) (OpBox ob o) ∧ RefMem w11 x qb n k vs L') := ⟨PlSt.past (Hid.out H8).1 T6, RefMem.past (Hid.out H8).2 T6⟩; have I9 := (show Hid (_ ∧ _) from And.intro I5 (Ints.past (Hid.out HI) T6)); clear I5 T5 T6)
                  | (go_at_call 24; (with_reducible refine (ce _ _ _ (Hid.out I9).1 (Hid.out I9).2).mono ?_); rintro e w12 ⟨rfl, d2, rfl⟩))
                go_roundg (k - (q + 1))
                case measure => omega
                case rel => exact ⟨q + 1, by omega, by omega, by go_num, PlSt.past H9.out.1 ((Turn.refl _ _).drewN _), RefMem.past H9.out.2 ((Turn.refl _ _).drewN _)⟩
            · obtain rfl : q = k := by omega
              go_wp2_with fail
              go_roundg (len - (j + 1))
              case measure => omega
              case rel => exact ⟨j + 1, L', by omega, by omega, by go_num, R', pl_nobox H8.out.1⟩
    · obtain rfl : j = len := by omega
      have hno : ∀ q : Int, (q < 0 ∨ (k : Int) ≤ q) → listOf k L q = [] := fun q h => if_neg (by unfold inQ; omega)
      have cf : ∀ W, ListsAt W a F n k L → Calls Try.prog 23 #[.pointer (some ⟨a, 0, none⟩), .int .i64 k] W fun e w' => e = .returned (.int .i64 (-1)) ∧ ∃ d, w' = W.drewN d := fun W h => by
        have := first_any W a F n k L k h
        unfold firstOf at this
        rw [hno k (by omega)] at this
        exact this
      have cn : ∀ W, ListsAt W a F n k L → Calls Try.prog 22 #[.pointer (some ⟨a, 0, none⟩), .int .i64 (-1)] W fun e w' => e = .returned (.int .i64 0) ∧ W = w' := fun W h => by
        have := len_any W a F n k L (-1) h
        rw [hno (-1) (by omega)] at this
        exact this
      have cl : ∀ W, ListsAt W a F n k L → Calls Try.prog 25 #[.pointer (some ⟨a, 0, none⟩), .int .i64 k] W fun e w' => ∃ pv cv, e = .returned (.slice pv 0 cv) ∧ Turn NoBlock W w' := fun W h => by
        refine (list_any W a F n k L k h).mono ?_
        rintro e w' ⟨v, rfl, h1, -, h3⟩
        rw [hno k (by omega)] at h1
        obtain ⟨pv, cv, hv⟩ := ints_slice h1
        exact ⟨pv, cv, by rw [hv]; rfl, h3⟩
      have cw : ∀ W, ListsAt W a F n k L → Calls Try.prog 21 #[.pointer (some ⟨a, 0, none⟩), .int .i64 n] W fun e w' => e = .returned (.int .i64 (-1)) ∧ W = w' := fun W h => by
        have := where_any W a F n k L n h
        rw [where_oob (by unfold inQ; omega)] at this
        exact this
      obtain ⟨R, S4⟩ := SS.out
      have H4 : Hid (PlSt w wr a F x R n k L L NoBlock Nothing) := S4
      clear hno S4 SS
      go_wp2_with (first
        | (go_at_call 23; (with_reducible refine (cf _ (PlSt.lists (Hid.out H4))).mono ?_); rintro e w10 ⟨rfl, d, rfl⟩)
        | (go_at_call 22; (with_reducible refine (cn _ (PlSt.lists (PlSt.past (Hid.out H4) ((Turn.refl _ _).drewN _)))).mono ?_); rintro e w9 ⟨rfl, rfl⟩)
        | (go_at_call 25; (with_reducible refine (cl _ (PlSt.lists (PlSt.past (Hid.out H4) ((Turn.refl _ _).drewN _)))).mono ?_); rintro e w11 ⟨pv, cv, rfl, T5⟩; have H5 : Hid (PlSt w w11 a F x R n k L L NoBlock Nothing) := PlSt.past (PlSt.past (Hid.out H4) ((Turn.refl _ _).drewN _)) T5; clear T5)
        | (go_at_call 21; (with_reducible refine (cw _ (PlSt.lists (Hid.out H5))).mono ?_); rintro e w12 ⟨rfl, rfl⟩)
        | (go_at_call 9; (with_reducible refine (c9 _).mono ?_); rintro e w13 ⟨rfl, T13⟩; have T13' : Hid (Turn NoBlock w w13) := (PlSt.turn (Hid.out H5)).trans T13 (fun _ h => .inl h); clear T13))
      go_ret
      exact ⟨rfl, T13'.out⟩

end Go.Proofs.Ytpfoleaampcibaa
