/-
  The statement HandlesReduced answers true at every script and all rights.
-/
import Derived.Test.YtkligmabgmjojaaHInv
import Derived.Test.YtkligmabgmjojaaHOps
import Derived.Test.YtkligmabgmjojaaHAwake
import Derived.Deep.RegionHeld3
import Derived.Deep.LoopGhost
namespace Go.Proofs.Ytkligmabgmjojaa
open Go.ChangeShapes Go.WideShapes Go.ChangeAt Go.RowKit

theorem new_at (n : Nat) (W : World) (b : Nat) (hb : W.heap.size = b) (h' : n ≤ 65536) :
    Calls Try.prog 9 #[.int .i64 n] W fun e w' => e = .returned (.pointer (some ⟨b, 0, none⟩)) ∧ ∃ F, TableAt w' b F (List.replicate n Pl.none) ∧ Turn NoBlock W w' ∧ ∀ k, F k → b ≤ k := by
  subst hb; exact new_yes n W h'

/-- The law's table, in the world wr behind w. -/
structure RSt (w wr : World) (F : Nat → Prop) (L : List Pl) : Prop where
  tab : TableAt wr w.heap.size F L
  turn : Turn NoBlock w wr
  low : ∀ j, F j → w.heap.size ≤ j
theorem RSt.past {w wr w' : World} {F : Nat → Prop} {L : List Pl} (h : RSt w wr F L) (t : Turn NoBlock wr w') : RSt w w' F L := ⟨h.tab.past t, h.turn.trans t (fun _ h => .inl h), h.low⟩
theorem RSt.step {w wr w' : World} {F F' : Nat → Prop} {L L' : List Pl} (h : RSt w wr F L) (t : Turn F wr w') (h' : TableAt w' w.heap.size F' L') (l : ∀ j, F' j → F j ∨ wr.heap.size ≤ j) : RSt w w' F' L' := by
  have hs := h.turn.size
  refine ⟨h', h.turn.trans t (fun j hj => .inr (h.low j hj)), fun j hj => ?_⟩
  rcases l j hj with h1 | h1
  · exact h.low j h1
  · omega
theorem RSt.cell {w wr w' : World} {F : Nat → Prop} {L : List Pl} (_ : RSt w wr F L) (t : Turn F wr w') {p : Addr} {v : Value} (hc : wr.cell? p = some v) (hp : ¬ F p.block) : w'.cell? p = some v := t.cell hc hp

section
variable {w : World} {a : Nat} {F : Nat → Prop}
theorem rd_add (f1 : Int) (hf : fit f1) (h : TableAt w a F (List.replicate 20 Pl.none)) :
    Calls Try.prog 22 #[.pointer (some ⟨a, 0, none⟩), .agg #[.int .i64 1, .int .i64 7, .int .i64 f1], .int .i64 5] w fun x w' => x = .returned (.tuple #[.int .i64 (valS 0 5), .int .i64 0]) ∧
      ∃ F' L, InvR f1 L ∧ TableAt w' a F' L ∧ Turn F w w' ∧ ∀ j, F' j → F j ∨ w.heap.size ≤ j := by
  have hc := add_any h ⟨1, 7, f1⟩ 5
  have hr := rng_add (cap := 20) (n := 0) (f := fun j => ⟨valS j 5, 1, 7, f1⟩) (e := ⟨1, 7, f1⟩) (d := 5) (fun j => by have := valS_pos j 5; show valS j 5 ≠ 0; omega) (by omega)
  rw [rng_zero] at hr
  obtain ⟨-, e2, e3⟩ := hr (by simp only)
  have hI : InvR f1 (addL (List.replicate 20 Pl.none) ⟨1, 7, f1⟩ 5) := InvR.add (fun k p hk => .inl (List.mem_replicate.1 (List.mem_of_getElem? hk)).2) 5 ⟨rfl, rfl, hf, hasB_refl f1 hf⟩
  rw [e2, e3] at hc
  generalize addL (List.replicate 20 Pl.none) ⟨1, 7, f1⟩ 5 = L1 at *
  generalize valS 0 5 = V at *
  refine hc.mono ?_
  rintro x w' ⟨rfl, F', h1, h2, h3⟩
  exact ⟨rfl, F', L1, hI, h1, h2, h3⟩
end

set_option maxRecDepth 20000 in
set_option maxHeartbeats 2000000 in
theorem reduced_past (p : Option Addr) (len cap : Nat) (first : Int) (hl : 100 < len) (w : World) :
    Calls Try.prog 5 #[.slice p len cap, .int .i64 first] w fun e w' => e = .returned (.bool true) ∧ Turn NoBlock w w' := by
  have c1 : Calls Try.prog 9 #[.int .i64 20] w _ := new_at 20 w _ rfl (by omega)
  have cA := Lib.hid (fun w' => @awake_b w w')
  go_enter Try.func5, Try.ntmps5
  go_wp2_with (first
    | (go_at_call 9; (with_reducible refine c1.mono ?_); rintro x w1 ⟨rfl, F1, h1, t1, l1⟩; have K1 := Lib.hid t1; clear h1 t1 l1)
    | (go_at_call 10; (with_reducible refine (cA.out _ K1.out).mono ?_); rintro x w5 ⟨rfl, t8⟩))
  go_ret
  exact ⟨rfl, t8⟩

set_option maxRecDepth 20000 in
set_option maxHeartbeats 8000000 in
theorem reduced_walk (os : Nat → OpV) (p : Option Addr) (len cap : Nat) (first : Int) (hl : len ≤ 100) (hf : fit first) (w : World) (hos : OpsAt w p len os) (hok : OpsOK w len os) :
    Calls Try.prog 5 #[.slice p len cap, .int .i64 first] w fun e w' => e = .returned (.bool true) ∧ Turn NoBlock w w' := by
  have c1 : Calls Try.prog 9 #[.int .i64 20] w _ := new_at 20 w _ rfl (by omega)
  have cA := Lib.hid (fun w' => @awake_b w w')
  have HOS := Lib.hid hos
  have HOK := Lib.hid hok
  have HFI := Lib.hid hf
  have c2 := Lib.hid (fun (W : World) (F : Nat → Prop) => @rd_add W w.heap.size F first hf)
  generalize valS 0 5 = V0 at *
  clear hos hok hf
  go_enter Try.func5, Try.ntmps5
  go_wp2_with (first
    | (go_at_call 9; (with_reducible refine c1.mono ?_); rintro x w1 ⟨rfl, F1, h1, t1, l1⟩; have K1 := Lib.hid (RSt.mk h1 t1 l1); clear h1 t1 l1)
    | (go_at_call 22; (with_reducible refine (c2.out _ _ K1.out.tab).mono ?_); rintro x w2 ⟨rfl, F2, L2, i2, h2, t2, l2⟩; have K2 := Lib.hid (And.intro i2 (RSt.step K1.out t2 h2 l2)); clear i2 h2 t2 l2))
  clear c1 c2 K1
  go_loopg [41] len (fun g s wr => ∃ (i : Nat) (F : Nat → Prop) (L : List Pl), g = len - i ∧ i ≤ len ∧ s = .int .i64 i ∧ Hid (InvR first L ∧ RSt w wr F L))
  case atStart => exact ⟨0, F2, L2, by omega, by omega, rfl, K2.out⟩
  case round =>
    obtain ⟨i, F, L, hg, hi, rfl, HR⟩ := hrel
    by_cases hlt : i < len
    · obtain ⟨b, off, rfl, hcells⟩ := HOS.out (by omega)
      have hbc : ∀ j, j < 10 → wr.cell? ⟨b, off + i * 10 + j, none⟩ = (os i).cells[j]? := fun j hj => by
        have h1 := hcells i hlt j hj
        rw [← h1]
        exact (HR.out.2.turn.cell (v := ((os i).cells[j]?).getD undef) (by rw [h1, List.getElem?_eq_getElem (by simpa [OpV.cells] using hj)]; rfl) (fun h => h)).trans (by rw [h1, List.getElem?_eq_getElem (by simpa [OpV.cells] using hj)]; rfl)
      obtain ⟨fo, -⟩ := HOK.out i hlt
      have k0 := hbc 0 (by omega)
      have k1 := hbc 1 (by omega)
      have k2 := hbc 2 (by omega)
      have k3 := hbc 3 (by omega)
      have k4 := hbc 4 (by omega)
      have k5 := hbc 5 (by omega)
      have k6 := hbc 6 (by omega)
      have k7 := hbc 7 (by omega)
      have k8 := hbc 8 (by omega)
      have k9 := hbc 9 (by omega)
      simp only [OpV.cells, List.getElem?_cons_zero, List.getElem?_cons_succ, Nat.add_zero] at k0 k1 k2 k3 k4 k5 k6 k7 k8 k9
      have HFO := Lib.hid fo
      generalize os i = o at *
      obtain ⟨n, hn⟩ : ∃ n, (takenL L).length = n := ⟨_, rfl⟩
      have HN := Lib.hid hn
      have HF1 := Lib.hid (fun j (hj : F j) => HR.out.2.tab.lt hj)
      -- what Values leaves
      have HV : Hid (∀ W, W = wr.alloc (.cells #[.int .i64 o.kind, .int .i64 o.v, .int .i64 o.nth, .int .i64 o.n, .int .i64 o.want, .int .i64 o.draw, .int .i64 o.e.o, .int .i64 o.e.k, .int .i64 o.e.r, .slice o.lp o.ll o.lc] 35) → Calls Try.prog 14 #[.pointer (some ⟨w.heap.size, 0, none⟩)] W fun e w3 => ∃ pv cv, e = .returned (.slice pv n cv) ∧ RSt w w3 F L ∧
          w3.heap[wr.heap.size]? = some (.cells #[.int .i64 o.kind, .int .i64 o.v, .int .i64 o.nth, .int .i64 o.n, .int .i64 o.want, .int .i64 o.draw, .int .i64 o.e.o, .int .i64 o.e.k, .int .i64 o.e.r, .slice o.lp o.ll o.lc] 35 (0, 0)) ∧
          ∀ j, j < n → ∃ g, pv = some ⟨g, 0, none⟩ ∧ n ≤ cv ∧ cv ≤ 9223372036854775807 ∧ wr.heap.size < g ∧ ∃ q, q ∈ takenL L ∧ w3.cell? ⟨g, j, none⟩ = some (.int .i64 q.value)) := by
        rintro W rfl
        refine (values_any (HR.out.2.tab.past ((Turn.refl NoBlock _).alloc _))).mono ?_
        rintro e w3 ⟨v, rfl, O3, B3⟩
        have t3 := turn_of_below B3
        obtain ⟨pv, cv, rfl⟩ := own_slice (own_base O3)
        rw [hn] at O3 ⊢
        refine ⟨pv, cv, rfl, HR.out.2.past (((Turn.refl NoBlock wr).alloc _).trans t3 (fun _ h => .inl h)), t3.heap (heap_alloc_new wr _) (fun h => h), fun j hj => ?_⟩
        obtain ⟨g, c', he, h1, h2⟩ := own_shape (own_base O3) (by omega)
        simp only [Value.slice.injEq] at he
        obtain ⟨rfl, -, rfl⟩ := he
        have hbase : (wr.alloc (.cells #[.int .i64 o.kind, .int .i64 o.v, .int .i64 o.nth, .int .i64 o.n, .int .i64 o.want, .int .i64 o.draw, .int .i64 o.e.o, .int .i64 o.e.k, .int .i64 o.e.r, .slice o.lp o.ll o.lc] 35)).heap.size ≤ g := by
          rcases O3.2 with ⟨h', _⟩ | ⟨g', cap', cur, h', hb, _⟩
          · simp at h'
          · simp only [Value.slice.injEq, Option.some.injEq, Addr.mk.injEq] at h'
            rw [h'.1.1]; exact hb
        rw [World.size_alloc] at hbase
        have hj' : j < (takenL L).length := by rw [hn]; exact hj
        refine ⟨g, rfl, h1, h2, by omega, (takenL L)[j], List.getElem_mem hj', ?_⟩
        have hlv : (valsOf (takenL L)).length = n := by simp [valsOf, hn]
        have hc := (own_base O3).cellAt j (by omega)
        rw [hc]
        simp [valsOf, hj']
      have HD : Hid (∀ q, q ∈ takenL L → ∃ V s L', Made first q.e.r L' V s ∧ (s = 0 → hasB q.e.r 1 = true) ∧ ∀ W, TableAt W w.heap.size F L → Calls Try.prog 24 #[.pointer (some ⟨w.heap.size, 0, none⟩), .int .i64 q.value, .int .i64 o.want, .int .i64 o.draw] W fun e w' => e = .returned (.tuple #[.int .i64 V, .int .i64 s]) ∧
          ∃ F', TableAt w' w.heap.size F' L' ∧ Turn F W w' ∧ ∀ j, F' j → F j ∨ W.heap.size ≤ j) := fun q hq => by
        obtain ⟨h1, h2⟩ := dup_made HR.out.2.tab HR.out.1 hq o.want o.draw HFO.out.want
        obtain ⟨_, _, _, _, _, _, qf, _⟩ := told_found HR.out.2.tab hq
        exact ⟨_, _, _, h1, h2, fun W hW => dup_any hW q.value o.want o.draw qf⟩
      have HP : Hid (∀ q, q ∈ takenL L → ∃ V e s L', Made first q.e.r L' V s ∧ ∀ W, TableAt W w.heap.size F L → Calls Try.prog 26 #[.pointer (some ⟨w.heap.size, 0, none⟩), .int .i64 q.value, .int .i64 o.want, .int .i64 o.draw] W fun x w' => x = .returned (.tuple #[.int .i64 V, Ent.agg e, .int .i64 s]) ∧
          ∃ F', TableAt w' w.heap.size F' L' ∧ Turn F W w' ∧ ∀ j, F' j → F j ∨ W.heap.size ≤ j) := fun q hq => by
        have h1 := rep_made HR.out.2.tab HR.out.1 hq o.want o.draw HFO.out.want
        obtain ⟨_, _, _, _, _, _, qf, _⟩ := told_found HR.out.2.tab hq
        exact ⟨_, _, _, _, h1, fun W hW => rep_any hW q.value o.want o.draw qf⟩
      clear hcells hbc fo hn
      by_cases hnth : 0 ≤ o.nth ∧ o.nth < n
      · obtain ⟨j, hnj⟩ : ∃ j : Nat, o.nth = j := ⟨o.nth.toNat, by omega⟩
        have hjn : j < n := by omega
        rw [hnj] at k2 HV
        clear hnth hnj
        by_cases hk7 : o.kind = 7
        · rw [hk7] at k0 HV
          go_wp2_with (first
            | (go_at_call 14; (with_reducible refine (HV.out _ rfl).mono ?_); rintro x w3 ⟨pv, cv, rfl, H3, b3, hj3⟩; obtain ⟨g, rfl, g1, g2, g3, q, hq, cq⟩ := hj3 j hjn; have m0 := cell_at b3 0; have m2 := cell_at b3 2; have m4 := cell_at b3 4; have m5 := cell_at b3 5; simp at m0 m2 m4 m5; have q3 := lt_of_block b3; obtain ⟨kq, -, -, -, qE, qS, qf, q9⟩ := told_found H3.tab hq; have cG := get_any H3.tab q.value qf; rw [qE, qS] at cG; unfold Ent.agg at cG; have K3 := Lib.hid (And.intro H3 (And.intro b3 hq)); clear H3 b3 hj3 hq qE qS)
            | (go_at_call 23; (with_reducible refine cG.mono ?_); rintro x w4 ⟨rfl, t4⟩; have b4 := t4.heap K3.out.2.1 (fun h => h); have n0 := cell_at b4 0; have n2 := cell_at b4 2; have n4 := cell_at b4 4; have n5 := cell_at b4 5; simp at n0 n2 n4 n5; have cq4 := t4.cell cq (fun h => h); have q6 := World.block_lt_of_cell? _ _ cq4; have q4 := lt_of_block b4; have K4 := Lib.hid (And.intro (K3.out.1.past t4) (And.intro b4 K3.out.2.2)); clear t4 b4 cG))
          obtain ⟨V5, s5, L5, M5, x5, cD⟩ := HD.out q K4.out.2.2
          have MM := Lib.hid M5
          have aE : ∀ (p : Addr), p.block < w4.heap.size → (w4.alloc (.cells #[.int .i64 q.e.o, .int .i64 q.e.k, .int .i64 q.e.r] 33)).drew.cell? p = w4.cell? p := fun p hp => World.cell?_of_block (Below.heap_alloc _ _ _ hp)
          have n2a := (aE ⟨wr.heap.size, 2, none⟩ q4).trans n2
          have n4a := (aE ⟨wr.heap.size, 4, none⟩ q4).trans n4
          have n5a := (aE ⟨wr.heap.size, 5, none⟩ q4).trans n5
          have cq5 := (aE ⟨g, j, none⟩ q6).trans cq4
          have S0 := And.intro n2a (And.intro n4a (And.intro n5a cq5))
          clear aE
          have X5 := Lib.hid x5
          by_cases hs5 : s5 = 0
          · subst hs5
            obtain ⟨R, r1, r2, r3, r4, r5⟩ := M5.good rfl
            have x6 := x5 rfl
            clear M5 x5
            go_region_held3 (fun w' => w'.cell? ⟨wr.heap.size, 2, none⟩ = some (.int .i64 j) ∧ w'.cell? ⟨wr.heap.size, 4, none⟩ = some (.int .i64 o.want) ∧ w'.cell? ⟨wr.heap.size, 5, none⟩ = some (.int .i64 o.draw) ∧ w'.cell? ⟨g, j, none⟩ = some (.int .i64 q.value)) (first | exact S0 | exact S6)
              (first | (go_at_call 24; (with_reducible refine (cD _ (K4.out.1.tab.past (((Turn.refl NoBlock _).alloc _).drew))).mono ?_); rintro x w6 ⟨rfl, F6, h6, t6, l6⟩; have b6 := t6.heap (a := w4.heap.size) (heap_alloc_new w4 _) (fun hj => by have := K4.out.1.tab.lt hj; omega); have y2 := cell_at b6 2; simp at y2; have y9 := lt_of_block b6; have S6 : _ ∧ _ ∧ _ ∧ _ := ⟨t6.cell (v := .int .i64 j) n2a (fun hj => by have := HF1.out _ hj; simp at this), t6.cell (v := .int .i64 o.want) n4a (fun hj => by have := HF1.out _ hj; simp at this), t6.cell (v := .int .i64 o.draw) n5a (fun hj => by have := HF1.out _ hj; simp at this), t6.cell (v := .int .i64 q.value) cq5 (fun hj => by have := HF1.out _ hj; simp at this; omega)⟩; have K6 := Lib.hid (RSt.step (K4.out.1.past (((Turn.refl NoBlock _).alloc _).drew)) t6 h6 l6); clear h6 t6 l6 b6))
            have cG2 := get_any K6.out.tab V5 r3
            rw [r1, r2] at cG2
            unfold Ent.agg at cG2
            clear r1 r2 r3
            go_wp2_with (first
              | (go_at_call 23; (with_reducible refine cG2.mono ?_); rintro x w7 ⟨rfl, t7⟩; have z2 := t7.cell y2 (fun h => h); have z9 := World.block_lt_of_cell? _ _ z2; simp only at z9; have K7 := Lib.hid (K6.out.past t7); clear t7 cG2)
              | (go_at_call 25; (with_reducible refine (has_any _ _ _).mono ?_); rintro x w8 ⟨rfl, rfl⟩))
            go_roundg (len - (i + 1))
            case measure => omega
            case rel => exact ⟨i + 1, F6, L5, rfl, by omega, by go_num, MM.out.inv, K7.out.past ((Turn.refl NoBlock _).alloc _)⟩
          · have hb5 : (s5 != 0) = true := by simp [hs5]
            have hb6 : (s5 == 0) = false := by simp [hs5]
            clear M5 x5 hs5
            go_region_held3 (fun w' => w'.cell? ⟨wr.heap.size, 2, none⟩ = some (.int .i64 j) ∧ w'.cell? ⟨wr.heap.size, 4, none⟩ = some (.int .i64 o.want) ∧ w'.cell? ⟨wr.heap.size, 5, none⟩ = some (.int .i64 o.draw) ∧ w'.cell? ⟨g, j, none⟩ = some (.int .i64 q.value)) (first | exact S0 | exact S6)
              (first | (go_at_call 24; (with_reducible refine (cD _ (K4.out.1.tab.past (((Turn.refl NoBlock _).alloc _).drew))).mono ?_); rintro x w6 ⟨rfl, F6, h6, t6, l6⟩; have b6 := t6.heap (a := w4.heap.size) (heap_alloc_new w4 _) (fun hj => by have := K4.out.1.tab.lt hj; omega); have y2 := cell_at b6 2; simp at y2; have y9 := lt_of_block b6; have S6 : _ ∧ _ ∧ _ ∧ _ := ⟨t6.cell (v := .int .i64 j) n2a (fun hj => by have := HF1.out _ hj; simp at this), t6.cell (v := .int .i64 o.want) n4a (fun hj => by have := HF1.out _ hj; simp at this), t6.cell (v := .int .i64 o.draw) n5a (fun hj => by have := HF1.out _ hj; simp at this), t6.cell (v := .int .i64 q.value) cq5 (fun hj => by have := HF1.out _ hj; simp at this; omega)⟩; have K6 := Lib.hid (RSt.step (K4.out.1.past (((Turn.refl NoBlock _).alloc _).drew)) t6 h6 l6); clear h6 t6 l6 b6))
            go_wp2
            go_roundg (len - (i + 1))
            case measure => omega
            case rel => exact ⟨i + 1, F6, L5, rfl, by omega, by go_num, MM.out.inv, K6.out⟩
        · have hb7 : (o.kind == 7) = false := by simp [hk7]
          clear hk7
          go_wp2_with (first
            | (go_at_call 14; (with_reducible refine (HV.out _ rfl).mono ?_); rintro x w3 ⟨pv, cv, rfl, H3, b3, hj3⟩; obtain ⟨g, rfl, g1, g2, g3, q, hq, cq⟩ := hj3 j hjn; have m0 := cell_at b3 0; have m2 := cell_at b3 2; have m4 := cell_at b3 4; have m5 := cell_at b3 5; simp at m0 m2 m4 m5; have q3 := lt_of_block b3; obtain ⟨kq, -, -, -, qE, qS, qf, q9⟩ := told_found H3.tab hq; have cG := get_any H3.tab q.value qf; rw [qE, qS] at cG; unfold Ent.agg at cG; have K3 := Lib.hid (And.intro H3 (And.intro b3 hq)); clear H3 b3 hj3 hq qE qS)
            | (go_at_call 23; (with_reducible refine cG.mono ?_); rintro x w4 ⟨rfl, t4⟩; have b4 := t4.heap K3.out.2.1 (fun h => h); have n0 := cell_at b4 0; have n2 := cell_at b4 2; have n4 := cell_at b4 4; have n5 := cell_at b4 5; simp at n0 n2 n4 n5; have cq4 := t4.cell cq (fun h => h); have q6 := World.block_lt_of_cell? _ _ cq4; have q4 := lt_of_block b4; have K4 := Lib.hid (And.intro (K3.out.1.past t4) (And.intro b4 K3.out.2.2)); clear t4 b4 cG))
          obtain ⟨V5, e5, s5, L5, M5, cD⟩ := HP.out q K4.out.2.2
          have MM := Lib.hid M5
          have aE : ∀ (p : Addr), p.block < w4.heap.size → (w4.alloc (.cells #[.int .i64 q.e.o, .int .i64 q.e.k, .int .i64 q.e.r] 33)).drew.cell? p = w4.cell? p := fun p hp => World.cell?_of_block (Below.heap_alloc _ _ _ hp)
          have n2a := (aE ⟨wr.heap.size, 2, none⟩ q4).trans n2
          have n4a := (aE ⟨wr.heap.size, 4, none⟩ q4).trans n4
          have n5a := (aE ⟨wr.heap.size, 5, none⟩ q4).trans n5
          have cq5 := (aE ⟨g, j, none⟩ q6).trans cq4
          have S0 := And.intro n2a (And.intro n4a (And.intro n5a cq5))
          clear aE
          by_cases hs5 : s5 = 0
          · subst hs5
            obtain ⟨R, r1, r2, r3, r4, r5⟩ := M5.good rfl
            clear M5
            go_region_held3 (fun w' => w'.cell? ⟨wr.heap.size, 2, none⟩ = some (.int .i64 j) ∧ w'.cell? ⟨wr.heap.size, 4, none⟩ = some (.int .i64 o.want) ∧ w'.cell? ⟨wr.heap.size, 5, none⟩ = some (.int .i64 o.draw) ∧ w'.cell? ⟨g, j, none⟩ = some (.int .i64 q.value)) (first | exact S0 | exact S6)
              (first | (go_at_call 26; (with_reducible refine (cD _ (K4.out.1.tab.past (((Turn.refl NoBlock _).alloc _).drew))).mono ?_); rintro x w6 ⟨rfl, F6, h6, t6, l6⟩; have b6 := t6.heap (a := w4.heap.size) (heap_alloc_new w4 _) (fun hj => by have := K4.out.1.tab.lt hj; omega); have y2 := cell_at b6 2; simp at y2; have y9 := lt_of_block b6; have S6 : _ ∧ _ ∧ _ ∧ _ := ⟨t6.cell (v := .int .i64 j) n2a (fun hj => by have := HF1.out _ hj; simp at this), t6.cell (v := .int .i64 o.want) n4a (fun hj => by have := HF1.out _ hj; simp at this), t6.cell (v := .int .i64 o.draw) n5a (fun hj => by have := HF1.out _ hj; simp at this), t6.cell (v := .int .i64 q.value) cq5 (fun hj => by have := HF1.out _ hj; simp at this; omega)⟩; have K6 := Lib.hid (RSt.step (K4.out.1.past (((Turn.refl NoBlock _).alloc _).drew)) t6 h6 l6); clear h6 t6 l6 b6))
            have cG2 := get_any K6.out.tab V5 r3
            rw [r1, r2] at cG2
            unfold Ent.agg at cG2
            clear r1 r2 r3
            go_wp2_with (first
              | (go_at_call 23; (with_reducible refine cG2.mono ?_); rintro x w7 ⟨rfl, t7⟩; have z2 := t7.cell y2 (fun h => h); have z9 := World.block_lt_of_cell? _ _ z2; simp only at z9; have K7 := Lib.hid (K6.out.past t7); clear t7 cG2)
              | (go_at_call 25; (with_reducible refine (has_any _ _ _).mono ?_); rintro x w8 ⟨rfl, rfl⟩))
            go_roundg (len - (i + 1))
            case measure => omega
            case rel => exact ⟨i + 1, F6, L5, rfl, by omega, by go_num, MM.out.inv, K7.out.past ((Turn.refl NoBlock _).alloc _)⟩
          · have hb5 : (s5 != 0) = true := by simp [hs5]
            have hb6 : (s5 == 0) = false := by simp [hs5]
            clear M5 hs5
            go_region_held3 (fun w' => w'.cell? ⟨wr.heap.size, 2, none⟩ = some (.int .i64 j) ∧ w'.cell? ⟨wr.heap.size, 4, none⟩ = some (.int .i64 o.want) ∧ w'.cell? ⟨wr.heap.size, 5, none⟩ = some (.int .i64 o.draw) ∧ w'.cell? ⟨g, j, none⟩ = some (.int .i64 q.value)) (first | exact S0 | exact S6)
              (first | (go_at_call 26; (with_reducible refine (cD _ (K4.out.1.tab.past (((Turn.refl NoBlock _).alloc _).drew))).mono ?_); rintro x w6 ⟨rfl, F6, h6, t6, l6⟩; have b6 := t6.heap (a := w4.heap.size) (heap_alloc_new w4 _) (fun hj => by have := K4.out.1.tab.lt hj; omega); have y2 := cell_at b6 2; simp at y2; have y9 := lt_of_block b6; have S6 : _ ∧ _ ∧ _ ∧ _ := ⟨t6.cell (v := .int .i64 j) n2a (fun hj => by have := HF1.out _ hj; simp at this), t6.cell (v := .int .i64 o.want) n4a (fun hj => by have := HF1.out _ hj; simp at this), t6.cell (v := .int .i64 o.draw) n5a (fun hj => by have := HF1.out _ hj; simp at this), t6.cell (v := .int .i64 q.value) cq5 (fun hj => by have := HF1.out _ hj; simp at this; omega)⟩; have K6 := Lib.hid (RSt.step (K4.out.1.past (((Turn.refl NoBlock _).alloc _).drew)) t6 h6 l6); clear h6 t6 l6 b6))
            go_wp2
            go_roundg (len - (i + 1))
            case measure => omega
            case rel => exact ⟨i + 1, F6, L5, rfl, by omega, by go_num, MM.out.inv, K6.out⟩
      · have hnb : o.nth < 0 ∨ (0 ≤ o.nth ∧ (n : Int) ≤ o.nth) := by omega
        clear hnth
        rcases hnb with hnb | ⟨hnb, hnc⟩
        all_goals
          go_wp2_with (go_at_call 14; (with_reducible refine (HV.out _ rfl).mono ?_); rintro x w3 ⟨pv, cv, rfl, H3, b3, -⟩; have m0 := cell_at b3 0; have m2 := cell_at b3 2; simp at m0 m2; have q3 := lt_of_block b3; have K3 := Lib.hid H3; clear H3 b3)
          go_roundg (len - (i + 1))
          case measure => omega
          case rel => exact ⟨i + 1, F, L, rfl, by omega, by go_num, HR.out.1, K3.out⟩
    · obtain rfl : i = len := by omega
      go_wp2_with (go_at_call 10; (with_reducible refine (cA.out _ HR.out.2.turn).mono ?_); rintro x w5 ⟨rfl, t8⟩)
      go_ret
      exact ⟨rfl, t8⟩
end Go.Proofs.Ytkligmabgmjojaa
