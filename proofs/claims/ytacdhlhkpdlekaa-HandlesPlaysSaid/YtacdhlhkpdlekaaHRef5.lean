/-
  What the reference's Duplicate and Replace answer, and what they make of its places. No conditions but that the table is one that calls can make, and that rights are numbers of 64 bits.
-/
import Derived.Test.YtacdhlhkpdlekaaHRef4
import Derived.Test.YtacdhlhkpdlekaaHDup
namespace Go.Proofs.Ytacdhlhkpdlekaa
open Go.ChangeShapes Go.WideShapes Go.ChangeAt Go.RowKit

section
variable {w : World} {a : Nat} {F : Nat → Prop} {L : List Pl}

set_option maxRecDepth 20000 in
set_option maxHeartbeats 2000000 in
theorem rdup_any (h : RefAt w a F L) (v want d : Int) (hfr : FitR L) (hw : fit want) :
    Calls Try.prog 37 #[.pointer (some ⟨a, 0, none⟩), .int .i64 v, .int .i64 want, .int .i64 d] w fun e w' => e = .returned (.tuple #[.int .i64 (dupV L v want d), .int .i64 (dupS L v want)]) ∧
      ∃ F', RefAt w' a F' (dupL L v want d) ∧ Turn F w w' ∧ ∀ j, F' j → F j ∨ w.heap.size ≤ j := by
  have HT := Lib.hid h
  have hfr2 := FitR.getE hfr v
  have c1 := rlook_any h v 0 1 hfr (by unfold fit; omega)
  unfold dupV dupS dupL
  by_cases h0 : lookS L v 0 1 = 0
  · have hA : dupA L v want = redS (getE L v).r want := by unfold dupA; rw [if_neg (by simpa using h0)]
    rw [lookE_get h0, h0] at c1
    rw [hA]
    unfold dupE
    unfold Ent.agg at c1
    have HR := Lib.hid (fun w => rreduce_any (getE L v).r want hfr2 hw w)
    by_cases h1 : redS (getE L v).r want = 0
    · rw [if_neg (by simpa using h1), if_neg (by simpa using h1), if_neg (by simpa using h1)]
      have HA := Lib.hid (fun (W : World) (hW : RefAt W a F L) => radd_any hW ⟨(getE L v).o, (getE L v).k, redV (getE L v).r want⟩ d)
      unfold Ent.agg at HA
      simp only at HA
      rw [h1] at HR
      generalize addV L d = AV at *
      generalize addS L = AS at *
      generalize redV (getE L v).r want = R at *
      generalize (getE L v).o = eo at *
      generalize (getE L v).k = ek at *
      generalize (getE L v).r = er at *
      clear h h0 h1 hA
      go_enter Try.func37, Try.ntmps37
      go_wp2_with (first
        | (go_at_call 33; (with_reducible refine c1.mono ?_); rintro e w1 ⟨rfl, t1⟩; have K1 := Lib.hid t1; clear t1)
        | (go_at_call 50; (with_reducible refine (HR.out _).mono ?_); rintro e w2 ⟨rfl, rfl⟩)
        | (go_at_call 31; (with_reducible refine (HA.out _ (HT.out.past (K1.out.alloc _))).mono ?_); rintro e w3 ⟨rfl, F', h3, t3, l3⟩; have K3 := Lib.hid (And.intro h3 (And.intro t3 l3)); clear h3 t3 l3))
      go_ret2
      obtain ⟨h3, t3, l3⟩ := K3.out
      have t2 : Turn NoBlock w (w1.alloc (.cells #[.int .i64 eo, .int .i64 ek, .int .i64 R] 76)) := K1.out.alloc _
      have hs := t2.size
      refine ⟨rfl, F', h3, (t2.mono (fun _ h => h.elim)).trans t3 (fun j hj => .inl hj), fun j hj => ?_⟩
      rcases l3 j hj with h | h
      · exact .inl h
      · right; omega
    · rw [if_pos (by simpa using h1), if_pos (by simpa using h1), if_pos (by simpa using h1)]
      have hb : (redS (getE L v).r want != 0) = true := by simp [h1]
      generalize redV (getE L v).r want = R at *
      generalize redS (getE L v).r want = S at *
      generalize (getE L v).o = eo at *
      generalize (getE L v).k = ek at *
      generalize (getE L v).r = er at *
      clear h h0 h1 hA
      go_enter Try.func37, Try.ntmps37
      go_wp2_with (first
        | (go_at_call 33; (with_reducible refine c1.mono ?_); rintro e w1 ⟨rfl, t1⟩; have K1 := Lib.hid t1; clear t1)
        | (go_at_call 50; (with_reducible refine (HR.out _).mono ?_); rintro e w2 ⟨rfl, rfl⟩))
      go_ret2
      have t2 := K1.out.alloc (.cells #[.int .i64 eo, .int .i64 ek, .int .i64 er] 76)
      exact ⟨rfl, F, HT.out.past t2, t2.mono (fun _ h => h.elim), fun j hj => .inl hj⟩
  · have hA : dupA L v want = lookS L v 0 1 := by unfold dupA; rw [if_pos h0]
    rw [hA]
    rw [lookE_not h0] at c1
    unfold Ent.agg Ent.zero at c1
    rw [if_pos h0, if_pos h0, if_pos h0]
    have hb : (lookS L v 0 1 != 0) = true := by simp [h0]
    generalize lookS L v 0 1 = S at *
    clear h hA
    go_enter Try.func37, Try.ntmps37
    go_wp2_with (go_at_call 33; (with_reducible refine c1.mono ?_); rintro e w1 ⟨rfl, t1⟩; have K1 := Lib.hid t1; clear t1)
    go_ret2
    have t2 := K1.out.alloc (.cells #[.int .i64 0, .int .i64 0, .int .i64 0] 76)
    exact ⟨rfl, F, HT.out.past t2, t2.mono (fun _ h => h.elim), fun j hj => .inl hj⟩
end


section
variable {w : World} {a : Nat} {F : Nat → Prop} {L : List Pl}
set_option maxRecDepth 20000 in
set_option maxHeartbeats 4000000 in
theorem rrep_any (h : RefAt w a F L) (v want d : Int) (hfr : FitR L) (hw : fit want) :
    Calls Try.prog 38 #[.pointer (some ⟨a, 0, none⟩), .int .i64 v, .int .i64 want, .int .i64 d] w fun e w' => e = .returned (.tuple #[.int .i64 (repV L v want d), (repE L v want).agg, .int .i64 (repS L v want)]) ∧
      ∃ F', RefAt w' a F' (repL L v want d) ∧ Turn F w w' ∧ ∀ j, F' j → F j ∨ w.heap.size ≤ j := by
  have hfr2 := FitR.getE hfr v
  have HF := Lib.hid (fun j (hj : F j) => h.lt hj)
  have HQ : Hid (∀ w2, Turn F (w.alloc (.cells #[.int .i64 0, .int .i64 0, .int .i64 0] 76)) w2 → w2.heap[w.heap.size]? = some (.cells #[.int .i64 0, .int .i64 0, .int .i64 0] 76 (0, 0))) := fun w2 ht =>
    ht.heap (heap_alloc_new w _) (fun hj => by have := h.lt hj; omega)
  have HN := Lib.hid ((Turn.refl F w).alloc (.cells #[.int .i64 0, .int .i64 0, .int .i64 0] 76))
  have HB : Hid (∀ w1 F1 o w3, Turn F (w.alloc (.cells #[.int .i64 0, .int .i64 0, .int .i64 0] 76)) w1 → (∀ j, F1 j → F j ∨ w.heap.size + 1 ≤ j) → Turn F1 (w1.alloc o) w3 → w3.heap[w.heap.size]? = some (.cells #[.int .i64 0, .int .i64 0, .int .i64 0] 76 (0, 0))) := fun w1 F1 o w3 t l t3 => by
    have b1 := HQ.out w1 t
    have lt := lt_of_block b1
    refine t3.heap ((Below.heap_alloc _ _ _ lt).trans b1) (fun hj => ?_)
    rcases l _ hj with h1 | h1
    · have := h.lt h1; omega
    · omega
  have HS := Lib.hid (show (w.alloc (.cells #[.int .i64 0, .int .i64 0, .int .i64 0] 76)).heap.size = w.heap.size + 1 by simp)
  -- what the stores into the result leave
  have HE : Hid (∀ (W : World) (F1 : Nat → Prop) (L1 : List Pl) (x y z : Value), RefAt W a F1 L1 → Turn F w W → (∀ j, F1 j → F j ∨ w.heap.size + 1 ≤ j) → ∀ n,
      RefAt ((((W.setCell ⟨w.heap.size, 0, none⟩ x).setCell ⟨w.heap.size, 1, none⟩ y).setCell ⟨w.heap.size, 2, none⟩ z).drewN n) a F1 L1 ∧ Turn F w ((((W.setCell ⟨w.heap.size, 0, none⟩ x).setCell ⟨w.heap.size, 1, none⟩ y).setCell ⟨w.heap.size, 2, none⟩ z).drewN n) ∧ ∀ j, F1 j → F j ∨ w.heap.size ≤ j) := fun W F1 L1 x y z hW ht hl n => by
    refine ⟨(ref_own a F1 L1).kept W _ (fun b => b = w.heap.size) hW ((((Turn.refl (fun b => b = w.heap.size) W).setCell (p := ⟨w.heap.size, 0, none⟩) (.inl rfl) _).setCell (p := ⟨w.heap.size, 1, none⟩) (.inl rfl) _).setCell (p := ⟨w.heap.size, 2, none⟩) (.inl rfl) _ |>.drewN n) (fun j hj e => ?_), ?_, fun j hj => ?_⟩
    · rcases hl j hj with h1 | h1
      · have := h.lt h1; omega
      · omega
    · exact (((ht.setCell (p := ⟨w.heap.size, 0, none⟩) (.inr (Nat.le_refl _)) _).setCell (p := ⟨w.heap.size, 1, none⟩) (.inr (Nat.le_refl _)) _).setCell (p := ⟨w.heap.size, 2, none⟩) (.inr (Nat.le_refl _)) _).drewN n
    · rcases hl j hj with h1 | h1
      · exact .inl h1
      · right; omega
  have c1 := rclose_any (h.past ((Turn.refl NoBlock w).alloc (.cells #[.int .i64 0, .int .i64 0, .int .i64 0] 76))) v
  rw [HS.out] at c1
  unfold repV repE repS repL
  by_cases h0 : getS L v = 0
  · rw [h0] at c1
    unfold Ent.agg at c1
    have HR := Lib.hid (fun w => rreduce_any (getE L v).r want hfr2 hw w)
    by_cases h1 : redS (getE L v).r want = 0
    · rw [if_pos ⟨h0, h1⟩, if_neg (by simp [h1]), if_neg (by simp [h0]), if_neg (by simp [h1]), if_pos ⟨h0, h1⟩]
      have HA := Lib.hid (fun (W : World) (F1 : Nat → Prop) (hW : RefAt W a F1 (closeL L v)) => radd_any hW ⟨(getE L v).o, (getE L v).k, redV (getE L v).r want⟩ d)
      unfold Ent.agg at HA
      simp only at HA
      unfold dupE
      rw [h1] at HR
      generalize addV (closeL L v) d = AV at *
      generalize addS (closeL L v) = AS at *
      generalize redV (getE L v).r want = R at *
      generalize (getE L v).o = eo at *
      generalize (getE L v).k = ek at *
      generalize (getE L v).r = er at *
      clear h h0 h1
      go_enter Try.func38, Try.ntmps38
      go_wp2_with (first
        | (go_at_call 34; (with_reducible refine c1.mono ?_); rintro e w1 ⟨rfl, F1, h2, t2, l2⟩; have b1 := HQ.out w1 t2; have q0 := cell_at b1 0; have q1 := cell_at b1 1; have q2 := cell_at b1 2; have q3 := free_at b1; simp at q0 q1 q2; have q4 := lt_of_block b1; have K1 := Lib.hid (And.intro h2 (And.intro t2 l2)); clear h2 t2 l2 b1)
        | (go_at_call 50; (with_reducible refine (HR.out _).mono ?_); rintro e w2 ⟨rfl, rfl⟩)
        | (go_at_call 31; (with_reducible refine (HA.out _ _ (K1.out.1.past ((Turn.refl NoBlock _).alloc _))).mono ?_); rintro e w3 ⟨rfl, F3, h3, t3, l3⟩; have b1 := HB.out w1 F1 _ w3 K1.out.2.1 K1.out.2.2 t3; have r0 := cell_at b1 0; have r1 := cell_at b1 1; have r2 := cell_at b1 2; have r3 := free_at b1; simp at r0 r1 r2; have r4 := lt_of_block b1; have K3 := Lib.hid (And.intro h3 (And.intro t3 l3)); clear h3 t3 l3 b1))
      (try simp only [Exit.inBlock, Exit.then])
      refine bodyPost_ret (v := .tuple #[.int .i64 AV, Ent.zero.agg, .int .i64 AS]) (by rw [results_tct rfl]; unfold Ent.agg Ent.zero; go_simp) rfl ⟨rfl, F3, HE.out w3 F3 _ _ _ _ K3.out.1 ?_ (fun j hj => ?_) 0⟩
      · exact (HN.out.trans K1.out.2.1 (fun _ h => .inl h)).alloc _ |>.trans K3.out.2.1 (fun j hj => by
          rcases K1.out.2.2 j hj with h1 | h1
          · exact .inl h1
          · right; omega)
      · rcases K3.out.2.2 j hj with h1 | h1
        · exact K1.out.2.2 j h1
        · right
          have := K1.out.2.1.size
          rw [HS.out] at this
          simp at h1
          omega
    · rw [if_neg (fun hh => h1 hh.2), if_pos ⟨h0, h1⟩, if_neg (by simp [h0]), if_pos h1, if_neg (fun hh => h1 hh.2)]
      have hb : (redS (getE L v).r want != 0) = true := by simp [h1]
      generalize redV (getE L v).r want = R at *
      generalize redS (getE L v).r want = S at *
      have hE : getE L v = ⟨(getE L v).o, (getE L v).k, (getE L v).r⟩ := rfl
      rw [hE]
      clear hE
      generalize (getE L v).o = eo at *
      generalize (getE L v).k = ek at *
      generalize (getE L v).r = er at *
      clear h h0 h1
      go_enter Try.func38, Try.ntmps38
      go_wp2_with (first
        | (go_at_call 34; (with_reducible refine c1.mono ?_); rintro e w1 ⟨rfl, F1, h2, t2, l2⟩; have b1 := HQ.out w1 t2; have q0 := cell_at b1 0; have q1 := cell_at b1 1; have q2 := cell_at b1 2; have q3 := free_at b1; simp at q0 q1 q2; have q4 := lt_of_block b1; have K1 := Lib.hid (And.intro h2 (And.intro t2 l2)); clear h2 t2 l2 b1)
        | (go_at_call 50; (with_reducible refine (HR.out _).mono ?_); rintro e w2 ⟨rfl, rfl⟩))
      go_region
      go_wp2
      (try simp only [Exit.inBlock, Exit.then])
      obtain ⟨x1, x2, x3⟩ := HE.out w1 F1 _ (.int .i64 eo) (.int .i64 ek) (.int .i64 er) K1.out.1 (HN.out.trans K1.out.2.1 (fun _ h => .inl h)) K1.out.2.2 0
      exact bodyPost_ret (v := .tuple #[.int .i64 0, Ent.agg ⟨eo, ek, er⟩, .int .i64 S]) (by rw [results_tct rfl]; unfold Ent.agg; go_simp) rfl ⟨rfl, F1, x1.past (((Turn.refl NoBlock _).alloc _).drew), (x2.alloc _).drew, x3⟩
  · obtain ⟨g1, g2⟩ := getE_not h0
    rw [if_neg (fun hh => h0 hh.1), if_neg (fun hh => h0 hh.1), if_pos h0, if_neg (fun hh => h0 hh.1)]
    rw [g1] at c1
    unfold Ent.agg Ent.zero at c1
    have hb : (getS L v != 0) = true := by simp [h0]
    generalize getS L v = S at *
    clear h g1
    go_enter Try.func38, Try.ntmps38
    go_wp2_with (go_at_call 34; (with_reducible refine c1.mono ?_); rintro e w1 ⟨rfl, F1, h2, t2, l2⟩; have b1 := HQ.out w1 t2; have q0 := cell_at b1 0; have q1 := cell_at b1 1; have q2 := cell_at b1 2; have q3 := free_at b1; simp at q0 q1 q2; have q4 := lt_of_block b1; have K1 := Lib.hid (And.intro h2 (And.intro t2 l2)); clear h2 t2 l2 b1)
    (try simp only [Exit.inBlock, Exit.then])
    obtain ⟨x1, x2, x3⟩ := HE.out w1 F1 _ (.int .i64 0) (.int .i64 0) (.int .i64 0) K1.out.1 (HN.out.trans K1.out.2.1 (fun _ h => .inl h)) K1.out.2.2 0
    exact bodyPost_ret (v := .tuple #[.int .i64 0, Ent.zero.agg, .int .i64 S]) (by rw [results_tct rfl]; unfold Ent.agg Ent.zero; go_simp) rfl ⟨rfl, F1, x1.past ((Turn.refl NoBlock _).alloc _), x2.alloc _, x3⟩
end
end Go.Proofs.Ytacdhlhkpdlekaa
