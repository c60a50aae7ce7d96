/-
  The statement HandlesPlays answers true at all capacities and all slices of calls.
-/
import Derived.Test.YtacdhlhkpdlekaaHStep
import Derived.Test.YtacdhlhkpdlekaaHOps
namespace Go.Proofs.Ytacdhlhkpdlekaa
open Go.ChangeShapes Go.WideShapes Go.ChangeAt Go.RowKit

theorem plays_none (n : Int) (p : Option Addr) (len cap : Nat) (w : World) (h : n < 0 ∨ 65536 < n) :
    Calls Try.prog 3 #[.int .i64 n, .slice p len cap] w fun e w' => e = .returned (.bool true) ∧ Turn NoBlock w w' := by
  have c1 := new_no n w h
  rcases (show n < 0 ∨ (0 ≤ n ∧ 65536 < n) from by omega) with g1 | ⟨g1, g2⟩
  all_goals
    clear h
    go_enter Try.func3, Try.ntmps3
    go_wp2_with (first | (go_at_call 9; (with_reducible refine c1.mono ?_); rintro e w1 ⟨rfl, rfl⟩) | (go_at_call 10; (with_reducible refine (awake_at _).mono ?_); rintro e w2 ⟨rfl, t2⟩; have T2 := Lib.hid t2; clear t2))
    go_ret
    exact ⟨rfl, T2.out⟩
theorem plays_past (n : Nat) (p : Option Addr) (len cap : Nat) (w : World) (hn : n ≤ 65536) (h : 100 < len) :
    Calls Try.prog 3 #[.int .i64 n, .slice p len cap] w fun e w' => e = .returned (.bool true) ∧ Turn NoBlock w w' := by
  have c1 := new_raw n w hn
  have hl : (100 : Int) < (len : Int) := by omega
  go_enter Try.func3, Try.ntmps3
  go_wp2_with (first | (go_at_call 9; (with_reducible refine c1.mono ?_); rintro e w1 ⟨rfl, hw⟩; have T1 := Lib.hid (show Turn NoBlock w w1 by rw [hw]; exact (Turn.refl _ _).alloc _); clear hw) | (go_at_call 10; (with_reducible refine (awake_b T1.out).mono ?_); rintro e w2 ⟨rfl, t2⟩; have T2 := Lib.hid t2; clear t2))
  go_ret
  exact ⟨rfl, T2.out⟩

/-- What the law keeps from call to call. -/
structure LSt (w wr : World) (a x n : Nat) : Prop where
  ex : ∃ F G L, TableAt wr a F L ∧ RefAt wr x G L ∧ (∀ j, F j → ¬ G j) ∧ FitR L ∧ L.length = n ∧ (∀ j, F j → w.heap.size ≤ j) ∧ ∀ j, G j → w.heap.size ≤ j
  turn : Turn NoBlock w wr
theorem LSt.past {w wr w' : World} {a x n : Nat} (h : LSt w wr a x n) (t : Turn NoBlock wr w') : LSt w w' a x n := by
  obtain ⟨F, G, L, h1, h2, h3, h4, h5, h6, h7⟩ := h.ex
  exact ⟨⟨F, G, L, h1.past t, h2.past t, h3, h4, h5, h6, h7⟩, h.turn.trans t (fun _ h => .inl h)⟩
theorem LSt.start (w w1 : World) (n : Nat) (hn : n ≤ 65536) (hw : w1 = w.alloc (.cells #[.int .i64 n, .slice none 0 0, .slice none 0 0] 72)) :
    LSt w (w1.alloc (.cells #[.slice none 0 0, .slice none 0 0, .int .i64 n] 30)) w.heap.size w1.heap.size n := by
  subst hw
  have b1 : ((w.alloc (.cells #[.int .i64 n, .slice none 0 0, .slice none 0 0] 72)).alloc (.cells #[.slice none 0 0, .slice none 0 0, .int .i64 n] 30)).heap[w.heap.size]? = some (.cells #[.int .i64 n, .slice none 0 0, .slice none 0 0] 72 (0, 0)) :=
    (Below.heap_alloc _ _ _ (by simp)).trans (heap_alloc_new w _)
  have b2 := heap_alloc_new (w.alloc (.cells #[.int .i64 n, .slice none 0 0, .slice none 0 0] 72)) (.cells #[.slice none 0 0, .slice none 0 0, .int .i64 n] 30)
  refine ⟨⟨_, _, List.replicate n Pl.none, ⟨.slice none 0 0, .slice none 0 0, n, [], [], ⟨b1, World.ownsRow_nil _ _ _ _, World.ownsRow_nil _ _ _ _⟩, TOK.new n hn, rfl, by simp [padL]⟩, ⟨.slice none 0 0, .slice none 0 0, n, [], ⟨b2, ints_nil _, World.ownsRow_nil _ _ _ _⟩, ROK.nil hn, rfl, by simp [padL]⟩, ?_, ?_, by simp, ?_, ?_⟩, ((Turn.refl _ _).alloc _).alloc _⟩
  · intro j hf hg
    rcases hf with rfl | hf | hf
    · rcases hg with hg | hg | hg
      · simp at hg
      · simp [Value.ownBlock] at hg
      · simp [Value.ownBlock] at hg
    · simp [Value.ownBlock] at hf
    · simp [Value.ownBlock] at hf
  · intro p hp
    rw [List.mem_replicate] at hp
    rw [hp.2]; simp [Pl.none, Ent.zero, fit]
  · intro j hf
    rcases hf with rfl | hf | hf
    · exact Nat.le_refl _
    · simp [Value.ownBlock] at hf
    · simp [Value.ownBlock] at hf
  · intro j hg
    rcases hg with rfl | hg | hg
    · simp
    · simp [Value.ownBlock] at hg
    · simp [Value.ownBlock] at hg
theorem LSt.stepped {w wr w' : World} {a x n : Nat} {F G : Nat → Prop} {L : List Pl} (t0 : Turn NoBlock w wr) (hn : L.length = n) (hf : ∀ j, F j → w.heap.size ≤ j) (hg : ∀ j, G j → w.heap.size ≤ j) (h : Stepped wr a F x G L w') : LSt w w' a x n := by
  obtain ⟨F', G', L', h1, h2, h3⟩ := h
  have hs := t0.size
  refine ⟨⟨F', G', L', h3.tab, h3.ref, h3.ap, h1, h2.trans hn, fun j hj => ?_, fun j hj => ?_⟩, t0.trans h3.turn (fun j hj => .inr (hj.elim (hf j) (hg j)))⟩
  · rcases h3.lf j hj with h | h
    · exact hf j h
    · omega
  · rcases h3.lg j hj with h | h
    · exact hg j h
    · omega

/-- What is asked behind each step. -/
structure Asked (wr : World) (a x n : Nat) (t : Nat) (vs : List Int) (es : List Ent) : Prop where
  all : Calls Try.prog 12 #[.pointer (some ⟨x, 0, none⟩)] wr fun e w' => ∃ p c ve, e = .returned (.tuple #[.slice p t c, ve]) ∧ Ints (.slice p t c) vs w' ∧ REnts ve es w' ∧ Turn NoBlock wr w'
  vals : ∀ w, Turn NoBlock wr w → Calls Try.prog 14 #[.pointer (some ⟨a, 0, none⟩)] w fun e w' => ∃ v, e = .returned v ∧ Ints v vs w' ∧ Turn NoBlock w w'
  ents : ∀ w, Turn NoBlock wr w → Calls Try.prog 16 #[.pointer (some ⟨a, 0, none⟩)] w fun e w' => ∃ v, e = .returned v ∧ Ents v es w' ∧ Turn NoBlock w w'
  count : ∀ w, Turn NoBlock wr w → Calls Try.prog 17 #[.pointer (some ⟨a, 0, none⟩)] w fun e w' => e = .returned (.int .i64 (t : Int)) ∧ Turn NoBlock w w'
  room : ∀ w, Turn NoBlock wr w → Calls Try.prog 18 #[.pointer (some ⟨a, 0, none⟩)] w fun e w' => e = .returned (.int .i64 ((n : Int) - t)) ∧ Turn NoBlock w w'
  le : t ≤ n
  lv : vs.length = t
  lee : es.length = t
theorem valsOf_ints (l : List Pl) : valsOf l = (l.map (·.value)).map (Value.int .i64) := by simp [valsOf]
theorem LSt.asked {w wr : World} {a x n : Nat} (h : LSt w wr a x n) : ∃ t vs es, Asked wr a x n t vs es := by
  obtain ⟨F, G, L, h1, h2, h3, h4, h5, h6, h7⟩ := h.ex
  refine ⟨(takenL L).length, (takenL L).map (·.value), (takenL L).map (·.e), ?_, fun w t => ?_, fun w t => ?_, fun w t => ?_, fun w t => ?_, ?_, by simp, by simp⟩
  · refine (rall_any h2).mono ?_
    rintro e w' ⟨v, ve, rfl, hA⟩
    obtain ⟨p, c, rfl⟩ := ints_slice hA.ints
    have hi := hA.ints
    rw [List.length_map] at hi
    exact ⟨p, c, ve, by rw [List.length_map], hi, hA.ents, hA.turn⟩
  · refine (values_any (h1.past t)).mono ?_
    rintro e w' ⟨v, rfl, O, B⟩
    refine ⟨v, rfl, ?_, turn_of_below B⟩
    unfold Ints
    rw [List.length_map, ← valsOf_ints]
    exact own_base O
  · refine (entries_any (h1.past t)).mono ?_
    rintro e w' ⟨v, rfl, O, -, T⟩
    exact ⟨v, rfl, O, T⟩
  · refine (count_any (h1.past t)).mono ?_
    rintro e w' ⟨rfl, m, rfl⟩
    exact ⟨rfl, (Turn.refl _ _).drewN m⟩
  · refine (room_any (h1.past t)).mono ?_
    rintro e w' ⟨rfl, m, rfl⟩
    rw [h5]
    exact ⟨rfl, (Turn.refl _ _).drewN m⟩
  · rw [← h5]; exact List.length_filter_le _ _

set_option maxRecDepth 100000 in
set_option maxHeartbeats 60000000 in
theorem plays_walk (os : Nat → OpV) (n : Nat) (p : Option Addr) (len cap : Nat) (w : World) (hn : n ≤ 65536) (hl : len ≤ 100) (hos : OpsAt w p len os) (hok : OpsOK w len os) :
    Calls Try.prog 3 #[.int .i64 n, .slice p len cap] w fun e w' => e = .returned (.bool true) ∧ Turn NoBlock w w' := by
  have c1 := new_raw n w hn
  have HOS := Lib.hid hos
  have HOK := Lib.hid hok
  have hl' : (len : Int) ≤ 100 := by omega
  clear hos hok
  go_enter Try.func3, Try.ntmps3
  go_wp2_with (go_at_call 9; (with_reducible refine c1.mono ?_); rintro e w1 ⟨rfl, hw⟩; have HW := Lib.hid hw; clear hw)
  have S0 := Lib.hid (LSt.start w w1 n hn HW.out)
  obtain ⟨a, ha⟩ : ∃ a, w.heap.size = a := ⟨_, rfl⟩
  obtain ⟨x, hx⟩ : ∃ x, w1.heap.size = x := ⟨_, rfl⟩
  rw [ha, hx] at S0 ⊢
  generalize w1.alloc (.cells #[.slice none 0 0, .slice none 0 0, .int .i64 n] 30) = w2 at S0 ⊢
  clear ha hx c1
  go_loopg [41] len (fun g s wr => ∃ (i : Nat), g = len - i ∧ i ≤ len ∧ s = .int .i64 i ∧ Hid (LSt w wr a x n))
  case atStart => exact ⟨0, by omega, by omega, rfl, S0⟩
  case round =>
    obtain ⟨i, hg, hi, rfl, HR⟩ := hrel
    by_cases hlt : i < len
    · obtain ⟨b, off, rfl, hcells⟩ := HOS.out (by omega)
      have hbc : ∀ j, j < 10 → wr.cell? ⟨b, off + i * 10 + j, none⟩ = (os i).cells[j]? := fun j hj => by
        have h1 := hcells i hlt j hj
        rw [← h1]
        exact (HR.out.turn.cell (v := ((os i).cells[j]?).getD undef) (by rw [h1, List.getElem?_eq_getElem (by simpa [OpV.cells] using hj)]; rfl) (fun h => h)).trans (by rw [h1, List.getElem?_eq_getElem (by simpa [OpV.cells] using hj)]; rfl)
      obtain ⟨fo, hna⟩ := HOK.out i hlt
      have k0 := hbc 0 (by omega)
      have k1 := hbc 1 (by omega)
      have k2 := hbc 2 (by omega)
      have k3 := hbc 3 (by omega)
      have k4 := hbc 4 (by omega)
      have k5 := hbc 5 (by omega)
      have k6 := hbc 6 (by omega)
      have k7 := hbc 7 (by omega)
      have k8 := hbc 8 (by omega)
      have k9 := hbc 9 (by omega)
      simp only [OpV.cells, List.getElem?_cons_zero, List.getElem?_cons_succ, Nat.add_zero] at k0 k1 k2 k3 k4 k5 k6 k7 k8 k9
      have HFO := Lib.hid (And.intro fo hna)
      generalize os i = o at *
      clear hbc hcells fo hna
      obtain ⟨kind, v0, nth, nn, want, draw, ⟨eo, ek, er⟩, lp, zl, lc, zs⟩ := o
      simp only at k0 k1 k2 k3 k4 k5 k6 k7 k8 k9
      by_cases hz : 60 < zl
      · have hzi : (60 : Int) < (zl : Int) := by omega
        have T1 := Lib.hid (HR.out.turn.alloc (.cells #[.int .i64 kind, .int .i64 v0, .int .i64 nth, .int .i64 nn, .int .i64 want, .int .i64 draw, .int .i64 eo, .int .i64 ek, .int .i64 er, .slice lp zl lc] 35))
        go_wp2_with (go_at_call 10; (with_reducible refine (awake_b T1.out).mono ?_); rintro e w3 ⟨rfl, t3⟩; have T3 := Lib.hid t3; clear t3)
        go_ret
        exact ⟨rfl, T3.out⟩
      · have hzi : (zl : Int) ≤ 60 := by omega
        have HStep := Lib.hid (show Calls Try.prog 11 #[.pointer (some ⟨a, 0, none⟩), .pointer (some ⟨x, 0, none⟩), .agg #[.int .i64 kind, .int .i64 v0, .int .i64 nth, .int .i64 nn, .int .i64 want, .int .i64 draw, .int .i64 eo, .int .i64 ek, .int .i64 er, .slice lp zl lc]] (wr.alloc (.cells #[.int .i64 kind, .int .i64 v0, .int .i64 nth, .int .i64 nn, .int .i64 want, .int .i64 draw, .int .i64 eo, .int .i64 ek, .int .i64 er, .slice lp zl lc] 35)) fun e w' => e = .returned (.bool true) ∧ LSt w w' a x n by
          have h0 := HR.out.past ((Turn.refl NoBlock wr).alloc (.cells #[.int .i64 kind, .int .i64 v0, .int .i64 nth, .int .i64 nn, .int .i64 want, .int .i64 draw, .int .i64 eo, .int .i64 ek, .int .i64 er, .slice lp zl lc] 35))
          obtain ⟨F, G, L, h1, h2, h3, h4, h5, h6, h7⟩ := h0.ex
          obtain ⟨fo, hna⟩ := HFO.out
          refine (step_any h1 h2 h3 h4 kind v0 nth nn want draw eo ek er lp zl lc zs fo.v fo.n fo.want fo.er (by omega) ⟨hna.1, hna.2.1, fun hp => ?_⟩).mono ?_
          · obtain ⟨b', off', e1, e2⟩ := hna.2.2 hp
            exact ⟨b', off', e1, fun h => h, fun j hj => h0.turn.cell (e2 j hj) (fun h => h)⟩
          · rintro e w' ⟨rfl, hs⟩
            exact ⟨rfl, LSt.stepped h0.turn h5 h6 h7 hs⟩)
        clear hz
        go_wp2_with (first
          | (go_at_call 11; (with_reducible refine HStep.out.mono ?_); rintro e w3 ⟨rfl, h3⟩; have K3 := Lib.hid h3; clear h3; obtain ⟨t, vs, es, hA⟩ := K3.out.asked; have HA := Lib.hid hA; have htn := HA.out.le; have hsub := (show IntKind.i64.wrap ((n : Int) - t) = (n : Int) - t by rw [show (n : Int) - t = ((n - t : Nat) : Int) by omega]; exact wrap_nat _ (by omega)); clear hA)
          | (go_at_call 12; (with_reducible refine HA.out.all.mono ?_); rintro e w4 ⟨p4, c4, ve, rfl, i4, e4, t4⟩; have K4 := Lib.hid (And.intro i4 (And.intro e4 t4)); clear i4 e4 t4)
          | (go_at_call 14; (with_reducible refine (HA.out.vals _ K4.out.2.2).mono ?_); rintro e w5 ⟨v5, rfl, i5, t5⟩; have K5 := Lib.hid (And.intro i5 (And.intro t5 (K4.out.1.past t5))); clear i5 t5)
          | (go_at_call 13; (with_reducible refine (ints_same _ _ _ _ K5.out.1 K5.out.2.2 (by rw [HA.out.lv]; omega)).mono ?_); rintro e w6 ⟨rfl, d6, hw6⟩; have T6 := Lib.hid (show Turn NoBlock w4 w6 by rw [hw6]; exact K5.out.2.1.drewN d6); clear hw6)
          | (go_at_call 16; (with_reducible refine (HA.out.ents _ (K4.out.2.2.trans T6.out (fun _ h => .inl h))).mono ?_); rintro e w7 ⟨v7, rfl, i7, t7⟩; have K7 := Lib.hid (And.intro i7 (T6.out.trans t7 (fun _ h => .inl h))); clear i7 t7)
          | (go_at_call 15; (with_reducible refine (same_any _ _ _ _ K7.out.1 ((own_rents ve es).kept _ _ _ K4.out.2.1 K7.out.2 (fun _ _ h => h)) (by rw [HA.out.lee]; omega)).mono ?_); rintro e w8 ⟨rfl, t8⟩; have T8 := Lib.hid (K4.out.2.2.trans (K7.out.2.trans t8 (fun _ h => .inl h)) (fun _ h => .inl h)); clear t8)
          | (go_at_call 17; (with_reducible refine (HA.out.count _ T8.out).mono ?_); rintro e w9 ⟨rfl, t9⟩; have T9 := Lib.hid (T8.out.trans t9 (fun _ h => .inl h)); clear t9)
          | (go_at_call 18; (with_reducible refine (HA.out.room _ T9.out).mono ?_); rintro e w10 ⟨rfl, t10⟩; have T10 := Lib.hid (T9.out.trans t10 (fun _ h => .inl h)); clear t10))
        go_roundg (len - (i + 1))
        case measure => omega
        case rel => exact ⟨i + 1, rfl, by omega, by go_num, Lib.hid (K3.out.past T10.out)⟩
    · obtain rfl : i = len := by omega
      go_wp2_with (go_at_call 10; (with_reducible refine (awake_b HR.out.turn).mono ?_); rintro e w3 ⟨rfl, t3⟩; have T3 := Lib.hid t3; clear t3)
      go_ret
      exact ⟨rfl, T3.out⟩
end Go.Proofs.Ytacdhlhkpdlekaa
