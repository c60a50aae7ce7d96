/-
  The statement HandlesFinds answers true at every entry, draw, type and rights.
-/
import Derived.Test.YtkligmabgmjojaaHClose
import Derived.Test.YtkligmabgmjojaaHAwake
namespace Go.Proofs.Ytkligmabgmjojaa
open Go.ChangeShapes Go.WideShapes Go.ChangeAt Go.RowKit

theorem place_valS (p : Nat) (d : Int) (h : p < 65536) : placeS (valS p d) = p := by
  unfold placeS valS
  have h1 := Int.emod_nonneg d (b := 65536) (by decide)
  have h2 := Int.emod_lt_of_pos d (b := 65536) (by decide)
  rw [if_neg (by omega)]
  omega
theorem valS_fit (p : Nat) (d : Int) (h : p < 65536) : fit (valS p d) := by
  unfold valS fit
  have h1 := Int.emod_nonneg d (b := 65536) (by decide)
  have h2 := Int.emod_lt_of_pos d (b := 65536) (by decide)
  omega
theorem hasB_not (r n : Int) (hn : fit n) : (bits .andNot .i64 n r = 0) ↔ hasB r n = true := by
  rw [hasB_iff r n hn]
  constructor
  · intro h i hi hb
    have h1 := bit_andNot n r i hi
    rw [h, hb] at h1
    have h0 : bitB 0 i = false := by unfold bitB; simp
    rw [h0] at h1
    cases hr : bitB r i with
    | true => rfl
    | false => rw [hr] at h1; simp at h1
  · intro h
    refine bits_ext _ _ (fit_bits _ _ _) (by unfold fit; omega) fun i hi => ?_
    have h0 : bitB 0 i = false := by unfold bitB; simp
    rw [bit_andNot n r i hi, h0]
    have := h i hi
    cases hb : bitB n i <;> simp_all

section
variable {w : World} {a : Nat} {F : Nat → Prop}
theorem fnd_add (o k r d : Int) (h : TableAt w a F (List.replicate 2 Pl.none)) :
    Calls Try.prog 22 #[.pointer (some ⟨a, 0, none⟩), .agg #[.int .i64 o, .int .i64 k, .int .i64 r], .int .i64 d] w fun x w' => x = .returned (.tuple #[.int .i64 (valS 0 d), .int .i64 0]) ∧
      ∃ F', TableAt w' a F' [⟨valS 0 d, o, k, r⟩, Pl.none] ∧ Turn F w w' ∧ ∀ j, F' j → F j ∨ w.heap.size ≤ j := add_any h ⟨o, k, r⟩ d
theorem fnd_find (o k r d : Int) : findL [⟨valS 0 d, o, k, r⟩, Pl.none] (valS 0 d) = some 0 := by
  unfold findL
  rw [place_valS 0 d (by omega), if_pos ⟨by omega, rfl⟩]
  rfl
theorem fnd_next (o k r d : Int) : findL [⟨valS 0 d, o, k, r⟩, Pl.none] (valS 0 d + 4) = none := by
  have e : valS 0 d + 4 = valS 1 d := by unfold valS; omega
  rw [e]
  unfold findL
  rw [place_valS 1 d (by omega), if_neg]
  intro hh
  have := hh.2
  have h3 := valS_pos 1 d
  simp [Pl.none] at this
  omega
theorem fnd_1 (o k r d kind need : Int) (h : TableAt w a F [⟨valS 0 d, o, k, r⟩, Pl.none]) :
    Calls Try.prog 30 #[.pointer (some ⟨a, 0, none⟩), .int .i64 (valS 0 d), .int .i64 kind, .int .i64 need] w fun e w' => e = .returned (.tuple #[(coreE 0 kind o k r need).agg, .int .i64 (coreS 0 kind k r need)]) ∧ Turn NoBlock w w' := by
  have := look_any h (valS 0 d) kind need (valS_fit 0 d (by omega))
  unfold lookE lookS getE at this
  rw [fnd_find] at this
  exact this
theorem fnd_2 (o k r d kind need : Int) (h : TableAt w a F [⟨valS 0 d, o, k, r⟩, Pl.none]) :
    Calls Try.prog 30 #[.pointer (some ⟨a, 0, none⟩), .int .i64 (valS 0 d + 4), .int .i64 kind, .int .i64 need] w fun e w' => e = .returned (.tuple #[.agg #[.int .i64 0, .int .i64 0, .int .i64 0], .int .i64 (-11)]) ∧ Turn NoBlock w w' := by
  have := look_any h (valS 0 d + 4) kind need (by have := valS_fit 1 d (by omega); unfold fit valS at *; omega)
  unfold lookE lookS getE at this
  rw [fnd_next] at this
  exact this
end

set_option maxRecDepth 20000 in
set_option maxHeartbeats 4000000 in
theorem finds_walk (o k r d kind need : Int) (hn : fit need) (w : World) :
    Calls Try.prog 8 #[.agg #[.int .i64 o, .int .i64 k, .int .i64 r, .int .i64 d, .int .i64 kind, .int .i64 need]] w fun e w' => e = .returned (.bool true) ∧ Turn NoBlock w w' := by
  have hV0 := valS_pos 0 d
  have hV1 : valS 0 d < 68719476736 := by unfold valS; have := Int.emod_lt_of_pos d (b := 65536) (by decide); omega
  have c1 : Calls Try.prog 9 #[.int .i64 2] (w.alloc (.cells #[.int .i64 o, .int .i64 k, .int .i64 r, .int .i64 d, .int .i64 kind, .int .i64 need] 66)) _ := new_yes 2 _ (by omega)
  simp only [World.size_alloc] at c1
  have HQ : Hid (∀ w2, Turn NoBlock (w.alloc (.cells #[.int .i64 o, .int .i64 k, .int .i64 r, .int .i64 d, .int .i64 kind, .int .i64 need] 66)) w2 → w.heap.size < w2.heap.size ∧ ∀ j, w2.cell? ⟨w.heap.size, j, none⟩ = (#[Value.int .i64 o, .int .i64 k, .int .i64 r, .int .i64 d, .int .i64 kind, .int .i64 need])[j]?) := fun w2 h => by
    have hb : w2.heap[w.heap.size]? = some (.cells #[.int .i64 o, .int .i64 k, .int .i64 r, .int .i64 d, .int .i64 kind, .int .i64 need] 66 (0, 0)) := h.heap (heap_alloc_new w _) (fun h => h)
    exact ⟨lt_of_block hb, fun j => cell_at hb j⟩
  have cases : (kind ≠ 0 ∧ kind ≠ k ∧ coreS 0 kind k r need = -12 ∧ coreE 0 kind o k r need = Ent.zero) ∨
      ((kind = 0 ∨ (kind ≠ 0 ∧ k = kind)) ∧ bits .andNot .i64 need r = 0 ∧ coreS 0 kind k r need = 0 ∧ coreE 0 kind o k r need = ⟨o, k, r⟩) ∨ ((kind = 0 ∨ (kind ≠ 0 ∧ k = kind)) ∧ bits .andNot .i64 need r ≠ 0 ∧ coreS 0 kind k r need = -30 ∧ coreE 0 kind o k r need = Ent.zero) := by
    have hE : ∀ z, coreS 0 kind k r need = z → z ≠ 0 → coreE 0 kind o k r need = Ent.zero := fun z h1 h2 => by unfold coreE; rw [h1, if_neg h2]
    by_cases h1 : kind ≠ 0 ∧ kind ≠ k
    · have hs : coreS 0 kind k r need = -12 := by unfold coreS; rw [if_neg (by simp), if_pos h1]
      exact .inl ⟨h1.1, h1.2, hs, hE _ hs (by decide)⟩
    · have h2 : kind = 0 ∨ (kind ≠ 0 ∧ k = kind) := by omega
      cases h3 : hasB r need with
      | true =>
        have hs : coreS 0 kind k r need = 0 := by unfold coreS; rw [if_neg (by simp), if_neg h1, h3]; rfl
        exact .inr (.inl ⟨h2, (hasB_not r need hn).2 h3, hs, by unfold coreE; rw [hs]; rfl⟩)
      | false =>
        have hs : coreS 0 kind k r need = -30 := by unfold coreS; rw [if_neg (by simp), if_neg h1, h3]; rfl
        exact .inr (.inr ⟨h2, fun hh => by have := (hasB_not r need hn).1 hh; rw [h3] at this; exact Bool.noConfusion this, hs, hE _ hs (by decide)⟩)
  have f0 := Lib.hid (fun w a F => @fnd_add w a F o k r d)
  have f1 := fun w a F => @fnd_1 w a F o k r d kind need
  have f2 := Lib.hid (fun w a F => @fnd_2 w a F o k r d kind need)
  have cA := Lib.hid (fun w' => @awake_b w w')
  generalize hV : valS 0 d = V at *
  clear hV
  rcases cases with ⟨h0, h3, h1, h2⟩ | ⟨h0, h3, h1, h2⟩ | ⟨h0, h3, h1, h2⟩
  · rw [h1, h2] at f1
    unfold Ent.agg Ent.zero at f1
    have f1 := Lib.hid f1
    have hb1 : (kind != 0) = true := by simp [h0]
    have hb2 : (kind != k) = true := by simp [h3]
    clear h1 h2
    go_enter Try.func8, Try.ntmps8
    go_wp2_with (first
      | (go_at_call 9; (with_reducible refine c1.mono ?_); rintro x w1 ⟨rfl, F1, h1, t1, l1⟩; obtain ⟨q0, q⟩ := HQ.out w1 t1; have qa := q 0; have qb := q 1; have qc := q 2; have qd := q 3; have qe := q 4; have qf := q 5; simp at qa qb qc qd qe qf; clear q; have K1 := Lib.hid (And.intro h1 (And.intro t1 l1)); clear h1 t1 l1)
      | (go_at_call 22; (with_reducible refine (f0.out _ _ _ K1.out.1).mono ?_); rintro x w2 ⟨rfl, F2, h2, t2, l2⟩; have t3 := K1.out.2.1.trans t2 (fun j hj => .inr (by rw [World.size_alloc]; exact K1.out.2.2 j hj)); obtain ⟨p0, p⟩ := HQ.out w2 t3; have pa := p 0; have pb := p 1; have pc := p 2; have pd := p 3; have pe := p 4; have pf := p 5; simp at pa pb pc pd pe pf; clear p; have K2 := Lib.hid (And.intro h2 t3); clear h2 t2 t3 l2)
      | (go_at_call 30; (with_reducible refine (f1.out _ _ _ K2.out.1).mono ?_); rintro x w3 ⟨rfl, t4⟩; have t5 := K2.out.2.trans t4 (fun _ h => .inl h); obtain ⟨o0, o'⟩ := HQ.out w3 t5; have oa := o' 0; have ob := o' 1; have oc := o' 2; have od := o' 3; have oe := o' 4; have of := o' 5; simp at oa ob oc od oe of; clear o'; have K3 := Lib.hid (And.intro (K2.out.1.past t4) t5); clear t4 t5)
      | (go_at_call 30; (with_reducible refine (f2.out _ _ _ (K3.out.1.past ((Turn.refl NoBlock _).alloc _))).mono ?_); rintro x w4 ⟨rfl, t6⟩; have t7 := (K3.out.2.trans ((Turn.refl NoBlock _).alloc _) (fun _ h => .inl h)).trans t6 (fun _ h => .inl h); have K4 := Lib.hid t7; clear t6 t7)
      | (go_at_call 10; (with_reducible refine (cA.out _ (((Turn.refl NoBlock w).alloc _).trans (K4.out.alloc _) (fun _ h => .inl h))).mono ?_); rintro x w5 ⟨rfl, t8⟩))
    go_ret
    exact ⟨rfl, t8⟩
  · rw [h1, h2] at f1
    unfold Ent.agg at f1
    have f1 := Lib.hid f1
    have hb1 : kind ≠ 0 → (kind != 0) = true := fun h => by simp [h]
    clear h1 h2
    rcases h0 with rfl | ⟨h0, rfl⟩
    all_goals
      try replace hb1 := hb1 h0
      go_enter Try.func8, Try.ntmps8
      go_wp2_with (first
        | (go_at_call 9; (with_reducible refine c1.mono ?_); rintro x w1 ⟨rfl, F1, h1, t1, l1⟩; obtain ⟨q0, q⟩ := HQ.out w1 t1; have qa := q 0; have qb := q 1; have qc := q 2; have qd := q 3; have qe := q 4; have qf := q 5; simp at qa qb qc qd qe qf; clear q; have K1 := Lib.hid (And.intro h1 (And.intro t1 l1)); clear h1 t1 l1)
        | (go_at_call 22; (with_reducible refine (f0.out _ _ _ K1.out.1).mono ?_); rintro x w2 ⟨rfl, F2, h2, t2, l2⟩; have t3 := K1.out.2.1.trans t2 (fun j hj => .inr (by rw [World.size_alloc]; exact K1.out.2.2 j hj)); obtain ⟨p0, p⟩ := HQ.out w2 t3; have pa := p 0; have pb := p 1; have pc := p 2; have pd := p 3; have pe := p 4; have pf := p 5; simp at pa pb pc pd pe pf; clear p; have K2 := Lib.hid (And.intro h2 t3); clear h2 t2 t3 l2)
        | (go_at_call 30; (with_reducible refine (f1.out _ _ _ K2.out.1).mono ?_); rintro x w3 ⟨rfl, t4⟩; have t5 := K2.out.2.trans t4 (fun _ h => .inl h); obtain ⟨o0, o'⟩ := HQ.out w3 t5; have oa := o' 0; have ob := o' 1; have oc := o' 2; have od := o' 3; have oe := o' 4; have of := o' 5; simp at oa ob oc od oe of; clear o'; have K3 := Lib.hid (And.intro (K2.out.1.past t4) t5); clear t4 t5)
        | (go_at_call 30; (with_reducible refine (f2.out _ _ _ (K3.out.1.past ((Turn.refl NoBlock _).alloc _))).mono ?_); rintro x w4 ⟨rfl, t6⟩; have t7 := (K3.out.2.trans ((Turn.refl NoBlock _).alloc _) (fun _ h => .inl h)).trans t6 (fun _ h => .inl h); have K4 := Lib.hid t7; clear t6 t7)
        | (go_at_call 10; (with_reducible refine (cA.out _ (((Turn.refl NoBlock w).alloc _).trans (K4.out.alloc _) (fun _ h => .inl h))).mono ?_); rintro x w5 ⟨rfl, t8⟩))
      go_ret
      exact ⟨rfl, t8⟩
  · rw [h1, h2] at f1
    unfold Ent.agg Ent.zero at f1
    have f1 := Lib.hid f1
    have hb1 : kind ≠ 0 → (kind != 0) = true := fun h => by simp [h]
    have hb2 : (bits .andNot .i64 need r != 0) = true := by simp [h3]
    clear h1 h2
    rcases h0 with rfl | ⟨h0, rfl⟩
    all_goals
      try replace hb1 := hb1 h0
      go_enter Try.func8, Try.ntmps8
      go_wp2_with (first
        | (go_at_call 9; (with_reducible refine c1.mono ?_); rintro x w1 ⟨rfl, F1, h1, t1, l1⟩; obtain ⟨q0, q⟩ := HQ.out w1 t1; have qa := q 0; have qb := q 1; have qc := q 2; have qd := q 3; have qe := q 4; have qf := q 5; simp at qa qb qc qd qe qf; clear q; have K1 := Lib.hid (And.intro h1 (And.intro t1 l1)); clear h1 t1 l1)
        | (go_at_call 22; (with_reducible refine (f0.out _ _ _ K1.out.1).mono ?_); rintro x w2 ⟨rfl, F2, h2, t2, l2⟩; have t3 := K1.out.2.1.trans t2 (fun j hj => .inr (by rw [World.size_alloc]; exact K1.out.2.2 j hj)); obtain ⟨p0, p⟩ := HQ.out w2 t3; have pa := p 0; have pb := p 1; have pc := p 2; have pd := p 3; have pe := p 4; have pf := p 5; simp at pa pb pc pd pe pf; clear p; have K2 := Lib.hid (And.intro h2 t3); clear h2 t2 t3 l2)
        | (go_at_call 30; (with_reducible refine (f1.out _ _ _ K2.out.1).mono ?_); rintro x w3 ⟨rfl, t4⟩; have t5 := K2.out.2.trans t4 (fun _ h => .inl h); obtain ⟨o0, o'⟩ := HQ.out w3 t5; have oa := o' 0; have ob := o' 1; have oc := o' 2; have od := o' 3; have oe := o' 4; have of := o' 5; simp at oa ob oc od oe of; clear o'; have K3 := Lib.hid (And.intro (K2.out.1.past t4) t5); clear t4 t5)
        | (go_at_call 30; (with_reducible refine (f2.out _ _ _ (K3.out.1.past ((Turn.refl NoBlock _).alloc _))).mono ?_); rintro x w4 ⟨rfl, t6⟩; have t7 := (K3.out.2.trans ((Turn.refl NoBlock _).alloc _) (fun _ h => .inl h)).trans t6 (fun _ h => .inl h); have K4 := Lib.hid t7; clear t6 t7)
        | (go_at_call 10; (with_reducible refine (cA.out _ (((Turn.refl NoBlock w).alloc _).trans (K4.out.alloc _) (fun _ h => .inl h))).mono ?_); rintro x w5 ⟨rfl, t8⟩))
      go_ret
      exact ⟨rfl, t8⟩
end Go.Proofs.Ytkligmabgmjojaa
