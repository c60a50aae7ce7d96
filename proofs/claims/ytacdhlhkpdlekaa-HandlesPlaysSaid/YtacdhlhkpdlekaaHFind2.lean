/-
  What Find and Close of a table answer, and what Close makes of its places. No conditions but that the table is one that calls can make, and that values are numbers of 64 bits.
-/
import Derived.Test.YtacdhlhkpdlekaaHFind
namespace Go.Proofs.Ytacdhlhkpdlekaa
open Go.ChangeShapes Go.WideShapes Go.ChangeAt Go.RowKit

def lookS (L : List Pl) (v kind need : Int) : Int := match findL L v with | none => -11 | some k => if kind ≠ 0 ∧ kind ≠ (entL L k).k then -12 else if hasB (entL L k).r need = true then 0 else -30
def lookE (L : List Pl) (v kind need : Int) : Ent := if lookS L v kind need = 0 then getE L v else Ent.zero
def closeL (L : List Pl) (v : Int) : List Pl := match findL L v with | some k => L.set k Pl.none | none => L

def zeros : Obj := .cells #[.int .i64 0, .int .i64 0, .int .i64 0] 33
/-- What Find does behind Get. -/
def coreS (S kind k r need : Int) : Int := if S ≠ 0 then S else if kind ≠ 0 ∧ kind ≠ k then -12 else if hasB r need = true then 0 else -30
def coreE (S kind o k r need : Int) : Ent := if coreS S kind k r need = 0 then ⟨o, k, r⟩ else Ent.zero

set_option maxRecDepth 20000 in
set_option maxHeartbeats 2000000 in
theorem find_core (w : World) (p : Addr) (v kind need o k r S : Int)
    (cg : Calls Try.prog 23 #[.pointer (some p), .int .i64 v] (w.alloc (.cells #[.int .i64 0, .int .i64 0, .int .i64 0] 33)) fun e w' => e = .returned (.tuple #[.agg #[.int .i64 o, .int .i64 k, .int .i64 r], .int .i64 S]) ∧ Turn NoBlock (w.alloc (.cells #[.int .i64 0, .int .i64 0, .int .i64 0] 33)) w') :
    Calls Try.prog 30 #[.pointer (some p), .int .i64 v, .int .i64 kind, .int .i64 need] w fun e w' => e = .returned (.tuple #[(coreE S kind o k r need).agg, .int .i64 (coreS S kind k r need)]) ∧ Turn NoBlock w w' := by
  have HQ : Hid (∀ w2, Turn NoBlock (w.alloc (.cells #[.int .i64 0, .int .i64 0, .int .i64 0] 33)) w2 → w.heap.size < w2.heap.size ∧ (∀ j, w2.cell? ⟨w.heap.size, j, none⟩ = (#[Value.int .i64 0, .int .i64 0, .int .i64 0])[j]?) ∧ ∀ j, w2.frozen? ⟨w.heap.size, j, none⟩ = false) := fun w2 h => by
    have hb : w2.heap[w.heap.size]? = some (.cells #[.int .i64 0, .int .i64 0, .int .i64 0] 33 (0, 0)) := h.heap (heap_alloc_new w _) (fun h => h)
    exact ⟨lt_of_block hb, fun j => cell_at hb j, fun j => free_at hb j⟩
  have cases : (S ≠ 0 ∧ coreS S kind k r need = S ∧ coreE S kind o k r need = Ent.zero) ∨ (S = 0 ∧ kind ≠ 0 ∧ kind ≠ k ∧ coreS S kind k r need = -12 ∧ coreE S kind o k r need = Ent.zero) ∨
      (S = 0 ∧ (kind = 0 ∨ (kind ≠ 0 ∧ k = kind)) ∧ hasB r need = true ∧ coreS S kind k r need = 0 ∧ coreE S kind o k r need = ⟨o, k, r⟩) ∨ (S = 0 ∧ (kind = 0 ∨ (kind ≠ 0 ∧ k = kind)) ∧ hasB r need = false ∧ coreS S kind k r need = -30 ∧ coreE S kind o k r need = Ent.zero) := by
    have hE : ∀ z, coreS S kind k r need = z → z ≠ 0 → coreE S kind o k r need = Ent.zero := fun z h1 h2 => by unfold coreE; rw [h1, if_neg h2]
    by_cases h0 : S = 0
    · subst h0
      by_cases h1 : kind ≠ 0 ∧ kind ≠ k
      · have hs : coreS 0 kind k r need = -12 := by unfold coreS; rw [if_neg (by simp), if_pos h1]
        exact .inr (.inl ⟨rfl, h1.1, h1.2, hs, hE _ hs (by decide)⟩)
      · have h2 : kind = 0 ∨ (kind ≠ 0 ∧ k = kind) := by omega
        cases h3 : hasB r need with
        | true =>
          have hs : coreS 0 kind k r need = 0 := by unfold coreS; rw [if_neg (by simp), if_neg h1, h3]; rfl
          exact .inr (.inr (.inl ⟨rfl, h2, rfl, hs, by unfold coreE; rw [hs]; rfl⟩))
        | false =>
          have hs : coreS 0 kind k r need = -30 := by unfold coreS; rw [if_neg (by simp), if_neg h1, h3]; rfl
          exact .inr (.inr (.inr ⟨rfl, h2, rfl, hs, hE _ hs (by decide)⟩))
    · have hs : coreS S kind k r need = S := by unfold coreS; rw [if_pos h0]
      exact .inl ⟨h0, hs, hE _ hs h0⟩
  rcases cases with ⟨h0, h1, h2⟩ | ⟨rfl, h0, h3, h1, h2⟩ | ⟨rfl, h0, h3, h1, h2⟩ | ⟨rfl, h0, h3, h1, h2⟩
  · rw [h1, h2]
    clear h1 h2
    go_enter Try.func30, Try.ntmps30
    go_wp2_with (first
      | (go_at_call 23; (with_reducible refine cg.mono ?_); rintro e w2 ⟨rfl, hT⟩; obtain ⟨q1, q2, q3⟩ := HQ.out w2 hT; have HT := Lib.hid hT; have q4 := q2 0; have q5 := q2 1; have q6 := q2 2; clear hT; simp at q4 q5 q6)
      | (go_at_call 46; (with_reducible refine (need_any _ _ _).mono ?_); rintro e w3 ⟨rfl, rfl⟩))
    (try simp only [Exit.inBlock, Exit.then])
    refine bodyPost_ret (v := .tuple #[Ent.zero.agg, .int .i64 S]) (by rw [results_cell_tmp rfl]; unfold Ent.agg Ent.zero; go_simp) rfl ⟨rfl, ?_⟩
    repeat' (first | exact (Turn.refl NoBlock w).trans ((Turn.refl NoBlock w).alloc _) (fun _ h => .inl h) |>.trans HT.out (fun _ h => .inl h) | exact Turn.refl _ _ | refine Turn.drew ?_ | refine Turn.alloc ?_ _ | refine Turn.setCell ?_ (.inr (by simp <;> omega)) _)
  · rw [h1, h2]
    clear h1 h2
    have hb1 : (kind != 0) = true := by simp [h0]
    have hb2 : (kind != k) = true := by simp [h3]
    go_enter Try.func30, Try.ntmps30
    go_wp2_with (first
      | (go_at_call 23; (with_reducible refine cg.mono ?_); rintro e w2 ⟨rfl, hT⟩; obtain ⟨q1, q2, q3⟩ := HQ.out w2 hT; have HT := Lib.hid hT; have q4 := q2 0; have q5 := q2 1; have q6 := q2 2; clear hT; simp at q4 q5 q6)
      | (go_at_call 46; (with_reducible refine (need_any _ _ _).mono ?_); rintro e w3 ⟨rfl, rfl⟩))
    (try simp only [Exit.inBlock, Exit.then])
    refine bodyPost_ret (v := .tuple #[Ent.zero.agg, .int .i64 (-12)]) (by rw [results_cell_tmp rfl]; unfold Ent.agg Ent.zero; go_simp) rfl ⟨rfl, ?_⟩
    repeat' (first | exact (Turn.refl NoBlock w).trans ((Turn.refl NoBlock w).alloc _) (fun _ h => .inl h) |>.trans HT.out (fun _ h => .inl h) | exact Turn.refl _ _ | refine Turn.drew ?_ | refine Turn.alloc ?_ _ | refine Turn.setCell ?_ (.inr (by simp <;> omega)) _)
  · rw [h1, h2]
    clear h1 h2
    have h4 : needV (hasB r need) = 0 := by rw [h3]; rfl
    clear h3
    have hb1 : kind ≠ 0 → (kind != 0) = true := fun h => by simp [h]
    rcases h0 with rfl | ⟨h0, rfl⟩
    all_goals
      try replace hb1 := hb1 h0
      go_enter Try.func30, Try.ntmps30
      go_wp2_with (first
        | (go_at_call 23; (with_reducible refine cg.mono ?_); rintro e w2 ⟨rfl, hT⟩; obtain ⟨q1, q2, q3⟩ := HQ.out w2 hT; have HT := Lib.hid hT; have q4 := q2 0; have q5 := q2 1; have q6 := q2 2; clear hT; simp at q4 q5 q6)
        | (go_at_call 46; (with_reducible refine (need_any _ _ _).mono ?_); rintro e w3 ⟨rfl, rfl⟩))
      (try simp only [Exit.inBlock, Exit.then])
      refine bodyPost_ret (v := .tuple #[Ent.agg ⟨o, _, r⟩, .int .i64 0]) (by rw [results_cell_tmp rfl]; unfold Ent.agg; go_simp) rfl ⟨rfl, ?_⟩
      repeat' (first | exact (Turn.refl NoBlock w).trans ((Turn.refl NoBlock w).alloc _) (fun _ h => .inl h) |>.trans HT.out (fun _ h => .inl h) | exact Turn.refl _ _ | refine Turn.drew ?_ | refine Turn.alloc ?_ _ | refine Turn.setCell ?_ (.inr (by simp <;> omega)) _)
  · rw [h1, h2]
    clear h1 h2
    have h4 : needV (hasB r need) = -30 := by rw [h3]; rfl
    clear h3
    have hb1 : kind ≠ 0 → (kind != 0) = true := fun h => by simp [h]
    rcases h0 with rfl | ⟨h0, rfl⟩
    all_goals
      try replace hb1 := hb1 h0
      go_enter Try.func30, Try.ntmps30
      go_wp2_with (first
        | (go_at_call 23; (with_reducible refine cg.mono ?_); rintro e w2 ⟨rfl, hT⟩; obtain ⟨q1, q2, q3⟩ := HQ.out w2 hT; have HT := Lib.hid hT; have q4 := q2 0; have q5 := q2 1; have q6 := q2 2; clear hT; simp at q4 q5 q6)
        | (go_at_call 46; (with_reducible refine (need_any _ _ _).mono ?_); rintro e w3 ⟨rfl, rfl⟩))
      (try simp only [Exit.inBlock, Exit.then])
      refine bodyPost_ret (v := .tuple #[Ent.zero.agg, .int .i64 (-30)]) (by rw [results_cell_tmp rfl]; unfold Ent.agg Ent.zero; go_simp) rfl ⟨rfl, ?_⟩
      repeat' (first | exact (Turn.refl NoBlock w).trans ((Turn.refl NoBlock w).alloc _) (fun _ h => .inl h) |>.trans HT.out (fun _ h => .inl h) | exact Turn.refl _ _ | refine Turn.drew ?_ | refine Turn.alloc ?_ _ | refine Turn.setCell ?_ (.inr (by simp <;> omega)) _)

theorem look_any {w : World} {a : Nat} {F : Nat → Prop} {L : List Pl} (h : TableAt w a F L) (v kind need : Int) (hv : fit v) :
    Calls Try.prog 30 #[.pointer (some ⟨a, 0, none⟩), .int .i64 v, .int .i64 kind, .int .i64 need] w fun e w' => e = .returned (.tuple #[(lookE L v kind need).agg, .int .i64 (lookS L v kind need)]) ∧ Turn NoBlock w w' := by
  have hg := get_any (h.past ((Turn.refl NoBlock w).alloc (.cells #[.int .i64 0, .int .i64 0, .int .i64 0] 33))) v hv
  have hS : lookS L v kind need = coreS (getS L v) kind (getE L v).k (getE L v).r need := by
    unfold lookS coreS getS getE
    cases findL L v with
    | none => rfl
    | some k => rfl
  have hE : lookE L v kind need = coreE (getS L v) kind (getE L v).o (getE L v).k (getE L v).r need := by
    unfold lookE coreE
    rw [hS]
  rw [hS, hE]
  exact find_core w _ v kind need _ _ _ _ hg
end Go.Proofs.Ytacdhlhkpdlekaa
