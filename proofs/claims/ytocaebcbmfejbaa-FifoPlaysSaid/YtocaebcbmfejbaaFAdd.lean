/-
  Bytes that can be read and cut; what copy leaves. No walk of the program, no conditions.
-/
import Derived.Test.YtocaebcbmfejbaaFRound
import Derived.Laws.IdiomCopy
namespace Go.Proofs.Ytocaebcbmfejbaa
open Go.ChangeShapes Go.WideShapes Go.ChangeAt Go.RowKit Go.Shelf

/-- Bytes that can be read, and their slice be cut; it lies in no block of F. -/
structure Rk (w : World) (v : Value) (b : List UInt8) : Prop where
  sl : ∃ p c, v = .slice p b.length c ∧ b.length ≤ c
  rz : RzB w v b
def Off (v : Value) (g : Nat) : Prop := ∀ k, Blk v k → k ≠ g
theorem Rk.past {w w' : World} {v : Value} {b : List UInt8} (h : Rk w v b) (t : Turn NoBlock w w') : Rk w' v b := ⟨h.sl, h.rz.past t⟩
theorem Rk.kept {w w' : World} {v : Value} {b : List UInt8} {F : Nat → Prop} (h : Rk w v b) (t : Turn F w w') (hF : ∀ g, F g → Off v g) : Rk w' v b := by
  refine ⟨h.sl, h.rz.sl, h.rz.nil, fun h0 => ?_⟩
  have hr := h.rz.rd h0
  refine ⟨hr.len, ?_⟩
  obtain ⟨p, c, rfl, hz, hc⟩ := hr.form
  refine ⟨p, c, rfl, hz, fun a ha => ?_⟩
  obtain ⟨g, o, rfl, hj⟩ := hc a ha
  refine ⟨g, o, rfl, fun j hjn => ?_⟩
  have e := hj j hjn
  rw [← e]
  have hlt : j < (bcells b).length := by rw [hr.len]; exact hjn
  rw [List.getElem?_eq_getElem hlt] at e
  exact (t.cell e (fun hf => hF _ hf g (by rw [ha]; rfl) rfl)).trans e.symm
theorem Byts.rk {w : World} {v : Value} {b : List UInt8} (h : Byts v b w) : Rk w v b := by
  refine ⟨?_, h.rd.rz⟩
  rcases h.form with ⟨rfl, h0⟩ | ⟨g, o, cap, rfl, h1, -⟩
  · exact ⟨none, 0, by rw [h0], by omega⟩
  · exact ⟨_, cap, rfl, h1⟩
theorem elem_bytes : Try.prog.underlying 35 = some (.slice (Try.prog.elem 35)) := by kernel_rfl
theorem size_bytes (w : World) : (Go.sizeOf (Try.prog.elem 35)).run Try.prog w = .ok 1 w := by kernel_rfl
theorem elem5 : (Try.prog.info? 5).map (·.size) = some 1 := by kernel_rfl
theorem rk_drop {w : World} {v : Value} {b : List UInt8} (h : Rk w v b) {n : Nat} (hn : n ≤ b.length) :
    ∃ p c, (∀ w, Sem.run Try.prog (Instr.slice 35 v (some (.int .i64 (n : Int))) none none) w = .ok (.slice p (b.length - n) c) w) ∧ Rk w (.slice p (b.length - n) c) (b.drop n) ∧ ∀ g, Off v g → Off (.slice p (b.length - n) c) g := by
  obtain ⟨p, c, rfl, hc⟩ := h.sl
  have hln : (b.drop n).length = b.length - n := by rw [List.length_drop]
  obtain ⟨q, hq⟩ : ∃ q, q = (if c = n then p else p.map (·.add (n * 1))) := ⟨_, rfl⟩
  have hrun : ∀ w, Sem.run Try.prog (Instr.slice 35 (.slice p b.length c) (some (.int .i64 (n : Int))) none none) w = .ok (.slice q (b.length - n) (c - n)) w := by
    intro w
    have := run_slice_l (P := Try.prog) w 35 p b.length c elem_bytes .i64 (n : Int) (by omega) (by omega)
    rw [size_bytes w] at this
    simp only [Result.andThen, Int.toNat_natCast] at this
    rw [this, hq]
    by_cases h0 : c = n
    · subst h0
      have : b.length = c := by omega
      simp [sliced, this]
    · simp [sliced, h0]
  have hblk : ∀ g, Off (.slice p b.length c) g → Off (.slice q (b.length - n) (c - n)) g := by
    intro g ho k hk
    refine ho k ?_
    rw [hq] at hk
    by_cases h0 : c = n
    · rw [if_pos h0] at hk
      cases p with
      | none => exact hk
      | some a => exact hk
    · rw [if_neg h0] at hk
      cases p with
      | none => exact hk
      | some a =>
        have h1 : a.block = k := by
          have h2 : (a.add (n * 1)).block = k := by simpa [Blk, Value.ownBlock] using hk
          rw [← h2]; unfold Addr.add; split <;> rfl
        rw [← h1]; rfl
  refine ⟨q, c - n, hrun, ⟨⟨_, _, by rw [hln], by rw [hln]; omega⟩, ⟨⟨_, _, by rw [hln]⟩, fun h0 => by rw [List.eq_nil_of_length_eq_zero h0]; rfl, fun h0 => ?_⟩⟩, hblk⟩
  rw [hln] at h0 ⊢
  have hr := h.rz.rd (by omega)
  obtain ⟨p', c', he, hz, hcell⟩ := hr.form
  simp only [Value.slice.injEq, true_and] at he
  obtain ⟨rfl, rfl⟩ := he
  cases p with
  | none => have := hz rfl; omega
  | some a =>
    obtain ⟨g, o, rfl, hj⟩ := hcell a rfl
    rw [if_neg (by omega)] at hq
    subst hq
    refine ⟨by rw [bcells_len, hln]; omega, _, c - n, rfl, (fun h1 => by cases h1), fun a' ha => ?_⟩
    simp only [Option.map_some, Option.some.injEq] at ha
    subst ha
    refine ⟨g, o + n, by simp [Addr.add_lit], fun j hjn => ?_⟩
    rw [Nat.add_assoc, hj (n + j) (by omega)]
    unfold bcells
    rw [List.map_drop, List.getElem?_drop]
/-- What copy leaves, where there is something to be copied. -/
theorem copy_row (w : World) (g a dl dc k : Nat) (v : Value) (xs : List UInt8) (h : RzB w v xs) (h0 : 0 < xs.length) (hk : min xs.length dl = k) (hc : ∀ j, j < k → (w.cell? ⟨g, a + j, none⟩).isSome = true) (hf : ∀ j, w.frozen? ⟨g, j, none⟩ = false) :
    ∀ ty, (Builtin.copy_ #[35, 35] ty #[.slice (some ⟨g, a, none⟩) dl dc, v]).run Try.prog w = .ok (goInt k) (w.setCells g a (bcells (xs.take k))) := by
  intro ty
  have hr := h.rd h0
  obtain ⟨p, c, rfl, hz, hcell⟩ := hr.form
  cases p with
  | none => have := hz rfl; omega
  | some b =>
    obtain ⟨gb, o, rfl, hj⟩ := hcell b rfl
    have hl : (bcells (xs.take k)).length = k := by rw [bcells_len, List.length_take]; omega
    have := run_copy_cells (P := Try.prog) w 35 35 ty 5 g a dl dc ⟨gb, o, none⟩ xs.length c (bcells (xs.take k)) bytesT elem5 (by rw [hl]; exact hk.symm) (fun j u hu => ?_) (fun j hj' => hc j (by rw [hl] at hj'; exact hj')) (fun j _ => hf _) (bcells_one _)
    · rw [hl] at this; exact this
    · have hlt := (List.getElem?_eq_some_iff.1 hu).1
      rw [hl] at hlt
      rw [Addr.add_lit, hj j (by omega), ← hu]
      unfold bcells
      rw [List.map_take, List.getElem?_take_of_lt hlt]
/-- Bytes laid over a row's. -/
theorem byts_sets {w : World} {g m a : Nat} {bs e : List UInt8} (h : Byts (.slice (some ⟨g, 0, none⟩) m m) bs w) (ha : a + e.length ≤ bs.length) :
    Byts (.slice (some ⟨g, 0, none⟩) m m) (overB bs a e) (w.setCells g a (bcells e)) ∧ Turn (fun k => k = g) w (w.setCells g a (bcells e)) := by
  refine ⟨?_, wturn_sets (F := fun k => k = g) rfl _ _ _ _ (Turn.refl _ w)⟩
  have hlen : (overB bs a e).length = bs.length := overB_len ha
  unfold Byts at h ⊢
  rw [hlen]
  refine ⟨by rw [bcells_len, hlen, Nat.mul_one], ?_⟩
  rcases h.form with ⟨h1, _⟩ | ⟨g', o, cap, h1, h2, h3, h4, h5, h6⟩
  · cases h1
  · simp only [Value.slice.injEq, Option.some.injEq, Addr.mk.injEq, and_true] at h1
    obtain ⟨⟨rfl, rfl⟩, rfl, rfl⟩ := h1
    have hs : ∀ j, (w.setCells g a (bcells e)).cell? ⟨g, 0 + j, none⟩ = if a ≤ j ∧ j < a + e.length then (bcells e)[j - a]? else w.cell? ⟨g, 0 + j, none⟩ := by
      intro j
      by_cases hj : a ≤ j ∧ j < a + e.length
      · rw [if_pos hj]
        have := World.cell?_setCells_in g (bcells e) a w (fun i hi => by rw [bcells_len] at hi; have := h6 (a + i) (by omega); rwa [Nat.zero_add] at this) (j - a) (by rw [bcells_len]; omega)
        rw [List.getElem?_eq_getElem (by rw [bcells_len]; omega), ← this]
        congr 2
        omega
      · rw [if_neg hj]
        exact World.cell?_setCells_out g (bcells e) a w _ (fun _ _ => by rw [bcells_len]; simp; omega)
    refine .inr ⟨g, 0, _, rfl, h2, h3, TBlk.sets _ _ _ _ h4, fun j hj => ?_, fun j hj => ?_⟩
    · rw [hs j]
      unfold bcells
      rw [List.getElem?_map, List.getElem?_map, overB_get ha]
      by_cases hja : a ≤ j ∧ j < a + e.length
      · rw [if_pos hja, if_pos hja]
      · rw [if_neg hja, if_neg hja, h5 j hj]
        unfold bcells
        rw [List.getElem?_map]
    · rw [hs j]
      by_cases hja : a ≤ j ∧ j < a + e.length
      · rw [if_pos hja, List.getElem?_eq_getElem (by rw [bcells_len]; omega)]; rfl
      · rw [if_neg hja]; exact h6 j hj
end Go.Proofs.Ytocaebcbmfejbaa
