/-
  What one step of HandlesPlays holds at its switch; pieces of its code by the slot that they test. No walk, no conditions.
-/
import Derived.Test.YtacdhlhkpdlekaaHPl
namespace Go.Proofs.Ytacdhlhkpdlekaa
open Go.RowKit

def isT (n : Nat) : Operand → Bool
  | .tmp t => t == n
  | _ => false
/-- A piece of a function's code: the test of a slot, with all that hangs on it. -/
def findC (n : Nat) : Code → Option Code
  | .cond t x y => if isT n t = true then some (.cond t x y) else match findC n x with
    | some z => some z
    | none => findC n y
  | .seq x y => match findC n x with
    | some z => some z
    | none => findC n y
  | .loop x => findC n x
  | .block _ x => findC n x
  | .scope x => findC n x
  | _ => none
noncomputable def condC (n : Nat) : Code := (Try.f11.body.bind (findC n)).getD .skip
/-- The first loop. -/
def findL1 : Code → Option Code
  | .loop x => some (.loop x)
  | .seq x y => match findL1 x with
    | some z => some z
    | none => findL1 y
  | .block _ x => findL1 x
  | .scope x => findL1 x
  | .cond _ x y => match findL1 x with
    | some z => some z
    | none => findL1 y
  | _ => none
noncomputable def loopC : Code := (Try.f11.body.bind findL1).getD .skip

structure SwIn (w wr : World) (a : Nat) (F : Nat → Prop) (x : Nat) (G : Nat → Prop) (L : List Pl) (ob : Nat) (lv : Value) (lz : List Int) : Prop where
  inv : PInv w wr a F x G F G L L (fun j => j = ob ∨ Blk lv j)
  fr : FitR L
  ints : Ints lv lz wr
  fits : ∀ z ∈ lz, fit z
section
variable {w wr w2 : World} {a x ob : Nat} {F G F' G' F2 G2 B : Nat → Prop} {L L1 L2 : List Pl} {lv : Value} {lz : List Int}
theorem PInv.cell (h : PInv w wr a F x G F' G' L1 L2 B) {p : Addr} {v : Value} (hc : wr.cell? p = some v) (hB : B p.block) {T : Nat → Prop} (t : Turn T wr w2) (hT : ∀ j, T j → F' j ∨ G' j) : w2.cell? p = some v := by
  obtain ⟨-, h1, h2⟩ := h.hold _ hB
  exact t.cell hc (fun hj => (hT _ hj).elim h1 h2)
theorem PInv.ends (h : PInv w wr a F x G F' G' L1 L1 B) (hf : FitR L1) (hl : L1.length = L.length) : Stepped w a F x G L wr :=
  ⟨F', G', L1, hf, hl, h.holds (fun _ hj => hj.elim)⟩
theorem SwIn.nums (h : SwIn w wr a F x G L ob lv lz) : ∃ p c, lv = .slice p lz.length c ∧ NumsBy G wr p lz.length lz := by
  obtain ⟨p, c, rfl⟩ := ints_slice h.ints
  refine ⟨p, c, rfl, rfl, h.fits, fun h0 => ?_⟩
  obtain ⟨g, c', he, -, -⟩ := ints_shape h.ints h0
  simp only [Value.slice.injEq] at he
  obtain ⟨rfl, -, rfl⟩ := he
  exact ⟨g, 0, rfl, (h.inv.hold g (.inr rfl)).2.2, fun j hj => by rw [Nat.zero_add]; exact ints_cell h.ints j hj⟩
theorem nums_of {v : Value} {zs : List Int} {p : Option Addr} {len c : Nat} (h : Ints v zs w) (hv : v = .slice p len c) (hl : zs.length = len) (hz : ∀ z ∈ zs, fit z) (hb : ∀ j, Blk v j → ¬ F j) : NumsBy F w p len zs := by
  subst hv
  refine ⟨hl, hz, fun h0 => ?_⟩
  obtain ⟨g, c', he, -, -⟩ := ints_shape h (by omega)
  simp only [Value.slice.injEq] at he
  obtain ⟨rfl, -, rfl⟩ := he
  exact ⟨g, 0, rfl, hb g rfl, fun j hj => by rw [Nat.zero_add]; exact ints_cell h j (by omega)⟩
end
theorem ref_clear {w : World} {x : Nat} {G : Nat → Prop} {L : List Pl} (h : RefAt w x G L) :
    ∃ va ea, w.cell? ⟨x, 0, none⟩ = some va ∧ w.cell? ⟨x, 1, none⟩ = some ea ∧ (∀ j, w.frozen? ⟨x, j, none⟩ = false) ∧
      ∃ G', RefAt ((w.setCell ⟨x, 0, none⟩ (.slice none 0 0)).setCell ⟨x, 1, none⟩ (.slice none 0 0)) x G' (clearL L) ∧ Turn G w ((w.setCell ⟨x, 0, none⟩ (.slice none 0 0)).setCell ⟨x, 1, none⟩ (.slice none 0 0)) ∧ ∀ j, G' j → G j := by
  obtain ⟨va, ea, cap, R, hM, ok, rfl, rfl⟩ := h
  obtain ⟨h1, t1⟩ := hM.newV (ints_nil w) (Turn.refl _ _)
  obtain ⟨h2, t2⟩ := h1.newE (E' := []) (show REnts (.slice none 0 0) [] _ from World.ownsRow_nil _ _ _ _) (Turn.refl _ _)
  refine ⟨va, ea, hM.c0, hM.c1, hM.f, _, ⟨_, _, cap, [], h2, ROK.nil ok.top, rfl, ?_⟩, t1.trans t2 (fun j hj => ?_), fun j hj => ?_⟩
  · unfold clearL
    rw [padL_len ok.len]
    simp [padL]
  · rcases hj with hj | hj | hj
    · exact .inl (.inl hj)
    · simp [Value.ownBlock] at hj
    · exact .inl (.inr (.inr hj))
  · rcases hj with hj | hj | hj
    · exact .inl hj
    · simp [Value.ownBlock] at hj
    · simp [Value.ownBlock] at hj
theorem taken_len2 {w : World} {a : Nat} {F : Nat → Prop} {L : List Pl} (h : TableAt w a F L) : ((takenL L).map (·.e)).length ≤ 65536 := by
  rw [List.length_map]
  exact Nat.le_trans (List.length_filter_le _ _) h.len
theorem hasB_zero (a : Int) : hasB a 0 = true := (hasB_iff a 0 (by unfold fit; omega)).2 fun i _ h => by
  unfold bitB at h
  simp at h
theorem look00 (L : List Pl) (v : Int) : lookS L v 0 0 = getS L v ∧ lookE L v 0 0 = getE L v := by
  have h1 : lookS L v 0 0 = getS L v := by
    unfold lookS getS
    cases findL L v with
    | none => rfl
    | some k => simp [hasB_zero]
  refine ⟨h1, ?_⟩
  unfold lookE
  rw [h1]
  unfold getS getE
  cases findL L v with
  | none => rfl
  | some k => rfl
end Go.Proofs.Ytacdhlhkpdlekaa
