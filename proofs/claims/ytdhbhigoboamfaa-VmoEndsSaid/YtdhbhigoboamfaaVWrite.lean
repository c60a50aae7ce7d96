/-
  Write's loop as plain data: what is written where; the bytes that are handed in. No walk, no conditions.
-/
import Derived.Test.YtdhbhigoboamfaaVCommit2
import Derived.Test.YtdhbhigoboamfaaVRead
import Derived.Deep.RegionHeld3
namespace Go.Proofs.Ytdhbhigoboamfaa
open Go.ChangeShapes Go.WideShapes Go.ChangeAt Go.RowKit

/-- Bytes that were handed in, apart from the set. -/
def SrcF (W : World) (s : Nat) (r : Rep) (v : Value) (bs : List UInt8) : Prop :=
  (∃ p c, v = .slice p 0 c ∧ bs = []) ∨ ∃ b off c, v = .slice (some ⟨b, off, none⟩) bs.length c ∧ bs.length ≤ c ∧ ¬ SFoot s r b ∧ b < W.heap.size ∧ ∀ j, j < bs.length → W.cell? ⟨b, off + j, none⟩ = some (.int .u8 ((bs.getD j 0).toNat : Int))
theorem SrcF.src {W : World} {s : Nat} {r : Rep} {v : Value} {bs : List UInt8} (h : SrcF W s r v bs) : Src W v bs := by
  rcases h with ⟨p, c, rfl, rfl⟩ | ⟨b, off, c, rfl, _, _, _, hc⟩
  · exact .inl ⟨⟨p, c, rfl⟩, rfl⟩
  · exact .inr ⟨b, off, c, rfl, hc⟩
theorem SrcF.next {W W' : World} {s : Nat} {r r' : Rep} {v : Value} {bs : List UInt8} (h : SrcF W s r v bs) (k : VNext W s r W' r') : SrcF W' s r' v bs := by
  rcases h with h | ⟨b, off, c, h1, h2, h3, h4, h5⟩
  · exact .inl h
  · refine .inr ⟨b, off, c, h1, h2, fun hb => ?_, Nat.lt_of_lt_of_le h4 k.turn.size, fun j hj => k.turn.cell (h5 j hj) h3⟩
    rcases k.foot b hb with e | e
    · exact h3 e
    · omega
theorem SrcF.len {W : World} {s : Nat} {r : Rep} {v : Value} {bs : List UInt8} (h : SrcF W s r v bs) : ∃ p c, v = .slice p bs.length c := by
  rcases h with ⟨p, c, rfl, rfl⟩ | ⟨b, off, c, rfl, _⟩
  · exact ⟨p, c, rfl⟩
  · exact ⟨_, c, rfl⟩
theorem SrcF.cut {W : World} {s : Nat} {r : Rep} {v : Value} {bs : List UInt8} (h : SrcF W s r v bs) (m : Nat) (h0 : 0 < m) (hm : m ≤ bs.length) :
    ∃ u x, (∀ w, Sem.run Try.prog (Instr.slice 22 v none (some (.int .i64 (m : Int))) none) w = .ok u w) ∧ (∀ w, Sem.run Try.prog (Instr.slice 22 v (some (.int .i64 (m : Int))) none none) w = .ok x w) ∧ SrcF W s r u (bs.take m) ∧ SrcF W s r x (bs.drop m) := by
  rcases h with ⟨p, c, rfl, rfl⟩ | ⟨b, off, c, rfl, hc, hf, hb, hcell⟩
  · simp at hm; omega
  have ht : Try.prog.underlying 22 = some (.slice (Try.prog.elem 22)) := by kernel_rfl
  have hsz : ∀ w, (sizeOf (Try.prog.elem 22)).run Try.prog w = .ok 1 w := fun w => by kernel_rfl
  refine ⟨.slice (some ⟨b, off, none⟩) m c, if c = m then .slice (some ⟨b, off, none⟩) (bs.length - m) (c - m) else .slice (some ⟨b, off + m, none⟩) (bs.length - m) (c - m), fun w => ?_, fun w => ?_, ?_, ?_⟩
  · have := run_slice_h (P := Try.prog) w 22 (some ⟨b, off, none⟩) bs.length c ht .i64 (m : Int) (by omega) (by omega)
    rw [hsz] at this
    simp only [Result.andThen, Int.toNat_natCast] at this
    rw [this]
    simp [sliced, Addr.add]
  · have := run_slice_l (P := Try.prog) w 22 (some ⟨b, off, none⟩) bs.length c ht .i64 (m : Int) (by omega) (by omega)
    rw [hsz] at this
    simp only [Result.andThen, Int.toNat_natCast] at this
    rw [this]
    by_cases e : c = m
    · subst e; simp [sliced]
    · simp [sliced, e, Addr.add]; omega
  · refine .inr ⟨b, off, c, ?_, ?_, hf, hb, fun j hj => ?_⟩
    · rw [List.length_take, Nat.min_eq_left hm]
    · rw [List.length_take]; omega
    · rw [List.length_take] at hj
      rw [hcell j (by omega)]
      simp [List.getD, show j < m by omega]
  · by_cases e : c = m
    · rw [if_pos e]
      refine .inl ⟨some ⟨b, off, none⟩, c - m, ?_, ?_⟩
      · rw [show bs.length - m = 0 by omega]
      · rw [List.drop_eq_nil_iff]; omega
    · rw [if_neg e]
      refine .inr ⟨b, off + m, c - m, ?_, ?_, hf, hb, fun j hj => ?_⟩
      · rw [List.length_drop]
      · rw [List.length_drop]; omega
      · rw [List.length_drop] at hj
        rw [Nat.add_assoc, hcell (m + j) (by omega)]
        simp [List.getD, List.getElem?_drop]

def frameOf (S : PL) (p : Pt) : Int := (S.g (p.pg : Int)).getD 0
def wstep (S : PL) (x : List Pg × List UInt8) (p : Pt) : List Pg × List UInt8 := (writeL x.1 (frameOf S p) p.at' (x.2.take p.n), x.2.drop p.n)
def wAll (S : PL) (bs : List UInt8) (ps : List Pt) : List Pg × List UInt8 := ps.foldl (wstep S) (S.L, bs)
theorem wAll_succ (S : PL) (bs : List UInt8) (ps : List Pt) (k : Nat) (p : Pt) (hk : ps[k]? = some p) : wAll S bs (ps.take (k + 1)) = wstep S (wAll S bs (ps.take k)) p := by
  obtain ⟨hlt, he⟩ := List.getElem?_eq_some_iff.1 hk
  unfold wAll
  rw [List.take_succ_eq_append_getElem hlt, List.foldl_append, he]
  rfl
def setL (M : Mod) (L : List Pg) : Mod := { M with L := L }
theorem goP_sum (k : Nat) : ∀ p i n, i < 64 → n ≤ k → ((goP k p i n).map Pt.n).sum = n := by
  induction k with
  | zero => intro p i n hi hn; simp [goP]; omega
  | succ k ih =>
    intro p i n hi hn
    rw [goP_succ]
    split
    · simp; omega
    · rw [List.map_cons, List.sum_cons, ih (p + 1) 0 _ (by omega) (by omega)]
      show min n (64 - i) + _ = n
      omega
theorem parts_sum (t n : Nat) : ((partsL t n).map Pt.n).sum = n := goP_sum n _ _ _ (Nat.mod_lt _ (by decide)) (Nat.le_refl _)

/-- What the loop of Write holds. -/
structure WIn (w wr : World) (s : Nat) (r : Rep) (M : Mod) (S : PL) (bs : List UInt8) (vp : Value) (ps : List Pt) (v : Value) (x : List Pg × List UInt8) (k : Nat) : Prop where
  eq : x = wAll S bs (ps.take k)
  mem : SMem wr s r (setL M x.1)
  parts : Parts vp ps wr
  apart : ∀ j, Blk vp j → ¬ SFoot s r j
  src : SrcF wr s r v x.2
  sum : x.2.length = ((ps.drop k).map Pt.n).sum
  turn : Turn (SFoot s r) w wr
theorem drop_sum {ps : List Pt} {k : Nat} {p : Pt} (h : ps[k]? = some p) : ((ps.drop k).map Pt.n).sum = p.n + ((ps.drop (k + 1)).map Pt.n).sum := by
  obtain ⟨hlt, he⟩ := List.getElem?_eq_some_iff.1 h
  rw [List.drop_eq_getElem_cons hlt, he]
  simp
theorem WIn.step {w wr w5 : World} {s : Nat} {r : Rep} {M : Mod} {S : PL} {bs : List UInt8} {vp v v2 : Value} {ps : List Pt} {x : List Pg × List UInt8} {k : Nat} {p : Pt} (h : WIn w wr s r M S bs vp ps v x k) (hp : ps[k]? = some p)
    {wx : World} (t : Turn NoBlock wr wx) (hP : PoolAt w5 r.p r.FP (writeL x.1 (frameOf S p) p.at' (x.2.take p.n))) (t5 : Turn r.FP wx w5) (hv2 : SrcF wr s r v2 (x.2.drop p.n)) : WIn w w5 s r M S bs vp ps v2 (wstep S x p) (k + 1) := by
  have m5 := (h.mem.past t).setPool hP t5 (fun j hj => .inl hj)
  have t5' : Turn (SFoot s r) wr w5 := (t.mono (G := SFoot s r) (fun _ h => h.elim)).trans t5 (fun j hj => .inl (.inr (.inr (.inl hj))))
  refine ⟨?_, m5, h.parts.past t5' h.apart, h.apart, hv2.next ⟨t5', fun j hj => .inl hj⟩, ?_, h.turn.trans t5' (fun j hj => .inl hj)⟩
  · rw [h.eq, wAll_succ _ _ _ _ _ hp]
  · have := h.sum
    rw [drop_sum hp] at this
    show (x.2.drop p.n).length = _
    rw [List.length_drop]
    omega
end Go.Proofs.Ytdhbhigoboamfaa
