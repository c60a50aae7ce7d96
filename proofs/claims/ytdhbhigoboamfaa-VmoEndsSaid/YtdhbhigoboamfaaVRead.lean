/-
  Read of a range that is within. No conditions but that the set is one that calls can make.
-/
import Derived.Test.YtdhbhigoboamfaaVBytes
import Derived.Test.YtdhbhigoboamfaaVBehind
import Derived.Test.YtdhbhigoboamfaaPCount
namespace Go.Proofs.Ytdhbhigoboamfaa
open Go.ChangeShapes Go.WideShapes Go.ChangeAt Go.RowKit

theorem pool_sized {w : World} {a : Nat} {F : Nat → Prop} {L : List Pg} (h : PoolAt w a F L) (f : Int) : (pgAt L f).bytes.length = 64 := by
  obtain ⟨vs, vf, cap, ps, fr, hM, ok, rfl, rfl⟩ := h
  unfold pgAt
  split
  · rw [List.getD_eq_getElem?_getD]
    cases hf : (padP cap ps)[f.toNat]? with
    | none => rfl
    | some p =>
      show p.bytes.length = 64
      unfold padP at hf
      by_cases hl : f.toNat < ps.length
      · rw [List.getElem?_append_left hl] at hf
        exact hM.sized _ p hf
      · rw [List.getElem?_append_right (by omega), List.getElem?_replicate] at hf
        split at hf
        · cases hf; rfl
        · cases hf
  · rfl
theorem goP_mem (k : Nat) : ∀ p i n, i < 64 → ∀ x ∈ goP k p i n, x.pg ≤ p + k ∧ x.at' + x.n ≤ 64 ∧ 0 < x.n := by
  induction k with
  | zero => intro p i n hi x hx; simp [goP] at hx
  | succ k ih =>
    intro p i n hi x hx
    rw [goP_succ] at hx
    split at hx
    · simp at hx
    · rcases List.mem_cons.1 hx with rfl | hx
      · exact ⟨by simp, by simp; omega, by simp; omega⟩
      · have := ih (p + 1) 0 _ (by omega) x hx
        exact ⟨by omega, this.2⟩
theorem goP_len (k : Nat) : ∀ p i n, (goP k p i n).length ≤ k := by
  induction k with
  | zero => intro p i n; simp [goP]
  | succ k ih =>
    intro p i n
    rw [goP_succ]
    split
    · simp
    · have := ih (p + 1) 0 (n - min n (64 - i))
      simp
      omega
theorem parts_mem {t n : Nat} {x : Pt} (hx : x ∈ partsL t n) : x.pg ≤ t / 64 + n ∧ x.at' + x.n ≤ 64 ∧ 0 < x.n := goP_mem n _ _ _ (Nat.mod_lt _ (by decide)) x hx
theorem parts_len (t n : Nat) : (partsL t n).length ≤ n := goP_len n _ _ _

def Held (M : Mod) : Prop := ∀ i o q f, M.O i = some o → o.pgs q = some f → usersL M.L f ≠ 0
def readAll (S : PL) (t n : Nat) : List UInt8 := (partsL t n).flatMap (byteL S)
theorem byteL_len {w : World} {a : Nat} {F : Nat → Prop} {S : PL} (h : PoolAt w a F S.L) (p : Pt) (hp : p.at' + p.n ≤ 64) : (byteL S p).length = p.n := by
  unfold byteL
  split
  · simp
  · rename_i f hf
    unfold readB
    rw [List.length_take, List.length_drop, pool_sized h f]
    omega

/-- What the loop of Read holds. -/
structure RIn (w wr : World) (S : PL) (v : Value) (ps : List Pt) (u : Value) (acc : List UInt8) (k : Nat) : Prop where
  parts : Parts v ps wr
  own : Byts u acc wr
  eq : acc = (ps.take k).flatMap (byteL S)
  turn : Turn NoBlock w wr
  fresh : ∀ j, Blk u j → w.heap.size ≤ j
  len : acc.length ≤ 64 * k
theorem RIn.push {w wr wx w1 : World} {S : PL} {v u : Value} {ps : List Pt} {acc : List UInt8} {k : Nat} {p : Pt} (h : RIn w wr S v ps u acc k) (t : Turn NoBlock wr wx) (hp : ps[k]? = some p) (hv : ∀ j, Blk v j → ¬ Blk u j) {bs : List UInt8} (hb : bs = byteL S p) (hl : bs.length ≤ 64) {g c N : Nat} (hN : acc.length = N)
    (hown : w1.ownsRow 0 5 1 (.slice (some ⟨g, 0, none⟩) (N + bs.length) c) (N + bs.length) (bcells acc ++ bcells bs)) (hgrow : wx.grownBy w1 u.ownBlock) (hat : u.ownBlock = some g ∨ g = wx.heap.size) :
    RIn w w1 S v ps (.slice (some ⟨g, 0, none⟩) (N + bs.length) c) (acc ++ bs) (k + 1) := by
  have hx : Turn (Blk u) wr w1 := ((t.mono (G := Blk u) (fun _ h => h.elim))).grown hgrow (fun j hj => .inl hj)
  refine ⟨h.parts.past hx hv, ?_, ?_, h.turn.trans hx (fun j hj => .inr (h.fresh j hj)), fun j hj => ?_, ?_⟩
  · unfold Byts
    rw [List.length_append, hN]
    have e : bcells (acc ++ bs) = bcells acc ++ bcells bs := by simp [bcells]
    rw [e]
    exact hown
  · obtain ⟨hlt, he⟩ := List.getElem?_eq_some_iff.1 hp
    rw [List.take_succ_eq_append_getElem hlt, List.flatMap_append, he, h.eq, hb]
    simp
  · simp [Blk, Value.ownBlock] at hj
    subst hj
    rcases hat with e | e
    · exact h.fresh _ e
    · have := h.turn.size
      have := t.size
      omega
  · have := h.len
    rw [List.length_append]
    omega
end Go.Proofs.Ytdhbhigoboamfaa
