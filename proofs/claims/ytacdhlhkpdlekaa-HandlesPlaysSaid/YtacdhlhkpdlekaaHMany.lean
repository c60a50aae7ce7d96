/-
  What CloseMany of a table tells, and what it makes of its places. No conditions but that the table is one that calls can make, and that the numbers are numbers of 64 bits that lie apart from it.
-/
import Derived.Test.YtacdhlhkpdlekaaHClose
import Derived.Test.YtacdhlhkpdlekaaHIter
namespace Go.Proofs.Ytacdhlhkpdlekaa
open Go.ChangeShapes Go.WideShapes Go.ChangeAt Go.RowKit

/-- One after the other: the places, the entries that were closed, the status. -/
def manyL : List Pl → List Int → List Pl
  | L, [] => L
  | L, v :: vs => manyL (if v = 0 then L else closeL L v) vs
def manyE : List Pl → List Int → List Ent
  | _, [] => []
  | L, v :: vs => (if v = 0 then [] else if getS L v = 0 then [getE L v] else []) ++ manyE (if v = 0 then L else closeL L v) vs
def manyS : List Pl → List Int → Int → Int
  | _, [], s => s
  | L, v :: vs, s => manyS (if v = 0 then L else closeL L v) vs (if v = 0 then s else if getS L v = 0 then s else getS L v)

theorem manyL_snoc (L : List Pl) (l : List Int) (v : Int) : manyL L (l ++ [v]) = if v = 0 then manyL L l else closeL (manyL L l) v := by
  induction l generalizing L with
  | nil => rfl
  | cons x l ih => simp only [List.cons_append, manyL]; exact ih _
theorem manyE_snoc (L : List Pl) (l : List Int) (v : Int) : manyE L (l ++ [v]) = manyE L l ++ (if v = 0 then [] else if getS (manyL L l) v = 0 then [getE (manyL L l) v] else []) := by
  induction l generalizing L with
  | nil => simp only [List.nil_append, manyE, manyL, List.append_nil]; rfl
  | cons x l ih => simp only [List.cons_append, manyE, manyL, ih, List.append_assoc]; rfl
theorem manyS_snoc (L : List Pl) (l : List Int) (v s : Int) : manyS L (l ++ [v]) s = if v = 0 then manyS L l s else if getS (manyL L l) v = 0 then manyS L l s else getS (manyL L l) v := by
  induction l generalizing L s with
  | nil => rfl
  | cons x l ih => simp only [List.cons_append, manyS, manyL]; exact ih _ _

def entsOf (l : List Ent) : List Value := l.flatMap Ent.cells
theorem entsOf_snoc (l : List Ent) (e : Ent) : entsOf (l ++ [e]) = entsOf l ++ e.cells := by simp [entsOf]
theorem info33 : (Try.prog.info? 33).map (fun i => (i.zero, i.size, i.bytes)) = some (some (.agg #[.int .i64 0, .int .i64 0, .int .i64 0]), 3, 24) := by kernel_rfl
theorem slice42 : Try.prog.underlying 42 = some (.slice 33) := by kernel_rfl

/-- Entries in a slice of the call's own. -/
def Ents (v : Value) (xs : List Ent) (w : World) : Prop := w.ownsRow 0 33 3 v xs.length (entsOf xs)
theorem own_ents (v : Value) (xs : List Ent) : Own (Blk v) (Ents v xs) :=
  ⟨fun _ _ _ h ht hf => ht.own h hf, fun _ h k hk => by obtain ⟨cur, hc⟩ := own_block h hk; exact lt_of_block hc⟩
theorem ents_push {w w1 : World} {o : Obj} {v : Value} {xs : List Ent} {x : Ent} {n g c : Nat} (hn : xs.length = n)
    (hown : w1.ownsRow 0 33 3 (.slice (some ⟨g, 0, none⟩) (n + 1) c) (n + 1) (entsOf xs ++ [.int .i64 x.o, .int .i64 x.k, .int .i64 x.r]))
    (hgrow : (w.alloc o).grownBy w1 v.ownBlock) (hat : v.ownBlock = some g ∨ g = w.heap.size + 1) :
    Ents (.slice (some ⟨g, 0, none⟩) (n + 1) c) (xs ++ [x]) w1 ∧ Turn (Blk v) w w1 ∧ ∀ k, Blk (.slice (some ⟨g, 0, none⟩) (n + 1) c) k → Blk v k ∨ w.heap.size ≤ k := by
  refine ⟨?_, ((Turn.refl _ w).alloc o).grown hgrow (fun k hk => .inl hk), ?_⟩
  · unfold Ents
    rw [entsOf_snoc]
    simpa [hn, Ent.cells] using hown
  · intro k hk
    simp [Blk, Value.ownBlock] at hk
    subst hk
    rcases hat with h | h
    · exact .inl h
    · right; omega
theorem many_len (L : List Pl) (l : List Int) : (manyE L l).length ≤ l.length := by
  induction l generalizing L with
  | nil => simp [manyE]
  | cons x l ih =>
    simp only [manyE, List.length_append, List.length_cons]
    have h0 := ih (if x = 0 then L else closeL L x)
    have h1 : (if x = 0 then ([] : List Ent) else if getS L x = 0 then [getE L x] else []).length ≤ 1 := by
      split
      · simp
      · split <;> simp
    omega
end Go.Proofs.Ytacdhlhkpdlekaa
