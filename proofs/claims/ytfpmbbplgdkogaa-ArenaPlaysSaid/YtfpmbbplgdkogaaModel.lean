/-
  The arena as a plain value: slots (generation, taken, value) and the freed ones; what each call makes of it. No walk, no conditions.
-/
import Derived.Test.YtfpmbbplgdkogaaHeap
namespace Go.Proofs.Ytfpmbbplgdkogaa
open Go.RowKit

structure Slot where
  gen : Nat
  taken : Bool
  val : Value

structure Mod where
  cap : Nat
  slots : List Slot
  freed : List Nat

def Slot.cells (s : Slot) : List Value := [.int .i64 s.gen, .bool s.taken, s.val]
def cellsOf (l : List Slot) : List Value := l.flatMap Slot.cells
def natsOf (l : List Nat) : List Value := l.map fun (k : Nat) => .int .i64 (k : Int)

theorem cells_len (l : List Slot) : (cellsOf l).length = l.length * 3 := by
  induction l with
  | nil => rfl
  | cons s l ih => simp only [cellsOf, List.flatMap_cons, List.length_append, List.length_cons] at ih ⊢; simp only [Slot.cells, List.length_cons, List.length_nil]; omega

theorem cells_cons (s : Slot) (l : List Slot) : cellsOf (s :: l) = .int .i64 s.gen :: .bool s.taken :: s.val :: cellsOf l := rfl

theorem cells_at (l : List Slot) (i : Nat) (s : Slot) (h : l[i]? = some s) :
    (cellsOf l)[i * 3]? = some (.int .i64 s.gen) ∧ (cellsOf l)[i * 3 + 1]? = some (.bool s.taken) ∧ (cellsOf l)[i * 3 + 2]? = some s.val := by
  induction l generalizing i with
  | nil => simp at h
  | cons t l ih =>
    cases i with
    | zero => simp at h; subst h; simp [cells_cons]
    | succ i =>
      simp at h
      have h1 := ih i h
      have e : (i + 1) * 3 = i * 3 + 3 := by omega
      rw [e, cells_cons]
      exact h1

theorem cells_set (l : List Slot) (i : Nat) (s : Slot) (h : i < l.length) :
    cellsOf (l.set i s) = (((cellsOf l).set (i * 3) (.int .i64 s.gen)).set (i * 3 + 1) (.bool s.taken)).set (i * 3 + 2) s.val := by
  induction l generalizing i with
  | nil => simp at h
  | cons t l ih =>
    cases i with
    | zero => simp [cells_cons]
    | succ i =>
      have h1 := ih i (by simpa using h)
      have e : (i + 1) * 3 = i * 3 + 3 := by omega
      rw [List.set_cons_succ, e, cells_cons, cells_cons, h1]
      rfl

theorem cells_push (l : List Slot) (s : Slot) : cellsOf (l ++ [s]) = cellsOf l ++ s.cells := by
  simp [cellsOf]

def Mod.count (m : Mod) : Nat := m.slots.countP (·.taken)

/-- The slot that holds a value under id. -/
def Mod.find (m : Mod) (id : Int) : Option Nat :=
  if 0 ≤ id then
    match m.slots[(id % 65536).toNat]? with
    | some s => if s.taken = true ∧ (s.gen : Int) = id / 65536 then some (id % 65536).toNat else none
    | none => none
  else none

structure Mod.OK (m : Mod) : Prop where
  cap : m.cap ≤ 65536
  len : m.slots.length ≤ m.cap
  gen : ∀ (i : Nat) (s : Slot), m.slots[i]? = some s → s.gen ≤ 1073741824 ∧ s.val.oneCell' = true
  free : ∀ k ∈ m.freed, ∃ s, m.slots[k]? = some s ∧ s.taken = false ∧ s.gen < 1073741824
  once : m.freed.Nodup
  room : m.freed.length + m.count ≤ m.slots.length

/-- The slot that is taken next, and the arena without it among the freed ones. -/
def Mod.take (m : Mod) (z : Value) : Option (Nat × Mod) :=
  match m.freed.getLast? with
  | some k => some (k, { m with freed := m.freed.dropLast })
  | none => if m.slots.length = m.cap then none else some (m.slots.length, { m with slots := m.slots ++ [⟨0, false, z⟩] })

def Mod.put (m : Mod) (k : Nat) (s : Slot) : Mod := { m with slots := m.slots.set k s }

def Mod.genAt (m : Mod) (k : Nat) : Nat := (m.slots[k]?.map (·.gen)).getD 0

/-- What Alloc makes of it, and the id. -/
def Mod.alloc (m : Mod) (z v : Value) : Option (Int × Mod) :=
  match m.take z with
  | none => none
  | some (k, m1) => some (((m1.genAt k + 1 : Nat) : Int) * 65536 + k, m1.put k ⟨m1.genAt k + 1, true, v⟩)

def Mod.free (m : Mod) (z : Value) (k : Nat) : Mod :=
  { m with slots := m.slots.set k ⟨m.genAt k, false, z⟩, freed := if m.genAt k < 1073741824 then m.freed ++ [k] else m.freed }

def Mod.store (m : Mod) (k : Nat) (v : Value) : Mod := m.put k ⟨m.genAt k, true, v⟩

/-- The arena at block a, in the world w. -/
structure Holds (w : World) (te ts tn : TypeId) (a : Nat) (vs vf : Value) (m : Mod) : Prop where
  head : w.heap[a]? = some (.cells #[.int .i64 m.cap, vs, vf, .int .i64 m.count] te (0, 0))
  slots : w.ownsRow 0 ts 3 vs m.slots.length (cellsOf m.slots)
  freed : w.ownsRow 0 tn 1 vf m.freed.length (natsOf m.freed)

def Foot (a : Nat) (vs vf : Value) (k : Nat) : Prop := k = a ∨ vs.ownBlock = some k ∨ vf.ownBlock = some k

end Go.Proofs.Ytfpmbbplgdkogaa
