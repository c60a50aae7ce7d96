/-
  A channel as plain data, and in memory. No walk, no conditions.
-/
import Derived.Test.YtcbphfpfdfgehaaCRow
namespace Go.Proofs.Ytcbphfpfdfgehaa
open Go.RowKit

/-- A message. -/
structure Msg where
  tx : Int
  d : List UInt8
  h : List Int
deriving DecidableEq
/-- A caller that waits. -/
structure Wt where
  who : Int
  tx : Int
deriving DecidableEq
/-- An end: is it open, its queue, who waits there. -/
structure MS where
  op : Bool
  q : List Msg
  ws : List Wt

def Msg.fits (m : Msg) : Prop := m.d.length ≤ 4096 ∧ m.h.length ≤ 64
def bcells (bs : List UInt8) : List Value := bs.map (fun b => Value.int .u8 (b.toNat : Int))
theorem bcells_len (bs : List UInt8) : (bcells bs).length = bs.length := by simp [bcells]
theorem bcells_one (bs : List UInt8) : ∀ u ∈ bcells bs, u.oneCell' = true := by
  intro u hu
  obtain ⟨b, _, rfl⟩ := List.mem_map.1 hu
  rfl
def icells (xs : List Int) : List Value := xs.map (Value.int .i64)
theorem icells_len (xs : List Int) : (icells xs).length = xs.length := by simp [icells]
theorem icells_one (xs : List Int) : ∀ u ∈ icells xs, u.oneCell' = true := by
  intro u hu
  obtain ⟨b, _, rfl⟩ := List.mem_map.1 hu
  rfl
/-- Bytes, integers in slices of the call's own. -/
def Byts (v : Value) (bs : List UInt8) (w : World) : Prop := WRow w 5 1 v bs.length (bcells bs)
def Nums (v : Value) (xs : List Int) (w : World) : Prop := WRow w 3 1 v xs.length (icells xs)
theorem Byts.kept {w w' : World} {F : Nat → Prop} {v : Value} {bs : List UInt8} (h : Byts v bs w) (t : Turn F w w') (hF : ∀ k, Blk v k → ¬ F k) : Byts v bs w' := WRow.kept h t hF
theorem Nums.kept {w w' : World} {F : Nat → Prop} {v : Value} {xs : List Int} (h : Nums v xs w) (t : Turn F w w') (hF : ∀ k, Blk v k → ¬ F k) : Nums v xs w' := WRow.kept h t hF
theorem Byts.past {w w' : World} {v : Value} {bs : List UInt8} (h : Byts v bs w) (t : Turn NoBlock w w') : Byts v bs w' := h.kept t (fun _ _ h => h)
theorem Nums.past {w w' : World} {v : Value} {xs : List Int} (h : Nums v xs w) (t : Turn NoBlock w w') : Nums v xs w' := h.kept t (fun _ _ h => h)

theorem bytesT : Try.prog.underlying 35 = some (.slice 5) := by kernel_rfl
theorem intsT : Try.prog.underlying 36 = some (.slice 3) := by kernel_rfl
theorem msgsT : Try.prog.underlying 42 = some (.slice 49) := by kernel_rfl
theorem waitsT : Try.prog.underlying 83 = some (.slice 126) := by kernel_rfl
theorem infoB : (Try.prog.info? 5).map (fun i => (i.zero, i.size, i.bytes)) = some (some (.int .u8 0), 1, 1) := by kernel_rfl
theorem infoI : (Try.prog.info? 3).map (fun i => (i.zero, i.size, i.bytes)) = some (some (.int .i64 0), 1, 8) := by kernel_rfl
theorem infoM : (Try.prog.info? 49).map (fun i => (i.zero, i.size, i.bytes)) = some (some (.agg #[.int .i64 0, .slice none 0 0, .slice none 0 0]), 3, 56) := by kernel_rfl
theorem infoW : (Try.prog.info? 126).map (fun i => (i.zero, i.size, i.bytes)) = some (some (.agg #[.int .i64 0, .int .i64 0]), 2, 16) := by kernel_rfl

/-- A message that stands in a queue: its data, and where its bytes and handles lie. -/
structure QM where
  m : Msg
  vd : Value
  vh : Value
def QM.cells (q : QM) : List Value := [.int .i64 q.m.tx, q.vd, q.vh]
def QM.agg (q : QM) : Value := .agg #[.int .i64 q.m.tx, q.vd, q.vh]
structure QM.Ok (w : World) (q : QM) : Prop where
  d : Byts q.vd q.m.d w
  h : Nums q.vh q.m.h w
  fits : q.m.fits
def QM.F (q : QM) (k : Nat) : Prop := Blk q.vd k ∨ Blk q.vh k
theorem QM.Ok.kept {w w' : World} {G : Nat → Prop} {q : QM} (h : q.Ok w) (t : Turn G w w') (hF : ∀ k, q.F k → ¬ G k) : q.Ok w' :=
  ⟨h.d.kept t (fun k hk => hF k (.inl hk)), h.h.kept t (fun k hk => hF k (.inr hk)), h.fits⟩
theorem QM.Ok.lt {w : World} {q : QM} (h : q.Ok w) {k : Nat} (hk : q.F k) : k < w.heap.size := by
  rcases hk with hk | hk
  · exact WRow.lt h.d hk
  · exact WRow.lt h.h hk
theorem slice_one {v : Value} {w : World} {e size n : Nat} {xs : List Value} (h : WRow w e size v n xs) : v.oneCell' = true := by
  obtain ⟨p, c, rfl⟩ := h.sl
  rfl
theorem QM.Ok.one {w : World} {q : QM} (h : q.Ok w) : ∀ u ∈ q.cells, u.oneCell' = true := by
  intro u hu
  simp [QM.cells] at hu
  rcases hu with rfl | rfl | rfl
  · rfl
  · exact slice_one h.d
  · exact slice_one h.h
def qcells (l : List QM) : List Value := l.flatMap QM.cells
theorem qcells_app (l m : List QM) : qcells (l ++ m) = qcells l ++ qcells m := by simp [qcells]
theorem qcells_cons (q : QM) (l : List QM) : qcells (q :: l) = q.cells ++ qcells l := rfl
theorem qcells_len (l : List QM) : (qcells l).length = l.length * 3 := by
  induction l with
  | nil => rfl
  | cons p l ih => rw [qcells_cons, List.length_append, ih, List.length_cons]; show 3 + _ = _; omega
theorem qcells_at (l : List QM) (i : Nat) (q : QM) (hq : l[i]? = some q) (j : Nat) (hj : j < 3) : (qcells l)[i * 3 + j]? = q.cells[j]? := by
  induction l generalizing i with
  | nil => simp at hq
  | cons t l ih =>
    have ht : t.cells.length = 3 := rfl
    cases i with
    | zero =>
      simp at hq
      subst hq
      rw [qcells_cons, Nat.zero_mul, Nat.zero_add, List.getElem?_append_left (by rw [ht]; exact hj)]
    | succ i =>
      simp at hq
      have h1 := ih i hq
      rw [qcells_cons, List.getElem?_append_right (by rw [ht]; omega), ht, show (i + 1) * 3 + j - 3 = i * 3 + j by omega]
      exact h1
def Wt.cells (t : Wt) : List Value := [.int .i64 t.who, .int .i64 t.tx]
def Wt.agg (t : Wt) : Value := .agg #[.int .i64 t.who, .int .i64 t.tx]
def wcells (l : List Wt) : List Value := l.flatMap Wt.cells
theorem wcells_app (l m : List Wt) : wcells (l ++ m) = wcells l ++ wcells m := by simp [wcells]
theorem wcells_cons (q : Wt) (l : List Wt) : wcells (q :: l) = q.cells ++ wcells l := rfl
theorem wcells_len (l : List Wt) : (wcells l).length = l.length * 2 := by
  induction l with
  | nil => rfl
  | cons p l ih => rw [wcells_cons, List.length_append, ih, List.length_cons]; show 2 + _ = _; omega
theorem wcells_at (l : List Wt) (i : Nat) (q : Wt) (hq : l[i]? = some q) (j : Nat) (hj : j < 2) : (wcells l)[i * 2 + j]? = q.cells[j]? := by
  induction l generalizing i with
  | nil => simp at hq
  | cons t l ih =>
    have ht : t.cells.length = 2 := rfl
    cases i with
    | zero =>
      simp at hq
      subst hq
      rw [wcells_cons, Nat.zero_mul, Nat.zero_add, List.getElem?_append_left (by rw [ht]; exact hj)]
    | succ i =>
      simp at hq
      have h1 := ih i hq
      rw [wcells_cons, List.getElem?_append_right (by rw [ht]; omega), ht, show (i + 1) * 2 + j - 2 = i * 2 + j by omega]
      exact h1
theorem wcells_one (l : List Wt) : ∀ u ∈ wcells l, u.oneCell' = true := by
  intro u hu
  obtain ⟨t, _, hu⟩ := List.mem_flatMap.1 hu
  simp [Wt.cells] at hu
  rcases hu with rfl | rfl <;> rfl

/-- An end as the program keeps it, and its three slices. -/
structure Sd where
  op : Bool
  an : List QM
  ot : List QM
  ws : List Wt
structure SV where
  a : Value
  o : Value
  w : Value
def Sd.q (s : Sd) : List QM := s.an.reverse ++ s.ot
def Sd.ms (s : Sd) : MS := ⟨s.op, s.q.map (·.m), s.ws⟩
def Sd.cl : Sd := ⟨false, [], [], []⟩
def SV.cl : SV := ⟨.slice none 0 0, .slice none 0 0, .slice none 0 0⟩
def SV.F (v : SV) (k : Nat) : Prop := Blk v.a k ∨ Blk v.o k ∨ Blk v.w k

/-- An end in memory, at place o of the channel's block c. -/
structure SAt (w : World) (c o : Nat) (s : Sd) (v : SV) : Prop where
  typ : TBlk w c 88
  c0 : w.cell? ⟨c, o, none⟩ = some (.bool s.op)
  c1 : w.cell? ⟨c, o + 1, none⟩ = some v.a
  c2 : w.cell? ⟨c, o + 2, none⟩ = some v.o
  c3 : w.cell? ⟨c, o + 3, none⟩ = some v.w
  rowA : WRow w 49 3 v.a s.an.length (qcells s.an)
  rowO : WRow w 49 3 v.o s.ot.length (qcells s.ot)
  rowW : WRow w 126 2 v.w s.ws.length (wcells s.ws)
  ao : ∀ k, Blk v.a k → ¬ Blk v.o k
  ok : ∀ q, q ∈ s.an ∨ q ∈ s.ot → q.Ok w

/-- All blocks of an end. -/
def SFt (s : Sd) (v : SV) (k : Nat) : Prop := v.F k ∨ ∃ q, (q ∈ s.an ∨ q ∈ s.ot) ∧ q.F k

section
variable {w w' : World} {c o : Nat} {s : Sd} {v : SV}
theorem SAt.f (h : SAt w c o s v) (j : Nat) : w.frozen? ⟨c, j, none⟩ = false := h.typ.free j
theorem SAt.lt (h : SAt w c o s v) {k : Nat} (hk : k = c ∨ SFt s v k) : k < w.heap.size := by
  rcases hk with rfl | (hk | hk | hk) | ⟨q, hq, hk⟩
  · exact h.typ.lt
  · exact h.rowA.lt hk
  · exact h.rowO.lt hk
  · exact h.rowW.lt hk
  · exact (h.ok q hq).lt hk
theorem SAt.kept {F : Nat → Prop} (h : SAt w c o s v) (t : Turn F w w') (hF : ∀ k, k = c ∨ SFt s v k → ¬ F k) : SAt w' c o s v :=
  ⟨h.typ.kept t (hF c (.inl rfl)), t.cell h.c0 (hF c (.inl rfl)), t.cell h.c1 (hF c (.inl rfl)), t.cell h.c2 (hF c (.inl rfl)), t.cell h.c3 (hF c (.inl rfl)),
    h.rowA.kept t (fun k hk => hF k (.inr (.inl (.inl hk)))), h.rowO.kept t (fun k hk => hF k (.inr (.inl (.inr (.inl hk))))), h.rowW.kept t (fun k hk => hF k (.inr (.inl (.inr (.inr hk))))),
    h.ao, fun q hq => (h.ok q hq).kept t (fun k hk => hF k (.inr (.inr ⟨q, hq, hk⟩)))⟩
theorem SAt.past (h : SAt w c o s v) (t : Turn NoBlock w w') : SAt w' c o s v := h.kept t (fun _ _ h => h)
end

/-- The other end. -/
def oth (e : Nat) : Nat := 1 - e
def plc (e : Nat) : Nat := 1 + e * 4
def Apart (p q : QM) : Prop := ∀ k, p.F k → ¬ q.F k
def allQ (S : Nat → Sd) : List QM := (S 0).an ++ ((S 0).ot ++ ((S 1).an ++ (S 1).ot))
/-- A channel in memory. -/
structure CMem (w : World) (c depth N : Nat) (S : Nat → Sd) (V : Nat → SV) : Prop where
  c0 : w.cell? ⟨c, 0, none⟩ = some (.int .i64 depth)
  s : ∀ e, e < 2 → SAt w c (plc e) (S e) (V e)
  dm : ∀ k, (Blk (V 0).a k ∨ Blk (V 0).o k) → ¬ (Blk (V 1).a k ∨ Blk (V 1).o k)
  dw : ∀ k, Blk (V 0).w k → ¬ Blk (V 1).w k
  apart : (allQ S).Pairwise Apart
  d1 : 1 ≤ depth
  d2 : depth ≤ 65536
  len : ∀ e, e < 2 → (S e).an.length ≤ N ∧ (S e).ot.length ≤ N ∧ (S e).ws.length ≤ N
  cl : ∀ e, e < 2 → (S e).op = false → S e = Sd.cl
def CFoot (c : Nat) (S : Nat → Sd) (V : Nat → SV) (k : Nat) : Prop := k = c ∨ ∃ e, e < 2 ∧ SFt (S e) (V e) k
def planeOf (S : Nat → Sd) (e : Nat) : MS := (S e).ms
section
variable {w w' : World} {c depth N : Nat} {S : Nat → Sd} {V : Nat → SV}
theorem CMem.lt (h : CMem w c depth N S V) {k : Nat} (hk : CFoot c S V k) : k < w.heap.size := by
  rcases hk with rfl | ⟨e, he, hk⟩
  · exact (h.s 0 (by omega)).typ.lt
  · exact (h.s e he).lt (.inr hk)
theorem CMem.kept {F : Nat → Prop} (h : CMem w c depth N S V) (t : Turn F w w') (hF : ∀ k, CFoot c S V k → ¬ F k) : CMem w' c depth N S V :=
  ⟨t.cell h.c0 (hF c (.inl rfl)), fun e he => (h.s e he).kept t (fun k hk => hF k (by
    rcases hk with h1 | h1
    · exact .inl h1
    · exact .inr ⟨e, he, h1⟩)), h.dm, h.dw, h.apart, h.d1, h.d2, h.len, h.cl⟩
theorem CMem.past (h : CMem w c depth N S V) (t : Turn NoBlock w w') : CMem w' c depth N S V := h.kept t (fun _ _ h => h)
theorem CMem.mono {M : Nat} (h : CMem w c depth N S V) (hM : N ≤ M) : CMem w c depth M S V :=
  ⟨h.c0, h.s, h.dm, h.dw, h.apart, h.d1, h.d2, fun e he => by have := h.len e he; omega, h.cl⟩
end
/-- A channel in memory, its program's keeping hidden. -/
def ChanAt (w : World) (c depth N : Nat) (F : Nat → Prop) (K : Nat → MS) : Prop := ∃ S V, CMem w c depth N S V ∧ F = CFoot c S V ∧ K = planeOf S
theorem ChanAt.lt {w : World} {c depth N : Nat} {F : Nat → Prop} {K : Nat → MS} (h : ChanAt w c depth N F K) {k : Nat} (hk : F k) : k < w.heap.size := by
  obtain ⟨S, V, h, rfl, rfl⟩ := h
  exact h.lt hk
theorem ChanAt.kept {w w' : World} {c depth N : Nat} {F G : Nat → Prop} {K : Nat → MS} (h : ChanAt w c depth N F K) (t : Turn G w w') (hF : ∀ k, F k → ¬ G k) : ChanAt w' c depth N F K := by
  obtain ⟨S, V, h, rfl, rfl⟩ := h
  exact ⟨S, V, h.kept t hF, rfl, rfl⟩
theorem ChanAt.past {w w' : World} {c depth N : Nat} {F : Nat → Prop} {K : Nat → MS} (h : ChanAt w c depth N F K) (t : Turn NoBlock w w') : ChanAt w' c depth N F K := h.kept t (fun _ _ h => h)
theorem ChanAt.mono {w : World} {c depth N M : Nat} {F : Nat → Prop} {K : Nat → MS} (h : ChanAt w c depth N F K) (hM : N ≤ M) : ChanAt w c depth M F K := by
  obtain ⟨S, V, h, rfl, rfl⟩ := h
  exact ⟨S, V, h.mono hM, rfl, rfl⟩
end Go.Proofs.Ytcbphfpfdfgehaa
