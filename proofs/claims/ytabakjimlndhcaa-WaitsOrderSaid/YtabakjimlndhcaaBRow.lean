/-
  Rows of items, of pointers, of who is woken. No walk, no conditions.
-/
import Derived.Test.YtabakjimlndhcaaQBase
namespace Go.Proofs.Ytabakjimlndhcaa
open Go.ChangeShapes Go.WideShapes Go.ChangeAt Go.RowKit

section
variable {A : Type} (f : A → List Value) (n : Nat) (hn : ∀ x, (f x).length = n)
def fl (l : List A) : List Value := l.flatMap f
theorem fl_app (l m : List A) : fl f (l ++ m) = fl f l ++ fl f m := by simp [fl]
theorem fl_cons (q : A) (l : List A) : fl f (q :: l) = f q ++ fl f l := rfl
include hn
theorem fl_len (l : List A) : (fl f l).length = l.length * n := by
  induction l with
  | nil => simp [fl]
  | cons p l ih => rw [fl_cons, List.length_append, ih, List.length_cons, hn, Nat.add_mul]; omega
theorem fl_at (l : List A) (i : Nat) (q : A) (hq : l[i]? = some q) (j : Nat) (hj : j < n) : (fl f l)[i * n + j]? = (f q)[j]? := by
  induction l generalizing i with
  | nil => simp at hq
  | cons p l ih =>
    have ht := hn p
    cases i with
    | zero =>
      simp only [List.getElem?_cons_zero, Option.some.injEq] at hq
      subst hq
      rw [fl_cons, Nat.zero_mul, Nat.zero_add, List.getElem?_append_left (by rw [ht]; exact hj)]
    | succ i =>
      simp only [List.getElem?_cons_succ] at hq
      rw [← ih i hq]
      have h1 : (i + 1) * n = i * n + n := Nat.succ_mul i n
      rw [fl_cons, List.getElem?_append_right (by rw [ht]; omega), ht, show (i + 1) * n + j - n = i * n + j by omega]
theorem fl_take (l : List A) (k : Nat) : (fl f l).take (k * n) = fl f (l.take k) := by
  induction l generalizing k with
  | nil => simp [fl]
  | cons p l ih =>
    have ht := hn p
    cases k with
    | zero => simp [fl]
    | succ k => rw [fl_cons, List.take_succ_cons, fl_cons, List.take_append, ht, show (k + 1) * n - n = k * n by rw [Nat.succ_mul]; omega, ih, List.take_of_length_le (by rw [ht, Nat.succ_mul]; omega)]
theorem fl_drop (l : List A) (k : Nat) : (fl f l).drop (k * n) = fl f (l.drop k) := by
  induction l generalizing k with
  | nil => simp [fl]
  | cons p l ih =>
    have ht := hn p
    cases k with
    | zero => simp
    | succ k => rw [fl_cons, List.drop_succ_cons, List.drop_append, ht, show (k + 1) * n - n = k * n by rw [Nat.succ_mul]; omega, ih, List.drop_of_length_le (by rw [ht, Nat.succ_mul]; omega), List.nil_append]
omit hn in
theorem fl_one (h1 : ∀ x, ∀ u ∈ f x, u.oneCell' = true) (l : List A) : ∀ u ∈ fl f l, u.oneCell' = true := by
  intro u hu
  obtain ⟨b, _, hb⟩ := List.mem_flatMap.1 hu
  exact h1 b u hb
end

/-- One cell of a row is another. -/
theorem WRow.setc {w : World} {e size g o n c : Nat} {xs : List Value} (h : WRow w e size (.slice (some ⟨g, o, none⟩) n c) n xs) {j : Nat} (hj : j < n * size) (u : Value) :
    WRow (w.setCell ⟨g, o + j, none⟩ u) e size (.slice (some ⟨g, o, none⟩) n c) n (xs.set j u) := by
  refine ⟨by rw [List.length_set]; exact h.len, ?_⟩
  rcases h.form with ⟨h1, _⟩ | ⟨g', o', c', he, hnc, hcm, ht, hc, hs⟩
  · cases h1
  simp only [Value.slice.injEq, Option.some.injEq, Addr.mk.injEq, and_true, true_and] at he
  obtain ⟨⟨rfl, rfl⟩, rfl⟩ := he
  have hl := h.len
  have hsame : ∀ k, (w.setCell ⟨g, o + j, none⟩ u).cell? ⟨g, o + k, none⟩ = if k = j then (w.cell? ⟨g, o + j, none⟩).map (fun _ => u) else w.cell? ⟨g, o + k, none⟩ := by
    intro k
    by_cases hk : k = j
    · subst hk
      rw [if_pos rfl]
      obtain ⟨cur, hcur⟩ := ht
      rw [cell_at (set_at hcur (o + k) u), cell_at hcur]
      by_cases hb : o + k < cur.size
      · simp [hb]
      · simp [hb]
    · rw [if_neg hk]
      exact World.cell?_setCell_other _ _ _ _ (fun e => hk (by (try simp at e) <;> omega))
  refine .inr ⟨g, o, c, rfl, hnc, hcm, ht.set _ u g, fun k hk => ?_, fun k hk => ?_⟩
  · rw [hsame, List.getElem?_set]
    by_cases h1 : k = j
    · subst h1
      rw [if_pos rfl, if_pos rfl, if_pos (by rw [hl]; exact hk), hc k hk, List.getElem?_eq_getElem (by rw [hl]; exact hk)]
      rfl
    · rw [if_neg h1, if_neg (fun e => h1 e.symm)]
      exact hc k hk
  · rw [hsame]
    by_cases h1 : k = j
    · subst h1
      rw [if_pos rfl, Option.isSome_map]
      exact hs k hk
    · rw [if_neg h1]
      exact hs k hk
/-- The end of a row is written over; its beginning stays. -/
theorem WRow.tail {w : World} {e size g o n c : Nat} {xs : List Value} (h : WRow w e size (.slice (some ⟨g, o, none⟩) n c) n xs) {i : Nat} (hi : i ≤ n) (zs : List Value) (hz : zs.length = (n - i) * size) :
    WRow (w.setCells g (o + i * size) zs) e size (.slice (some ⟨g, o, none⟩) i c) i (xs.take (i * size)) := by
  have hm : i * size + (n - i) * size = n * size := by rw [← Nat.add_mul]; congr 1; omega
  refine ⟨by rw [List.length_take, h.len]; omega, ?_⟩
  rcases h.form with ⟨h1, _⟩ | ⟨g', o', c', he, hnc, hcm, ht, hc, hs⟩
  · cases h1
  simp only [Value.slice.injEq, Option.some.injEq, Addr.mk.injEq, and_true, true_and] at he
  obtain ⟨⟨rfl, rfl⟩, rfl⟩ := he
  have hcs : n * size ≤ c * size := Nat.mul_le_mul_right _ hnc
  have hsome : ∀ j, j < zs.length → (w.cell? ⟨g, o + i * size + j, none⟩).isSome = true := fun j hj => by
    rw [Nat.add_assoc]
    exact hs _ (by omega)
  refine .inr ⟨g, o, c, rfl, by omega, hcm, TBlk.sets g _ _ _ ht, fun j hj => ?_, fun j hj => ?_⟩
  · rw [World.cell?_setCells_out g _ _ _ _ (fun _ _ => Or.inl (by show o + j < o + i * size; omega)), List.getElem?_take, if_pos hj]
    exact hc j (by omega)
  · by_cases hin : i * size ≤ j ∧ j < i * size + zs.length
    · have := World.cell?_setCells_in g zs (o + i * size) w hsome (j - i * size) (by omega)
      rw [show o + i * size + (j - i * size) = o + j by omega] at this
      rw [this]; rfl
    · rw [World.cell?_setCells_out g _ _ _ _ (fun _ _ => by show o + j < o + i * size ∨ o + i * size + zs.length ≤ o + j; omega)]
      exact hs j hj
/-- Behind its first element. -/
theorem WRow.behind {w : World} {e size g o n c : Nat} {xs : List Value} (h : WRow w e size (.slice (some ⟨g, o, none⟩) (n + 1) c) (n + 1) xs) {D : Option Addr} (hD : 1 < c → D = some ⟨g, o + size, none⟩) (hD1 : c = 1 → D = some ⟨g, o, none⟩) :
    WRow w e size (.slice D n (c - 1)) n (xs.drop size) := by
  refine ⟨by rw [List.length_drop, h.len, Nat.succ_mul]; omega, ?_⟩
  rcases h.form with ⟨h1, _⟩ | ⟨g', o', c', he, hnc, hcm, ht, hc, hs⟩
  · cases h1
  simp only [Value.slice.injEq, Option.some.injEq, Addr.mk.injEq, and_true, true_and] at he
  obtain ⟨⟨rfl, rfl⟩, rfl⟩ := he
  have h1 : (n + 1) * size = n * size + size := Nat.succ_mul n size
  by_cases hc1 : 1 < c
  · obtain rfl := hD hc1
    have h2 : (c - 1) * size + size = c * size := by rw [← Nat.succ_mul]; congr 1; omega
    refine .inr ⟨g, o + size, c - 1, rfl, by omega, by omega, ht, fun j hj => ?_, fun j hj => ?_⟩
    · rw [Nat.add_assoc, hc _ (by omega), List.getElem?_drop]
    · rw [Nat.add_assoc]; exact hs _ (by omega)
  · obtain rfl := hD1 (by omega)
    have : n = 0 := by omega
    subst this
    have : c = 1 := by omega
    subst this
    exact .inr ⟨g, o, 0, rfl, by omega, by omega, ht, fun j hj => by omega, fun j hj => by omega⟩

/-- An item; what is told of who is woken; who waits. -/
structure It where
  o : Int
  m : Int
deriving DecidableEq
structure Wk where
  t : Int
  k : Int
  s : Int
  f : Int
deriving DecidableEq
structure Wt where
  t : Int
  d : Int
  its : List It
deriving DecidableEq
def It.cells (i : It) : List Value := [.int .i64 i.o, .int .i64 i.m]
def It.agg (i : It) : Value := .agg #[.int .i64 i.o, .int .i64 i.m]
def Wk.cells (i : Wk) : List Value := [.int .i64 i.t, .int .i64 i.k, .int .i64 i.s, .int .i64 i.f]
def Wk.agg (i : Wk) : Value := .agg #[.int .i64 i.t, .int .i64 i.k, .int .i64 i.s, .int .i64 i.f]
def ptr (b : Nat) : Value := .pointer (some ⟨b, 0, none⟩)
theorem ptr_inj {a b : Nat} (h : ptr a = ptr b) : a = b := by
  unfold ptr at h
  simpa using h
theorem ptr_ne (a : Nat) : (.pointer none : Value) ≠ ptr a := by unfold ptr; simp
def itcells (l : List It) : List Value := fl It.cells l
def wkcells (l : List Wk) : List Value := fl Wk.cells l
def pcells (l : List Nat) : List Value := l.map ptr
theorem itcells_len (l : List It) : (itcells l).length = l.length * 2 := fl_len _ 2 (fun _ => rfl) l
theorem wkcells_len (l : List Wk) : (wkcells l).length = l.length * 4 := fl_len _ 4 (fun _ => rfl) l
theorem itcells_one (l : List It) : ∀ u ∈ itcells l, u.oneCell' = true := fl_one _ (fun x u hu => by simp [It.cells] at hu; rcases hu with rfl | rfl <;> rfl) l
theorem wkcells_one (l : List Wk) : ∀ u ∈ wkcells l, u.oneCell' = true := fl_one _ (fun x u hu => by simp [Wk.cells] at hu; rcases hu with rfl | rfl | rfl | rfl <;> rfl) l
theorem pcells_len (l : List Nat) : (pcells l).length = l.length := by simp [pcells]
theorem pcells_one (l : List Nat) : ∀ u ∈ pcells l, u.oneCell' = true := by
  intro u hu
  obtain ⟨b, _, rfl⟩ := List.mem_map.1 hu
  rfl
theorem itemsT : Try.prog.underlying 33 = some (.slice 40) := by kernel_rfl
theorem wokensT : Try.prog.underlying 42 = some (.slice 61) := by kernel_rfl
theorem placesT : Try.prog.underlying 104 = some (.slice 145) := by kernel_rfl
theorem duesT : Try.prog.underlying 114 = some (.slice 102) := by kernel_rfl
theorem infoIt : (Try.prog.info? 40).map (fun i => (i.zero, i.size, i.bytes)) = some (some (.agg #[.int .i64 0, .int .i64 0]), 2, 16) := by kernel_rfl
theorem infoWk : (Try.prog.info? 61).map (fun i => (i.zero, i.size, i.bytes)) = some (some (.agg #[.int .i64 0, .int .i64 0, .int .i64 0, .int .i64 0]), 4, 32) := by kernel_rfl
theorem infoPp : (Try.prog.info? 145).map (fun i => (i.zero, i.size, i.bytes)) = some (some (.pointer none), 1, 8) := by kernel_rfl
theorem infoPw : (Try.prog.info? 102).map (fun i => (i.zero, i.size, i.bytes)) = some (some (.pointer none), 1, 8) := by kernel_rfl
/-- A row of items, of places, of waits, of who is woken. -/
def IRow (v : Value) (l : List It) (w : World) : Prop := WRow w 40 2 v l.length (itcells l)
def PRow (v : Value) (l : List Nat) (w : World) : Prop := WRow w 145 1 v l.length (pcells l)
def DRow (v : Value) (l : List Nat) (w : World) : Prop := WRow w 102 1 v l.length (pcells l)
def KRow (v : Value) (l : List Wk) (w : World) : Prop := WRow w 61 4 v l.length (wkcells l)
theorem IRow.kept {w w' : World} {F : Nat → Prop} {v : Value} {l : List It} (h : IRow v l w) (t : Turn F w w') (hF : ∀ k, Blk v k → ¬ F k) : IRow v l w' := WRow.kept h t hF
theorem PRow.kept {w w' : World} {F : Nat → Prop} {v : Value} {l : List Nat} (h : PRow v l w) (t : Turn F w w') (hF : ∀ k, Blk v k → ¬ F k) : PRow v l w' := WRow.kept h t hF
theorem DRow.kept {w w' : World} {F : Nat → Prop} {v : Value} {l : List Nat} (h : DRow v l w) (t : Turn F w w') (hF : ∀ k, Blk v k → ¬ F k) : DRow v l w' := WRow.kept h t hF
theorem KRow.kept {w w' : World} {F : Nat → Prop} {v : Value} {l : List Wk} (h : KRow v l w) (t : Turn F w w') (hF : ∀ k, Blk v k → ¬ F k) : KRow v l w' := WRow.kept h t hF
theorem IRow.past {w w' : World} {v : Value} {l : List It} (h : IRow v l w) (t : Turn NoBlock w w') : IRow v l w' := h.kept t (fun _ _ h => h)
theorem DRow.past {w w' : World} {v : Value} {l : List Nat} (h : DRow v l w) (t : Turn NoBlock w w') : DRow v l w' := h.kept t (fun _ _ h => h)
theorem KRow.past {w w' : World} {v : Value} {l : List Wk} (h : KRow v l w) (t : Turn NoBlock w w') : KRow v l w' := h.kept t (fun _ _ h => h)
theorem IRow.two {w : World} {g o n c : Nat} {l : List It} (h : IRow (.slice (some ⟨g, o, none⟩) n c) l w) {j : Nat} {t : It} (ht : l[j]? = some t) :
    w.cell? ⟨g, o + j * 2, none⟩ = some (.int .i64 t.o) ∧ w.cell? ⟨g, o + j * 2 + 1, none⟩ = some (.int .i64 t.m) := by
  have hlt := (List.getElem?_eq_some_iff.1 ht).1
  obtain ⟨g', o', c', he, -, -, -, hc, -⟩ := WRow.shape h (by omega)
  simp only [Value.slice.injEq, Option.some.injEq, Addr.mk.injEq, and_true] at he
  obtain ⟨⟨rfl, rfl⟩, -, rfl⟩ := he
  have ha := fun i hi => fl_at It.cells 2 (fun _ => rfl) l j t ht i hi
  refine ⟨?_, ?_⟩
  · rw [hc (j * 2) (by omega)]; exact ha 0 (by omega)
  · rw [Nat.add_assoc, hc (j * 2 + 1) (by omega)]; exact ha 1 (by omega)
theorem KRow.four {w : World} {g o n c : Nat} {l : List Wk} (h : KRow (.slice (some ⟨g, o, none⟩) n c) l w) {j : Nat} {t : Wk} (ht : l[j]? = some t) :
    w.cell? ⟨g, o + j * 4, none⟩ = some (.int .i64 t.t) ∧ w.cell? ⟨g, o + j * 4 + 1, none⟩ = some (.int .i64 t.k) ∧ w.cell? ⟨g, o + j * 4 + 2, none⟩ = some (.int .i64 t.s) ∧ w.cell? ⟨g, o + j * 4 + 3, none⟩ = some (.int .i64 t.f) := by
  have hlt := (List.getElem?_eq_some_iff.1 ht).1
  obtain ⟨g', o', c', he, -, -, -, hc, -⟩ := WRow.shape h (by omega)
  simp only [Value.slice.injEq, Option.some.injEq, Addr.mk.injEq, and_true] at he
  obtain ⟨⟨rfl, rfl⟩, -, rfl⟩ := he
  have ha := fun i hi => fl_at Wk.cells 4 (fun _ => rfl) l j t ht i hi
  refine ⟨?_, ?_, ?_, ?_⟩
  · rw [hc (j * 4) (by omega)]; exact ha 0 (by omega)
  · rw [Nat.add_assoc, hc (j * 4 + 1) (by omega)]; exact ha 1 (by omega)
  · rw [Nat.add_assoc, hc (j * 4 + 2) (by omega)]; exact ha 2 (by omega)
  · rw [Nat.add_assoc, hc (j * 4 + 3) (by omega)]; exact ha 3 (by omega)
theorem wrow_ptr {w : World} {e g o n c : Nat} {l : List Nat} (h : WRow w e 1 (.slice (some ⟨g, o, none⟩) n c) l.length (pcells l)) {j b : Nat} (ht : l[j]? = some b) : w.cell? ⟨g, o + j, none⟩ = some (ptr b) := by
  have hlt := (List.getElem?_eq_some_iff.1 ht).1
  obtain ⟨g', o', c', he, -, -, -, hc, -⟩ := h.shape (by omega)
  simp only [Value.slice.injEq, Option.some.injEq, Addr.mk.injEq, and_true] at he
  obtain ⟨⟨rfl, rfl⟩, -, rfl⟩ := he
  rw [hc j (by omega)]
  simp [pcells, ht]
theorem PRow.one {w : World} {g o n c : Nat} {l : List Nat} (h : PRow (.slice (some ⟨g, o, none⟩) n c) l w) {j b : Nat} (ht : l[j]? = some b) : w.cell? ⟨g, o + j, none⟩ = some (ptr b) := wrow_ptr h ht
theorem DRow.one {w : World} {g o n c : Nat} {l : List Nat} (h : DRow (.slice (some ⟨g, o, none⟩) n c) l w) {j b : Nat} (ht : l[j]? = some b) : w.cell? ⟨g, o + j, none⟩ = some (ptr b) := wrow_ptr h ht
end Go.Proofs.Ytabakjimlndhcaa
