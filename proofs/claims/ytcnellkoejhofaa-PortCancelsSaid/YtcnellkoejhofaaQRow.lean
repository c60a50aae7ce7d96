/-
  Rows of packets and of watches: what stores, shorter slices and 'clear' make of them. No walk, no conditions.
-/
import Derived.Test.YtcnellkoejhofaaQBase
namespace Go.Proofs.Ytcnellkoejhofaa
open Go.ChangeShapes Go.WideShapes Go.ChangeAt Go.RowKit

section
variable {A : Type} (f : A → List Value) (n : Nat) (hn : ∀ x, (f x).length = n)
def fl (l : List A) : List Value := l.flatMap f
theorem fl_app (l m : List A) : fl f (l ++ m) = fl f l ++ fl f m := by simp [fl]
theorem fl_cons (q : A) (l : List A) : fl f (q :: l) = f q ++ fl f l := rfl
include hn
theorem fl_len (l : List A) : (fl f l).length = l.length * n := by
  induction l with
  | nil => simp [fl]
  | cons p l ih => rw [fl_cons, List.length_append, ih, List.length_cons, hn, Nat.add_mul]; omega
theorem fl_at (l : List A) (i : Nat) (q : A) (hq : l[i]? = some q) (j : Nat) (hj : j < n) : (fl f l)[i * n + j]? = (f q)[j]? := by
  induction l generalizing i with
  | nil => simp at hq
  | cons p l ih =>
    have ht := hn p
    cases i with
    | zero =>
      simp only [List.getElem?_cons_zero, Option.some.injEq] at hq
      subst hq
      rw [fl_cons, Nat.zero_mul, Nat.zero_add, List.getElem?_append_left (by rw [ht]; exact hj)]
    | succ i =>
      simp only [List.getElem?_cons_succ] at hq
      rw [← ih i hq]
      have h1 : (i + 1) * n = i * n + n := Nat.succ_mul i n
      rw [fl_cons, List.getElem?_append_right (by rw [ht]; omega), ht, show (i + 1) * n + j - n = i * n + j by omega]
theorem fl_take (l : List A) (k : Nat) : (fl f l).take (k * n) = fl f (l.take k) := by
  induction l generalizing k with
  | nil => simp [fl]
  | cons p l ih =>
    have ht := hn p
    cases k with
    | zero => simp [fl]
    | succ k => rw [fl_cons, List.take_succ_cons, fl_cons, List.take_append, ht, show (k + 1) * n - n = k * n by rw [Nat.succ_mul]; omega, ih, List.take_of_length_le (by rw [ht, Nat.succ_mul]; omega)]
theorem fl_drop (l : List A) (k : Nat) : (fl f l).drop (k * n) = fl f (l.drop k) := by
  induction l generalizing k with
  | nil => simp [fl]
  | cons p l ih =>
    have ht := hn p
    cases k with
    | zero => simp
    | succ k => rw [fl_cons, List.drop_succ_cons, List.drop_append, ht, show (k + 1) * n - n = k * n by rw [Nat.succ_mul]; omega, ih, List.drop_of_length_le (by rw [ht, Nat.succ_mul]; omega), List.nil_append]
omit hn in
theorem fl_one (h1 : ∀ x, ∀ u ∈ f x, u.oneCell' = true) (l : List A) : ∀ u ∈ fl f l, u.oneCell' = true := by
  intro u hu
  obtain ⟨b, _, hb⟩ := List.mem_flatMap.1 hu
  exact h1 b u hb
end

/-- One cell of a row is another. -/
theorem WRow.setc {w : World} {e size g o n c : Nat} {xs : List Value} (h : WRow w e size (.slice (some ⟨g, o, none⟩) n c) n xs) {j : Nat} (hj : j < n * size) (u : Value) :
    WRow (w.setCell ⟨g, o + j, none⟩ u) e size (.slice (some ⟨g, o, none⟩) n c) n (xs.set j u) := by
  refine ⟨by rw [List.length_set]; exact h.len, ?_⟩
  rcases h.form with ⟨h1, _⟩ | ⟨g', o', c', he, hnc, hcm, ht, hc, hs⟩
  · cases h1
  simp only [Value.slice.injEq, Option.some.injEq, Addr.mk.injEq, and_true, true_and] at he
  obtain ⟨⟨rfl, rfl⟩, rfl⟩ := he
  have hl := h.len
  have hsame : ∀ k, (w.setCell ⟨g, o + j, none⟩ u).cell? ⟨g, o + k, none⟩ = if k = j then (w.cell? ⟨g, o + j, none⟩).map (fun _ => u) else w.cell? ⟨g, o + k, none⟩ := by
    intro k
    by_cases hk : k = j
    · subst hk
      rw [if_pos rfl]
      obtain ⟨cur, hcur⟩ := ht
      rw [cell_at (set_at hcur (o + k) u), cell_at hcur]
      by_cases hb : o + k < cur.size
      · simp [hb]
      · simp [hb]
    · rw [if_neg hk]
      exact World.cell?_setCell_other _ _ _ _ (fun e => hk (by (try simp at e) <;> omega))
  refine .inr ⟨g, o, c, rfl, hnc, hcm, ht.set _ u g, fun k hk => ?_, fun k hk => ?_⟩
  · rw [hsame, List.getElem?_set]
    by_cases h1 : k = j
    · subst h1
      rw [if_pos rfl, if_pos rfl, if_pos (by rw [hl]; exact hk), hc k hk, List.getElem?_eq_getElem (by rw [hl]; exact hk)]
      rfl
    · rw [if_neg h1, if_neg (fun e => h1 e.symm)]
      exact hc k hk
  · rw [hsame]
    by_cases h1 : k = j
    · subst h1
      rw [if_pos rfl, Option.isSome_map]
      exact hs k hk
    · rw [if_neg h1]
      exact hs k hk
/-- The end of a row is written over; its beginning stays. -/
theorem WRow.tail {w : World} {e size g o n c : Nat} {xs : List Value} (h : WRow w e size (.slice (some ⟨g, o, none⟩) n c) n xs) {i : Nat} (hi : i ≤ n) (zs : List Value) (hz : zs.length = (n - i) * size) :
    WRow (w.setCells g (o + i * size) zs) e size (.slice (some ⟨g, o, none⟩) i c) i (xs.take (i * size)) := by
  have hm : i * size + (n - i) * size = n * size := by rw [← Nat.add_mul]; congr 1; omega
  refine ⟨by rw [List.length_take, h.len]; omega, ?_⟩
  rcases h.form with ⟨h1, _⟩ | ⟨g', o', c', he, hnc, hcm, ht, hc, hs⟩
  · cases h1
  simp only [Value.slice.injEq, Option.some.injEq, Addr.mk.injEq, and_true, true_and] at he
  obtain ⟨⟨rfl, rfl⟩, rfl⟩ := he
  have hcs : n * size ≤ c * size := Nat.mul_le_mul_right _ hnc
  have hsome : ∀ j, j < zs.length → (w.cell? ⟨g, o + i * size + j, none⟩).isSome = true := fun j hj => by
    rw [Nat.add_assoc]
    exact hs _ (by omega)
  refine .inr ⟨g, o, c, rfl, by omega, hcm, TBlk.sets g _ _ _ ht, fun j hj => ?_, fun j hj => ?_⟩
  · rw [World.cell?_setCells_out g _ _ _ _ (fun _ _ => Or.inl (by show o + j < o + i * size; omega)), List.getElem?_take, if_pos hj]
    exact hc j (by omega)
  · by_cases hin : i * size ≤ j ∧ j < i * size + zs.length
    · have := World.cell?_setCells_in g zs (o + i * size) w hsome (j - i * size) (by omega)
      rw [show o + i * size + (j - i * size) = o + j by omega] at this
      rw [this]; rfl
    · rw [World.cell?_setCells_out g _ _ _ _ (fun _ _ => by show o + j < o + i * size ∨ o + i * size + zs.length ≤ o + j; omega)]
      exact hs j hj
/-- Behind its first element. -/
theorem WRow.behind {w : World} {e size g o n c : Nat} {xs : List Value} (h : WRow w e size (.slice (some ⟨g, o, none⟩) (n + 1) c) (n + 1) xs) {D : Option Addr} (hD : 1 < c → D = some ⟨g, o + size, none⟩) (hD1 : c = 1 → D = some ⟨g, o, none⟩) :
    WRow w e size (.slice D n (c - 1)) n (xs.drop size) := by
  refine ⟨by rw [List.length_drop, h.len, Nat.succ_mul]; omega, ?_⟩
  rcases h.form with ⟨h1, _⟩ | ⟨g', o', c', he, hnc, hcm, ht, hc, hs⟩
  · cases h1
  simp only [Value.slice.injEq, Option.some.injEq, Addr.mk.injEq, and_true, true_and] at he
  obtain ⟨⟨rfl, rfl⟩, rfl⟩ := he
  have h1 : (n + 1) * size = n * size + size := Nat.succ_mul n size
  by_cases hc1 : 1 < c
  · obtain rfl := hD hc1
    have h2 : (c - 1) * size + size = c * size := by rw [← Nat.succ_mul]; congr 1; omega
    refine .inr ⟨g, o + size, c - 1, rfl, by omega, by omega, ht, fun j hj => ?_, fun j hj => ?_⟩
    · rw [Nat.add_assoc, hc _ (by omega), List.getElem?_drop]
    · rw [Nat.add_assoc]; exact hs _ (by omega)
  · obtain rfl := hD1 (by omega)
    have : n = 0 := by omega
    subst this
    have : c = 1 := by omega
    subst this
    exact .inr ⟨g, o, 0, rfl, by omega, by omega, ht, fun j hj => by omega, fun j hj => by omega⟩

/-- A packet. -/
structure Pk where
  k : Int
  s : Int
  v : Int
deriving DecidableEq
/-- A watch: of the object o, with the key k, for the mask m. -/
structure Wc where
  o : Int
  k : Int
  m : Int
deriving DecidableEq
def Pk.cells (p : Pk) : List Value := [.int .i64 p.k, .int .i64 p.s, .int .i64 p.v]
def Pk.agg (p : Pk) : Value := .agg #[.int .i64 p.k, .int .i64 p.s, .int .i64 p.v]
def Wc.cells (p : Wc) : List Value := [.int .i64 p.k, .int .i64 p.m]
def Wc.agg (p : Wc) : Value := .agg #[.int .i64 p.k, .int .i64 p.m]
def pcells (l : List Pk) : List Value := fl Pk.cells l
def wcells (l : List Wc) : List Value := fl Wc.cells l
theorem pcells_len (l : List Pk) : (pcells l).length = l.length * 3 := fl_len _ 3 (fun _ => rfl) l
theorem wcells_len (l : List Wc) : (wcells l).length = l.length * 2 := fl_len _ 2 (fun _ => rfl) l
theorem pcells_one (l : List Pk) : ∀ u ∈ pcells l, u.oneCell' = true := fl_one _ (fun x u hu => by simp [Pk.cells] at hu; rcases hu with rfl | rfl | rfl <;> rfl) l
theorem wcells_one (l : List Wc) : ∀ u ∈ wcells l, u.oneCell' = true := fl_one _ (fun x u hu => by simp [Wc.cells] at hu; rcases hu with rfl | rfl <;> rfl) l
theorem packetsT : Try.prog.underlying 44 = some (.slice 37) := by kernel_rfl
theorem watchesT : Try.prog.underlying 64 = some (.slice 66) := by kernel_rfl
theorem infoP : (Try.prog.info? 37).map (fun i => (i.zero, i.size, i.bytes)) = some (some (.agg #[.int .i64 0, .int .i64 0, .int .i64 0]), 3, 24) := by kernel_rfl
theorem infoW : (Try.prog.info? 66).map (fun i => (i.zero, i.size, i.bytes)) = some (some (.agg #[.int .i64 0, .int .i64 0]), 2, 16) := by kernel_rfl
theorem elem_packets : Try.prog.underlying 44 = some (.slice (Try.prog.elem 44)) := by kernel_rfl
theorem elem_watches : Try.prog.underlying 64 = some (.slice (Try.prog.elem 64)) := by kernel_rfl
theorem size_packets : ∀ w, (Go.sizeOf (Try.prog.elem 44)).run Try.prog w = .ok 3 w := fun w => by kernel_rfl
theorem size_watches : ∀ w, (Go.sizeOf (Try.prog.elem 64)).run Try.prog w = .ok 2 w := fun w => by kernel_rfl
/-- A row of packets, of watches. -/
def PRow (v : Value) (l : List Pk) (w : World) : Prop := WRow w 37 3 v l.length (pcells l)
def ARow (v : Value) (l : List Wc) (w : World) : Prop := WRow w 66 2 v l.length (wcells l)
theorem PRow.kept {w w' : World} {F : Nat → Prop} {v : Value} {l : List Pk} (h : PRow v l w) (t : Turn F w w') (hF : ∀ k, Blk v k → ¬ F k) : PRow v l w' := WRow.kept h t hF
theorem ARow.kept {w w' : World} {F : Nat → Prop} {v : Value} {l : List Wc} (h : ARow v l w) (t : Turn F w w') (hF : ∀ k, Blk v k → ¬ F k) : ARow v l w' := WRow.kept h t hF
theorem PRow.past {w w' : World} {v : Value} {l : List Pk} (h : PRow v l w) (t : Turn NoBlock w w') : PRow v l w' := h.kept t (fun _ _ h => h)
theorem ARow.past {w w' : World} {v : Value} {l : List Wc} (h : ARow v l w) (t : Turn NoBlock w w') : ARow v l w' := h.kept t (fun _ _ h => h)
theorem PRow.three {w : World} {g o n c : Nat} {l : List Pk} (h : PRow (.slice (some ⟨g, o, none⟩) n c) l w) {j : Nat} {t : Pk} (ht : l[j]? = some t) :
    w.cell? ⟨g, o + j * 3, none⟩ = some (.int .i64 t.k) ∧ w.cell? ⟨g, o + j * 3 + 1, none⟩ = some (.int .i64 t.s) ∧ w.cell? ⟨g, o + j * 3 + 2, none⟩ = some (.int .i64 t.v) := by
  have hlt := (List.getElem?_eq_some_iff.1 ht).1
  obtain ⟨g', o', c', he, -, -, -, hc, -⟩ := WRow.shape h (by omega)
  simp only [Value.slice.injEq, Option.some.injEq, Addr.mk.injEq, and_true] at he
  obtain ⟨⟨rfl, rfl⟩, -, rfl⟩ := he
  have ha := fun i hi => fl_at Pk.cells 3 (fun _ => rfl) l j t ht i hi
  refine ⟨?_, ?_, ?_⟩
  · rw [hc (j * 3) (by omega)]; exact ha 0 (by omega)
  · rw [Nat.add_assoc, hc (j * 3 + 1) (by omega)]; exact ha 1 (by omega)
  · rw [Nat.add_assoc, hc (j * 3 + 2) (by omega)]; exact ha 2 (by omega)
theorem ARow.two {w : World} {g o n c : Nat} {l : List Wc} (h : ARow (.slice (some ⟨g, o, none⟩) n c) l w) {j : Nat} {t : Wc} (ht : l[j]? = some t) :
    w.cell? ⟨g, o + j * 2, none⟩ = some (.int .i64 t.k) ∧ w.cell? ⟨g, o + j * 2 + 1, none⟩ = some (.int .i64 t.m) := by
  have hlt := (List.getElem?_eq_some_iff.1 ht).1
  obtain ⟨g', o', c', he, -, -, -, hc, -⟩ := WRow.shape h (by omega)
  simp only [Value.slice.injEq, Option.some.injEq, Addr.mk.injEq, and_true] at he
  obtain ⟨⟨rfl, rfl⟩, -, rfl⟩ := he
  have ha := fun i hi => fl_at Wc.cells 2 (fun _ => rfl) l j t ht i hi
  refine ⟨?_, ?_⟩
  · rw [hc (j * 2) (by omega)]; exact ha 0 (by omega)
  · rw [Nat.add_assoc, hc (j * 2 + 1) (by omega)]; exact ha 1 (by omega)

theorem set_two (l : List Wc) (i : Nat) (hi : i < l.length) (e : Wc) : ((wcells l).set (i * 2) (.int .i64 e.k)).set (i * 2 + 1) (.int .i64 e.m) = wcells (l.set i e) := by
  apply List.ext_getElem?
  intro t
  by_cases ht : t < l.length * 2
  · have hs : (l.set i e)[t / 2]? = some (if t / 2 = i then e else l[t / 2]) := by
      rw [List.getElem?_set]
      by_cases h : i = t / 2
      · subst h; simp [hi]
      · rw [if_neg h, if_neg (fun e => h e.symm), List.getElem?_eq_getElem (by omega)]
    have h1 := fl_at Wc.cells 2 (fun _ => rfl) (l.set i e) (t / 2) _ hs (t % 2) (by omega)
    rw [show t / 2 * 2 + t % 2 = t by omega] at h1
    have h2 := fl_at Wc.cells 2 (fun _ => rfl) l (t / 2) _ (List.getElem?_eq_getElem (show t / 2 < l.length by omega)) (t % 2) (by omega)
    rw [show t / 2 * 2 + t % 2 = t by omega] at h2
    unfold wcells
    rw [h1]
    rw [List.getElem?_set, List.getElem?_set, List.length_set]
    have hlw := wcells_len l
    unfold wcells at hlw
    rw [hlw]
    have h3 : t % 2 = 0 ∨ t % 2 = 1 := by omega
    by_cases h : t / 2 = i
    · rw [if_pos h]
      rcases h3 with h3 | h3
      · rw [if_neg (by omega), if_pos (by omega), if_pos (by omega), h3]; rfl
      · rw [if_pos (by omega), if_pos (by omega), h3]; rfl
    · rw [if_neg h, if_neg (by omega), if_neg (by omega), h2]
  · rw [List.getElem?_eq_none (by rw [List.length_set, List.length_set, wcells_len]; omega), List.getElem?_eq_none (by rw [wcells_len, List.length_set]; omega)]
theorem set_three (l : List Pk) (i : Nat) (hi : i < l.length) (e : Pk) : (((pcells l).set (i * 3) (.int .i64 e.k)).set (i * 3 + 1) (.int .i64 e.s)).set (i * 3 + 2) (.int .i64 e.v) = pcells (l.set i e) := by
  apply List.ext_getElem?
  intro t
  by_cases ht : t < l.length * 3
  · have hs : (l.set i e)[t / 3]? = some (if t / 3 = i then e else l[t / 3]) := by
      rw [List.getElem?_set]
      by_cases h : i = t / 3
      · subst h; simp [hi]
      · rw [if_neg h, if_neg (fun e => h e.symm), List.getElem?_eq_getElem (by omega)]
    have h1 := fl_at Pk.cells 3 (fun _ => rfl) (l.set i e) (t / 3) _ hs (t % 3) (by omega)
    rw [show t / 3 * 3 + t % 3 = t by omega] at h1
    have h2 := fl_at Pk.cells 3 (fun _ => rfl) l (t / 3) _ (List.getElem?_eq_getElem (show t / 3 < l.length by omega)) (t % 3) (by omega)
    rw [show t / 3 * 3 + t % 3 = t by omega] at h2
    unfold pcells
    rw [h1]
    rw [List.getElem?_set, List.getElem?_set, List.getElem?_set, List.length_set, List.length_set]
    have hlw := pcells_len l
    unfold pcells at hlw
    rw [hlw]
    have h3 : t % 3 = 0 ∨ t % 3 = 1 ∨ t % 3 = 2 := by omega
    by_cases h : t / 3 = i
    · rw [if_pos h]
      rcases h3 with h3 | h3 | h3
      · rw [if_neg (by omega), if_neg (by omega), if_pos (by omega), if_pos (by omega), h3]; rfl
      · rw [if_neg (by omega), if_pos (by omega), if_pos (by omega), h3]; rfl
      · rw [if_pos (by omega), if_pos (by omega), h3]; rfl
    · rw [if_neg h, if_neg (by omega), if_neg (by omega), if_neg (by omega), h2]
  · rw [List.getElem?_eq_none (by rw [List.length_set, List.length_set, List.length_set, pcells_len]; omega), List.getElem?_eq_none (by rw [pcells_len, List.length_set]; omega)]
theorem ARow.set {w : World} {g o n c : Nat} {l : List Wc} (h : ARow (.slice (some ⟨g, o, none⟩) n c) l w) {i : Nat} (hi : i < l.length) (e : Wc) :
    ARow (.slice (some ⟨g, o, none⟩) n c) (l.set i e) ((w.setCell ⟨g, o + i * 2, none⟩ (.int .i64 e.k)).setCell ⟨g, o + i * 2 + 1, none⟩ (.int .i64 e.m)) := by
  unfold ARow at h ⊢
  obtain ⟨p, cc, he⟩ := h.sl
  simp only [Value.slice.injEq] at he
  obtain ⟨rfl, rfl, rfl⟩ := he
  rw [List.length_set, ← set_two l i hi e]
  have h1 := h.setc (j := i * 2) (by omega) (.int .i64 e.k)
  have h2 := h1.setc (j := i * 2 + 1) (by omega) (.int .i64 e.m)
  rw [← Nat.add_assoc] at h2
  exact h2
theorem PRow.set {w : World} {g o n c : Nat} {l : List Pk} (h : PRow (.slice (some ⟨g, o, none⟩) n c) l w) {i : Nat} (hi : i < l.length) (e : Pk) :
    PRow (.slice (some ⟨g, o, none⟩) n c) (l.set i e) (((w.setCell ⟨g, o + i * 3, none⟩ (.int .i64 e.k)).setCell ⟨g, o + i * 3 + 1, none⟩ (.int .i64 e.s)).setCell ⟨g, o + i * 3 + 2, none⟩ (.int .i64 e.v)) := by
  unfold PRow at h ⊢
  obtain ⟨p, cc, he⟩ := h.sl
  simp only [Value.slice.injEq] at he
  obtain ⟨rfl, rfl, rfl⟩ := he
  rw [List.length_set, ← set_three l i hi e]
  have h1 := h.setc (j := i * 3) (by omega) (.int .i64 e.k)
  have h2 := h1.setc (j := i * 3 + 1) (by omega) (.int .i64 e.s)
  have h3 := h2.setc (j := i * 3 + 2) (by omega) (.int .i64 e.v)
  rw [← Nat.add_assoc, ← Nat.add_assoc] at h3
  exact h3
theorem clear_watch (w : World) (ty : TypeId) (g o m c : Nat) (hm : 0 < m) (hc : ∀ j, j < m * 2 → (w.cell? ⟨g, o + j, none⟩).isSome = true) (hf : ∀ j, w.frozen? ⟨g, j, none⟩ = false) :
    ∃ zs : List Value, zs.length = m * 2 ∧ (Builtin.clear_ #[64] ty #[.slice (some ⟨g, o, none⟩) m c]).run Try.prog w = .ok (.tuple #[]) (w.setCells g o zs) := by
  obtain ⟨m, rfl⟩ : ∃ k, m = k + 1 := ⟨m - 1, by omega⟩
  have hz : ∀ w, (zeroValue 66).run Try.prog w = .ok (.agg #[.int .i64 0, .int .i64 0]) w := fun w => by kernel_rfl
  have hl : (Builtin.zeroCells (Value.agg #[.int .i64 0, .int .i64 0]).cells (m + 1)).toList.length = (m + 1) * 2 := by
    rw [Array.length_toList, size_zeroCells]; rfl
  refine ⟨(Builtin.zeroCells (Value.agg #[.int .i64 0, .int .i64 0]).cells (m + 1)).toList, hl, ?_⟩
  have hone : ∀ v ∈ (Builtin.zeroCells (Value.agg #[.int .i64 0, .int .i64 0]).cells (m + 1)).toList, v.oneCell' = true := by
    intro v hv
    simp [Builtin.zeroCells, Value.cells] at hv
    obtain ⟨i, hi, rfl⟩ := hv
    have h2 : i % 2 = 0 ∨ i % 2 = 1 := by omega
    rcases h2 with h2 | h2 <;> rw [h2] <;> rfl
  have hst := run_storeCells_cells (P := Try.prog) g o _ 0 w (by rw [hl]; simpa using hc) (by intro j hj; exact hf _) hone
  simp only [Nat.add_zero] at hst
  simp [Builtin.clear_, run_underlying watchesT, hz, hst]
theorem clear_packet (w : World) (ty : TypeId) (g o m c : Nat) (hm : 0 < m) (hc : ∀ j, j < m * 3 → (w.cell? ⟨g, o + j, none⟩).isSome = true) (hf : ∀ j, w.frozen? ⟨g, j, none⟩ = false) :
    ∃ zs : List Value, zs.length = m * 3 ∧ (Builtin.clear_ #[44] ty #[.slice (some ⟨g, o, none⟩) m c]).run Try.prog w = .ok (.tuple #[]) (w.setCells g o zs) := by
  obtain ⟨m, rfl⟩ : ∃ k, m = k + 1 := ⟨m - 1, by omega⟩
  have hz : ∀ w, (zeroValue 37).run Try.prog w = .ok (.agg #[.int .i64 0, .int .i64 0, .int .i64 0]) w := fun w => by kernel_rfl
  have hl : (Builtin.zeroCells (Value.agg #[.int .i64 0, .int .i64 0, .int .i64 0]).cells (m + 1)).toList.length = (m + 1) * 3 := by
    rw [Array.length_toList, size_zeroCells]; rfl
  refine ⟨(Builtin.zeroCells (Value.agg #[.int .i64 0, .int .i64 0, .int .i64 0]).cells (m + 1)).toList, hl, ?_⟩
  have hone : ∀ v ∈ (Builtin.zeroCells (Value.agg #[.int .i64 0, .int .i64 0, .int .i64 0]).cells (m + 1)).toList, v.oneCell' = true := by
    intro v hv
    simp [Builtin.zeroCells, Value.cells] at hv
    obtain ⟨i, hi, rfl⟩ := hv
    have h2 : i % 3 = 0 ∨ i % 3 = 1 ∨ i % 3 = 2 := by omega
    rcases h2 with h2 | h2 | h2 <;> rw [h2] <;> rfl
  have hst := run_storeCells_cells (P := Try.prog) g o _ 0 w (by rw [hl]; simpa using hc) (by intro j hj; exact hf _) hone
  simp only [Nat.add_zero] at hst
  simp [Builtin.clear_, run_underlying packetsT, hz, hst]
end Go.Proofs.Ytcnellkoejhofaa
