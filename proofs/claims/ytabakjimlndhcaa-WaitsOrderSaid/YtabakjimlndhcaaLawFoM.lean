/-
  Waits of threads that all wait for one item, and a row of their numbers beside. No walk, no conditions.
-/
import Derived.Test.YtabakjimlndhcaaBAwake
namespace Go.Proofs.Ytabakjimlndhcaa
open Go.ChangeShapes Go.WideShapes Go.ChangeAt Go.RowKit Go.Shelf

def FL (d o m : Int) (ts : List Int) : List Wt := ts.map (fun t => ⟨t, d, [⟨o, m⟩]⟩)
theorem FL_has (d o m : Int) (ts : List Int) (t : Int) : hasW (FL d o m ts) t = ts.contains t := by
  unfold hasW FL
  rw [List.any_map, Bool.eq_iff_iff, List.any_eq_true, List.contains_iff_mem]
  constructor
  · rintro ⟨x, hx, he⟩
    simp at he
    exact he ▸ hx
  · intro h
    exact ⟨t, h, by simp⟩
theorem posB_one (o m : Int) (h : 1 ≤ o) : posB [⟨o, m⟩] = true := by
  unfold posB
  refine decide_eq_true ⟨by simp, by simp, fun i hi => ?_⟩
  rw [List.mem_singleton] at hi
  subst hi
  exact h
/-- What Block answers. -/
def fS (ts : List Int) (t : Int) : Int := if t < 0 then -10 else if ts.contains t = true then -26 else 0
def fT (ts : List Int) (t : Int) : List Int := if fS ts t = 0 then ts ++ [t] else ts
theorem FL_blk (d o m : Int) (ho : 1 ≤ o) (ts : List Int) (t : Int) (hl : ts.length < 100) : blkS 100 (FL d o m ts) t [⟨o, m⟩] = fS ts t := by
  unfold blkS fS
  rw [posB_one o m ho, FL_has]
  have h1 : (FL d o m ts).length = ts.length := List.length_map _
  by_cases ht : t < 0
  · rw [if_pos (.inl ht), if_pos ht]
  · rw [if_neg (by simp; omega), if_neg ht]
    by_cases hc : ts.contains t = true
    · rw [if_pos hc, if_pos hc]
    · rw [if_neg hc, if_neg hc, if_neg (by rw [h1]; omega)]
theorem FL_blkL (d o m : Int) (ho : 1 ≤ o) (ts : List Int) (t : Int) (hl : ts.length < 100) : blkL 100 (FL d o m ts) t d [⟨o, m⟩] = FL d o m (fT ts t) := by
  unfold blkL fT
  rw [FL_blk d o m ho ts t hl]
  split
  · simp [FL]
  · rfl
theorem fT_nodup {ts : List Int} (h : ts.Nodup) (t : Int) : (fT ts t).Nodup := by
  unfold fT
  split
  · rename_i h1
    refine List.nodup_append.2 ⟨h, by simp, fun u hu u' hu' e => ?_⟩
    simp at hu'
    subst hu'
    subst e
    unfold fS at h1
    split at h1
    · omega
    · rw [if_pos (by rw [List.contains_iff_mem]; exact hu)] at h1
      omega
  · exact h
theorem fT_mem {ts : List Int} {t x : Int} (h : x ∈ fT ts t) : x ∈ ts ∨ x = t := by
  unfold fT at h
  split at h
  · rcases List.mem_append.1 h with h | h
    · exact .inl h
    · exact .inr (by simpa using h)
  · exact .inl h
theorem FL_frg (d o m : Int) (ts : List Int) (g : Int) : frgL (FL d o m ts) g = FL d o m (ts.filter (fun t => t != g)) := by
  unfold frgL FL
  rw [List.filter_map]
  rfl
theorem FL_wk (d o m : Int) (P : Int → Bool) (hP : P m = true) (s f : Int) (ts : List Int) : (FL d o m ts).filterMap (wkA P o s f) = ts.map (fun t => ⟨t, 0, s, f⟩) ∧ (FL d o m ts).filter (keepA P o) = [] := by
  have hf : fitI P o [⟨o, m⟩] = some 0 := by unfold fitI; simp [hP]
  refine ⟨?_, ?_⟩
  · unfold FL
    rw [List.filterMap_map]
    rw [← List.filterMap_eq_map]
    congr 1
    funext t
    show wkA P o s f ⟨t, d, [⟨o, m⟩]⟩ = _
    unfold wkA
    rw [hf]
    rfl
  · rw [List.filter_eq_nil_iff]
    intro a ha
    obtain ⟨t, _, rfl⟩ := List.mem_map.1 ha
    unfold keepA
    rw [hf]
    simp
theorem del_len {ts : List Int} (h : ts.Nodup) {g : Int} (hg : g ∈ ts) : (ts.filter (fun t => t != g)).length + 1 = ts.length := by
  obtain ⟨A, B, rfl⟩ := List.append_of_mem hg
  obtain ⟨n1, n2, n3⟩ := List.nodup_append.1 h
  have n4 := (List.nodup_cons.1 n2).1
  have hA : A.filter (fun t => t != g) = A := List.filter_eq_self.2 (fun y hy => by simpa using n3 y hy g List.mem_cons_self)
  have hB : B.filter (fun t => t != g) = B := List.filter_eq_self.2 (fun y hy => by
    have : y ≠ g := fun e => n4 (e ▸ hy)
    simpa using this)
  rw [List.filter_append, hA]
  simp [hB]
  omega
/-- The waits of the threads ts, and a row of numbers beside. -/
structure FS (w0 w : World) (c : Nat) (L : List Wt) (v : Value) (xs : List Int) : Prop where
  st : WSt w0 w c 100 L (Blk v)
  row : Nums v xs w
  fr : ∀ k, Blk v k → w0.heap.size ≤ k
section
variable {w0 w w' : World} {c : Nat} {L : List Wt} {v : Value} {ts xs : List Int}
theorem FS.past (h : FS w0 w c L v xs) (t : Turn NoBlock w w') : FS w0 w' c L v xs := ⟨h.st.past t, h.row.past t, h.fr⟩
theorem one_row (w : World) (o m : Int) : IRow (.slice (some ⟨w.heap.size, 0, none⟩) 1 1) [⟨o, m⟩] (w.alloc (.cells #[.int .i64 o, .int .i64 m] 40)) := irow_new w [⟨o, m⟩] _ rfl (by simp)
theorem FS.block (h : FS w0 w c L v xs) (t d o m : Int) (ht : fit t) (hd : fit d) (ho : fit o) (hm : fit m) :
    Calls Try.prog 14 #[.pointer (some ⟨c, 0, none⟩), .int .i64 t, .int .i64 d, .slice (some ⟨w.heap.size, 0, none⟩) 1 1] (w.alloc (.cells #[.int .i64 o, .int .i64 m] 40)) fun x w' => x = .returned (.int .i64 (blkS 100 L t [⟨o, m⟩])) ∧ FS w0 w' c (blkL 100 L t d [⟨o, m⟩]) v xs := by
  have t1 : Turn NoBlock w (w.alloc (.cells #[.int .i64 o, .int .i64 m] 40)) := (Turn.refl _ w).alloc _
  refine ((h.st.past t1).block t d _ [⟨o, m⟩] (one_row w o m) (by simp) ht hd (fun i hi => by
    rw [List.mem_singleton] at hi
    subst hi
    exact ⟨ho, hm⟩)).mono ?_
  rintro x w2 ⟨rfl, h1, h2⟩
  exact ⟨rfl, h1, h2.row (h.row.past t1) (fun k hk => hk), h.fr⟩
theorem FS.push (h : FS w0 w c L v xs) (x : Int) (hn : xs.length ≤ 1000) :
    ∃ p n cap p' cap' W1, v = .slice p n cap ∧ n = xs.length ∧ (∀ ty, (Builtin.append_ #[53, 53] ty #[.slice p n cap, .slice (some ⟨w.heap.size, 0, none⟩) 1 1]).run Try.prog (w.alloc (.cells #[.int .i64 x] 3)) = .ok (.slice p' (n + 1) cap') W1) ∧
      FS w0 W1 c L (.slice p' (n + 1) cap') (xs ++ [x]) := by
  obtain ⟨iI, hiI, hzI, hsI, hbI⟩ := info_parts infoI
  obtain ⟨p, cap, hv⟩ := WRow.sl h.row
  have tA : Turn NoBlock w (w.alloc (.cells #[.int .i64 x] 3)) := (Turn.refl _ w).alloc _
  obtain ⟨v', W1, hap, h1, h2, h3⟩ := WRow.append (h.row.past tA) 53 53 iI _ 8 intsT hiI hzI hsI hbI rfl ((rd_new w 3 1 #[.int .i64 x] rfl).src 53 3 intsT (icells_one [x])) (by unfold maxLen; omega) (by omega)
  obtain ⟨p', cap', rfl⟩ := h1.sl
  have h3' : ∀ k, Blk (.slice p' (xs.length + 1) cap') k → Blk v k ∨ w.heap.size ≤ k := fun k hk => (h3 k hk).imp id (fun e => by have := tA.size; omega)
  have hrow : Nums (.slice p' (xs.length + 1) cap') (xs ++ [x]) W1 := by
    unfold Nums icells
    rw [List.map_append, List.length_append]
    exact h1
  refine ⟨p, xs.length, cap, p', cap', W1, hv, rfl, fun ty => by rw [← hv]; exact hap ty, ?_, hrow, fun k hk => ?_⟩
  · refine h.st.more ((TU tA).trans h2 (fun _ h => .inl h)) (fun k hk => ?_) h.fr
    rcases h3' k hk with h4 | h4
    · exact .inl h4
    · exact .inr ⟨h4, WRow.lt hrow hk⟩
  · rcases h3' k hk with h4 | h4
    · exact h.fr k h4
    · exact Nat.le_trans h.st.turn.size h4
theorem FS.forget (h : FS w0 w c L v xs) (t : Int) (ht : fit t) : Calls Try.prog 22 #[.pointer (some ⟨c, 0, none⟩), .int .i64 t] w fun x w' => x = .returned (.int .i64 (frgS L t)) ∧ FS w0 w' c (frgL L t) v xs := by
  refine (h.st.forget t ht).mono ?_
  rintro x w2 ⟨rfl, h1, h2⟩
  exact ⟨rfl, h1, h2.row h.row (fun k hk => hk), h.fr⟩
end
theorem nums_at {w : World} {g o n c : Nat} {xs : List Int} (h : Nums (.slice (some ⟨g, o, none⟩) n c) xs w) {j : Nat} {x : Int} (hx : xs[j]? = some x) : w.cell? ⟨g, o + j, none⟩ = some (.int .i64 x) := by
  have hlt := (List.getElem?_eq_some_iff.1 hx).1
  obtain ⟨g', o', c', he, -, -, -, hc, -⟩ := WRow.shape h (by omega)
  simp only [Value.slice.injEq, Option.some.injEq, Addr.mk.injEq, and_true] at he
  obtain ⟨⟨rfl, rfl⟩, -, rfl⟩ := he
  rw [hc j (by omega)]
  unfold icells
  rw [List.getElem?_map, hx]
  rfl
end Go.Proofs.Ytabakjimlndhcaa
