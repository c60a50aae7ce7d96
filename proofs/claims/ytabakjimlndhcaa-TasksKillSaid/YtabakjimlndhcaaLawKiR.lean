/-
  Rows by their places; what make makes. No walk, no conditions.
-/
import Derived.Test.YtabakjimlndhcaaLawKiM
import Derived.Test.YtabakjimlndhcaaTkViewS
import Derived.Deep.LoopGhost
import Derived.Deep.RegionHeld3
import Derived.Laws.MakeOwn
namespace Go.Proofs.Ytabakjimlndhcaa
open Go.ChangeShapes Go.WideShapes Go.ChangeAt Go.RowKit

/-- One cell of a row is another. -/
theorem WRow.setc {w : World} {e size g o n c : Nat} {xs : List Value} (h : WRow w e size (.slice (some ⟨g, o, none⟩) n c) n xs) {j : Nat} (hj : j < n * size) (u : Value) :
    WRow (w.setCell ⟨g, o + j, none⟩ u) e size (.slice (some ⟨g, o, none⟩) n c) n (xs.set j u) := by
  refine ⟨by rw [List.length_set]; exact h.len, ?_⟩
  rcases h.form with ⟨h1, _⟩ | ⟨g', o', c', he, hnc, hcm, ht, hc, hs⟩
  · cases h1
  simp only [Value.slice.injEq, Option.some.injEq, Addr.mk.injEq, and_true, true_and] at he
  obtain ⟨⟨rfl, rfl⟩, rfl⟩ := he
  have hl := h.len
  have hsame : ∀ k, (w.setCell ⟨g, o + j, none⟩ u).cell? ⟨g, o + k, none⟩ = if k = j then (w.cell? ⟨g, o + j, none⟩).map (fun _ => u) else w.cell? ⟨g, o + k, none⟩ := by
    intro k
    by_cases hk : k = j
    · subst hk
      rw [if_pos rfl]
      obtain ⟨cur, hcur⟩ := ht
      rw [cell_at (set_at hcur (o + k) u), cell_at hcur]
      by_cases hb : o + k < cur.size
      · simp [hb]
      · simp [hb]
    · rw [if_neg hk]
      exact World.cell?_setCell_other _ _ _ _ (fun e => hk (by (try simp at e) <;> omega))
  refine .inr ⟨g, o, c, rfl, hnc, hcm, ht.set _ u g, fun k hk => ?_, fun k hk => ?_⟩
  · rw [hsame, List.getElem?_set]
    by_cases h1 : k = j
    · subst h1
      rw [if_pos rfl, if_pos rfl, if_pos (by rw [hl]; exact hk), hc k hk, List.getElem?_eq_getElem (by rw [hl]; exact hk)]
      rfl
    · rw [if_neg h1, if_neg (fun e => h1 e.symm)]
      exact hc k hk
  · rw [hsame]
    by_cases h1 : k = j
    · subst h1
      rw [if_pos rfl, Option.isSome_map]
      exact hs k hk
    · rw [if_neg h1]
      exact hs k hk
theorem boolsT : Try.prog.underlying 89 = some (.slice 4) := by kernel_rfl
theorem infoB : (Try.prog.info? 4).map (fun i => (i.zero, i.size, i.bytes)) = some (some (.bool false), 1, 1) := by kernel_rfl
/-- A row by its places. -/
def FRow (w : World) (e : TypeId) (f : Nat → Value) (n g cap : Nat) : Prop := WRow w e 1 (.slice (some ⟨g, 0, none⟩) n cap) n ((List.range n).map f)
theorem FRow.at {w : World} {e : TypeId} {f : Nat → Value} {n g cap j : Nat} (h : FRow w e f n g cap) (hj : j < n) : w.cell? ⟨g, j, none⟩ = some (f j) := by
  obtain ⟨g', o, cap', he, -, -, -, h5, -⟩ := WRow.shape h (by omega)
  simp only [Value.slice.injEq, Option.some.injEq, Addr.mk.injEq, and_true, true_and] at he
  obtain ⟨⟨rfl, rfl⟩, rfl⟩ := he
  have := h5 j (by omega)
  rw [Nat.zero_add] at this
  rw [this]
  simp [hj]
theorem FRow.typ {w : World} {e : TypeId} {f : Nat → Value} {n g cap : Nat} (h : FRow w e f n g cap) : TBlk w g e := WRow.typed h (by simp [Blk, Value.ownBlock])
theorem FRow.kept {w w' : World} {e : TypeId} {f : Nat → Value} {n g cap : Nat} {F : Nat → Prop} (h : FRow w e f n g cap) (t : Turn F w w') (hF : ¬ F g) : FRow w' e f n g cap := WRow.kept h t (fun k hk => by
  have : k = g := by simpa [Blk, Value.ownBlock, eq_comm] using hk
  subst this
  exact hF)
theorem FRow.put {w : World} {e : TypeId} {f : Nat → Value} {n g cap j : Nat} (h : FRow w e f n g cap) (hj : j < n) (u : Value) : FRow (w.setCell ⟨g, j, none⟩ u) e (fun i => if i = j then u else f i) n g cap := by
  have := WRow.setc h (j := j) (by omega) u
  rw [Nat.zero_add] at this
  unfold FRow
  have he : ((List.range n).map f).set j u = (List.range n).map (fun i => if i = j then u else f i) := by
    apply List.ext_getElem?
    intro i
    rw [List.getElem?_set]
    by_cases hij : j = i
    · subst hij
      rw [if_pos rfl]
      simp [hj]
    · rw [if_neg hij]
      by_cases hi : i < n
      · simp [hi]
        exact fun e => absurd e.symm hij
      · simp [hi]
  rw [← he]
  exact this
theorem FRow.same {w : World} {e : TypeId} {f f' : Nat → Value} {n g cap : Nat} (h : FRow w e f n g cap) (hf : ∀ i, i < n → f i = f' i) : FRow w e f' n g cap := by
  have he : (List.range n).map f = (List.range n).map f' := List.map_congr_left (fun i hi => hf i (List.mem_range.1 hi))
  unfold FRow at *
  rw [← he]
  exact h
/-- make, of so many elements of one cell. -/
theorem frow_made (w : World) (t e bytes : Nat) (z : Value) (ht : Try.prog.underlying t = some (.slice e)) (hi : (Try.prog.info? e).map (fun i => (i.zero, i.size, i.bytes)) = some (some z, 1, bytes)) (hz : z.cells = #[z]) (hby : bytes ≤ 8) (n : Nat) (hn : n ≤ 1000000) :
    ∃ W, (Instr.makeSlice t (.int .i64 (n : Int)) (.int .i64 (n : Int))).run Try.prog w = .ok (.slice (some ⟨w.heap.size, 0, none⟩) n n) W ∧ FRow W e (fun _ => z) n w.heap.size n ∧ Turn NoBlock w W ∧ W.heap.size = w.heap.size + 1 := by
  obtain ⟨i, h1, h2, h3, h4⟩ := info_one hi
  have hb : (bytes : Int) * n ≤ 8 * 1000000 := by
    have : bytes * n ≤ 8 * 1000000 := Nat.mul_le_mul hby hn
    have e : (bytes : Int) * (n : Int) = ((bytes * n : Nat) : Int) := (Int.natCast_mul bytes n).symm
    rw [e]
    omega
  have hr := run_make (P := Try.prog) w t e i z ht h1 h2 .i64 .i64 (n : Int) (n : Int) (by omega) (Int.le_refl _) (by rw [h4]; omega) (by omega)
  simp only [Int.toNat_natCast] at hr
  rw [hz, h3, Nat.mul_one] at hr
  refine ⟨_, hr, ?_, (Turn.refl _ w).alloc _, World.size_alloc _ _⟩
  have hh := heap_alloc_new w (.cells (madeCells #[z] n) e)
  have hat : ∀ j, j < n → (madeCells #[z] n)[j]? = some z := fun j hj => by
    unfold madeCells
    rw [Array.getElem?_map, Array.getElem?_range, if_pos hj, Option.map_some, show (#[z] : Array Value).size = 1 from rfl, Nat.mod_one]
    rfl
  refine ⟨by simp, .inr ⟨w.heap.size, 0, n, rfl, Nat.le_refl _, by unfold maxLen; omega, ⟨_, hh⟩, fun j hj => ?_, fun j hj => ?_⟩⟩
  · rw [Nat.mul_one] at hj
    rw [cell_at hh, Nat.zero_add, hat j hj]
    simp [hj]
  · rw [Nat.mul_one] at hj
    rw [cell_at hh, Nat.zero_add, hat j hj]
    rfl
end Go.Proofs.Ytabakjimlndhcaa
