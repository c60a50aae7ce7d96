/-
  A port in a law's state, a row of integers of the law's own beside it. No walk, no conditions.
-/
import Derived.Test.YtcnellkoejhofaaLawUsM
namespace Go.Proofs.Ytcnellkoejhofaa
open Go.ChangeShapes Go.WideShapes Go.ChangeAt Go.RowKit

/-- The port, the row v of integers, and the blocks of Y beside them. -/
structure RR (w0 wr : World) (c : Nat) (depth most : Int) (Q : List Pk) (Ws : List Wc) (v : Value) (xs : List Int) (Y : Nat → Prop) : Prop where
  st : PSt w0 wr c depth most Q Ws (fun k => Blk v k ∨ Y k)
  row : Nums v xs wr
  fresh : ∀ k, Blk v k → w0.heap.size ≤ k
section
variable {w0 w w' : World} {c : Nat} {depth most : Int} {Q Q' : List Pk} {Ws Ws' : List Wc} {v v' : Value} {xs : List Int} {Y Z : Nat → Prop}
theorem RR.past (h : RR w0 w c depth most Q Ws v xs Y) (t : Turn NoBlock w w') : RR w0 w' c depth most Q Ws v xs Y := ⟨h.st.past t, h.row.past t, h.fresh⟩
theorem RR.fewer (h : RR w0 w c depth most Q Ws v xs Y) (hZ : ∀ k, Z k → Y k) : RR w0 w c depth most Q Ws v xs Z := ⟨h.st.fewer (fun k hk => hk.imp id (hZ k)), h.row, h.fresh⟩
/-- A block laid beside. -/
theorem RR.beside (h : RR w0 w c depth most Q Ws v xs NoBlock) (o : Obj) : RR w0 (w.alloc o) c depth most Q Ws v xs (fun k => k = w.heap.size) :=
  ⟨h.st.more (TU ((Turn.refl NoBlock w).alloc o)) (fun k hk => hk.elim (fun h1 => .inl (.inl h1)) (fun e => .inr ⟨by omega, by rw [World.size_alloc]; omega⟩)) (fun k hk => hk.elim (h.fresh k) (fun h => h.elim)), h.row.past ((Turn.refl NoBlock w).alloc o), h.fresh⟩
theorem RR.take (h : RR w0 w c depth most Q Ws v xs Y) : Calls Try.prog 12 #[.pointer (some ⟨c, 0, none⟩)] w fun x w' => x = .returned (.tuple #[(takP Q).agg, .int .i64 (takS Q)]) ∧ RR w0 w' c depth most Q.tail Ws v xs Y := by
  refine (h.st.take).mono ?_
  rintro x w2 ⟨rfl, h1, h2⟩
  exact ⟨rfl, h1, h2.row h.row (fun k hk => .inl hk), h.fresh⟩
theorem RR.queue (h : RR w0 w c depth most Q Ws v xs Y) (k n : Int) : Calls Try.prog 10 #[.pointer (some ⟨c, 0, none⟩), .int .i64 k, .int .i64 n] w fun x w' => x = .returned (.int .i64 (queS depth Q)) ∧ RR w0 w' c depth most (queL depth Q k n) Ws v xs Y ∧ Kp Y w w' := by
  refine (h.st.queue k n).mono ?_
  rintro x w2 ⟨rfl, h1, h2⟩
  exact ⟨rfl, ⟨h1, h2.row h.row (fun k hk => .inl hk), h.fresh⟩, h2.mono (fun k hk => .inr hk)⟩
theorem RR.watch (h : RR w0 w c depth most Q Ws v xs Y) (o k m : Int) (ho : fit o) : Calls Try.prog 15 #[.pointer (some ⟨c, 0, none⟩), .int .i64 o, .int .i64 k, .int .i64 m] w fun x w' => x = .returned (.int .i64 (watS most Q Ws o m)) ∧ RR w0 w' c depth most Q (watL most Q Ws o k m) v xs Y ∧ Kp Y w w' := by
  refine (h.st.watch o k m ho).mono ?_
  rintro x w2 ⟨rfl, h1, h2⟩
  exact ⟨rfl, ⟨h1, h2.row h.row (fun k hk => .inl hk), h.fresh⟩, h2.mono (fun k hk => .inr hk)⟩
theorem RR.tell (h : RR w0 w c depth most Q Ws v xs Y) (o s : Int) (ho : fit o) : Calls Try.prog 17 #[.pointer (some ⟨c, 0, none⟩), .int .i64 o, .int .i64 s] w fun x w' => x = .returned (.int .i64 (telN Ws o s : Int)) ∧ RR w0 w' c depth most (Q ++ packs (ofO Ws o) o s) (telL Ws o s) v xs Y ∧ Kp Y w w' := by
  refine (h.st.tell o s ho).mono ?_
  rintro x w2 ⟨rfl, h1, h2⟩
  exact ⟨rfl, ⟨h1, h2.row h.row (fun k hk => .inl hk), h.fresh⟩, h2.mono (fun k hk => .inr hk)⟩
/-- One number more in the row. -/
theorem RR.push (h : RR w0 w c depth most Q Ws v xs NoBlock) (x : Int) (hn : xs.length ≤ 1000) :
    ∃ p n cap p' cap' W1, v = .slice p n cap ∧ n = xs.length ∧ (∀ ty, (Builtin.append_ #[55, 55] ty #[.slice p n cap, .slice (some ⟨w.heap.size, 0, none⟩) 1 1]).run Try.prog (w.alloc (.cells #[.int .i64 x] 3)) = .ok (.slice p' (n + 1) cap') W1) ∧
      RR w0 W1 c depth most Q Ws (.slice p' (n + 1) cap') (xs ++ [x]) NoBlock := by
  obtain ⟨iI, hiI, hzI, hsI, hbI⟩ := info_parts infoI
  obtain ⟨p, cap, hv⟩ := WRow.sl h.row
  have tA : Turn NoBlock w (w.alloc (.cells #[.int .i64 x] 3)) := (Turn.refl _ w).alloc _
  obtain ⟨v', W1, hap, h1, h2, h3⟩ := WRow.append (h.row.past tA) 55 55 iI _ 8 intsT hiI hzI hsI hbI rfl ((rd_new w 3 1 #[.int .i64 x] rfl).src 55 3 intsT (icells_one [x])) (by unfold maxLen; omega) (by omega)
  obtain ⟨p', cap', rfl⟩ := h1.sl
  have h3' : ∀ k, Blk (.slice p' (xs.length + 1) cap') k → Blk v k ∨ w.heap.size ≤ k := fun k hk => (h3 k hk).imp id (fun e => by have := tA.size; omega)
  have hrow : Nums (.slice p' (xs.length + 1) cap') (xs ++ [x]) W1 := by
    unfold Nums icells
    rw [List.map_append, List.length_append]
    exact h1
  refine ⟨p, xs.length, cap, p', cap', W1, hv, rfl, fun ty => by rw [← hv]; exact hap ty, ?_, hrow, fun k hk => ?_⟩
  · refine h.st.more ((TU tA).trans (h2.mono (G := fun k => Blk v k ∨ NoBlock k) (fun k hk => .inl (.inl hk))) (fun _ h => .inl h)) (fun k hk => ?_) (fun k hk => hk.elim (h.fresh k) (fun h => h.elim))
    rcases hk with hk | hk
    · rcases h3' k hk with h4 | h4
      · exact .inl (.inl h4)
      · exact .inr ⟨h4, WRow.lt hrow hk⟩
    · exact hk.elim
  · rcases h3' k hk with h4 | h4
    · exact h.fresh k h4
    · exact Nat.le_trans h.st.turn.size h4
/-- The row behind its first number. -/
theorem RR.behind {x : Int} (h : RR w0 w c depth most Q Ws v (x :: xs) NoBlock) : ∃ g o cap D, v = .slice (some ⟨g, o, none⟩) (xs.length + 1) cap ∧ xs.length + 1 ≤ cap ∧ (∀ w, Sem.run Try.prog (Instr.slice 55 (.slice (some ⟨g, o, none⟩) (xs.length + 1) cap) (some (.int .i64 1)) none none) w = .ok (.slice D xs.length (cap - 1)) w) ∧ RR w0 w c depth most Q Ws (.slice D xs.length (cap - 1)) xs NoBlock := by
  obtain ⟨g, o, cap, rfl, hnc, -⟩ := WRow.shape h.row (by simp)
  obtain ⟨D, hs1, hD, hD1⟩ := sl_lo 55 1 nums_sets nums_size g o (xs.length + 1) cap 1 (by omega) hnc
  have hDb : ∀ j, Blk (.slice D xs.length (cap - 1)) j → Blk (.slice (some ⟨g, o, none⟩) (xs.length + 1) cap) j := by
    intro j hj
    by_cases hc : 1 < cap
    · rw [hD hc] at hj; simpa [Blk, Value.ownBlock] using hj
    · rw [hD1 (by simp only [List.length_cons] at hnc; omega)] at hj; simpa [Blk, Value.ownBlock] using hj
  have hr := h.row
  unfold Nums at hr
  simp only [List.length_cons] at hr
  have hdr := hr.behind (fun hc => by have := hD hc; rw [Nat.one_mul] at this; exact this) hD1
  refine ⟨g, o, cap, D, rfl, by simpa using hnc, hs1, h.st.fewer (fun k hk => hk.imp (hDb k) id), ?_, fun k hk => h.fresh k (hDb k hk)⟩
  unfold Nums
  simpa [icells] using hdr
end
end Go.Proofs.Ytcnellkoejhofaa
