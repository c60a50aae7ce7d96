/-
  PortUsers' state: the packets that wait, and the list of what is wanted beside them. No walk, no conditions.
-/
import Derived.Test.YtcnellkoejhofaaQView
namespace Go.Proofs.Ytcnellkoejhofaa
open Go.ChangeShapes Go.WideShapes Go.ChangeAt Go.RowKit

/-- The numbers from a on, m of them; and the packets that have them. -/
def seg (a m : Nat) : List Int := (List.range' a m).map (fun (j : Nat) => (j : Int))
def pq (zs : List Int) (a m : Nat) : List Pk := (List.range' a m).map (fun (j : Nat) => ⟨zs.getD j 0, 0, (j : Int)⟩)
theorem seg_len (a m : Nat) : (seg a m).length = m := by simp [seg]
theorem pq_len (zs : List Int) (a m : Nat) : (pq zs a m).length = m := by simp [pq]
theorem seg_push (a m : Nat) : seg a m ++ [((a + m : Nat) : Int)] = seg a (m + 1) := by
  unfold seg
  rw [List.range'_1_concat, List.map_append]
  rfl
theorem pq_push (zs : List Int) (a m : Nat) : pq zs a m ++ [⟨zs.getD (a + m) 0, 0, ((a + m : Nat) : Int)⟩] = pq zs a (m + 1) := by
  unfold pq
  rw [List.range'_1_concat, List.map_append]
  rfl
theorem seg_cons (a m : Nat) : seg a (m + 1) = (a : Int) :: seg (a + 1) m := rfl
theorem pq_cons (zs : List Int) (a m : Nat) : pq zs a (m + 1) = ⟨zs.getD a 0, 0, (a : Int)⟩ :: pq zs (a + 1) m := rfl
theorem pq_users (zs : List Int) (a m : Nat) : usersN (pq zs a m) = m := by
  induction m generalizing a with
  | zero => rfl
  | succ m ih => rw [pq_cons, usersN_cons, ih]; simp
theorem seg_at (a m j : Nat) (h : j < m) : (seg a m)[j]? = some ((a + j : Nat) : Int) := by
  unfold seg
  rw [List.getElem?_map, List.getElem?_range' h]
  simp
/-- The port, the row v of integers, and the blocks of Y beside them. -/
structure UU (w0 wr : World) (c : Nat) (depth : Int) (Q : List Pk) (v : Value) (xs : List Int) (Y : Nat → Prop) : Prop where
  st : PSt w0 wr c depth 0 Q [] (fun k => Blk v k ∨ Y k)
  row : Nums v xs wr
  fresh : ∀ k, Blk v k → w0.heap.size ≤ k
theorem nums_sets : Try.prog.underlying 55 = some (.slice (Try.prog.elem 55)) := by kernel_rfl
theorem nums_size : ∀ w, (Go.sizeOf (Try.prog.elem 55)).run Try.prog w = .ok 1 w := fun w => by kernel_rfl
theorem Nums.at {w : World} {g o n c : Nat} {xs : List Int} (h : Nums (.slice (some ⟨g, o, none⟩) n c) xs w) {j : Nat} {x : Int} (hx : xs[j]? = some x) : w.cell? ⟨g, o + j, none⟩ = some (.int .i64 x) := by
  have hlt := (List.getElem?_eq_some_iff.1 hx).1
  obtain ⟨g', o', c', he, -, -, -, hc, -⟩ := WRow.shape h (by omega)
  simp only [Value.slice.injEq, Option.some.injEq, Addr.mk.injEq, and_true] at he
  obtain ⟨⟨rfl, rfl⟩, -, rfl⟩ := he
  rw [hc j (by omega)]
  unfold icells
  rw [List.getElem?_map, hx]
  rfl
section
variable {w0 w w' : World} {c : Nat} {depth : Int} {Q Q' : List Pk} {v v' : Value} {xs : List Int} {Y Z : Nat → Prop}
theorem UU.past (h : UU w0 w c depth Q v xs Y) (t : Turn NoBlock w w') : UU w0 w' c depth Q v xs Y := ⟨h.st.past t, h.row.past t, h.fresh⟩
theorem UU.fewer (h : UU w0 w c depth Q v xs Y) (hZ : ∀ k, Z k → Y k) : UU w0 w c depth Q v xs Z := ⟨h.st.fewer (fun k hk => hk.imp id (hZ k)), h.row, h.fresh⟩
/-- A block laid beside. -/
theorem UU.beside (h : UU w0 w c depth Q v xs NoBlock) (o : Obj) : UU w0 (w.alloc o) c depth Q v xs (fun k => k = w.heap.size) :=
  ⟨h.st.more (TU ((Turn.refl NoBlock w).alloc o)) (fun k hk => hk.elim (fun h1 => .inl (.inl h1)) (fun e => .inr ⟨by omega, by rw [World.size_alloc]; omega⟩)) (fun k hk => hk.elim (h.fresh k) (fun h => h.elim)), h.row.past ((Turn.refl NoBlock w).alloc o), h.fresh⟩
theorem UU.take (h : UU w0 w c depth Q v xs Y) : Calls Try.prog 12 #[.pointer (some ⟨c, 0, none⟩)] w fun x w' => x = .returned (.tuple #[(takP Q).agg, .int .i64 (takS Q)]) ∧ UU w0 w' c depth Q.tail v xs Y := by
  refine (h.st.take).mono ?_
  rintro x w2 ⟨rfl, h1, h2⟩
  exact ⟨rfl, h1, h2.row h.row (fun k hk => .inl hk), h.fresh⟩
theorem UU.queue (h : UU w0 w c depth Q v xs Y) (k n : Int) : Calls Try.prog 10 #[.pointer (some ⟨c, 0, none⟩), .int .i64 k, .int .i64 n] w fun x w' => x = .returned (.int .i64 (queS depth Q)) ∧ UU w0 w' c depth (queL depth Q k n) v xs Y ∧ Kp Y w w' := by
  refine (h.st.queue k n).mono ?_
  rintro x w2 ⟨rfl, h1, h2⟩
  exact ⟨rfl, ⟨h1, h2.row h.row (fun k hk => .inl hk), h.fresh⟩, h2.mono (fun k hk => .inr hk)⟩
/-- One number more in the row. -/
theorem UU.push (h : UU w0 w c depth Q v xs NoBlock) (x : Int) (hn : xs.length ≤ 1000) :
    ∃ p n cap p' cap' W1, v = .slice p n cap ∧ n = xs.length ∧ (∀ ty, (Builtin.append_ #[55, 55] ty #[.slice p n cap, .slice (some ⟨w.heap.size, 0, none⟩) 1 1]).run Try.prog (w.alloc (.cells #[.int .i64 x] 3)) = .ok (.slice p' (n + 1) cap') W1) ∧
      UU w0 W1 c depth Q (.slice p' (n + 1) cap') (xs ++ [x]) NoBlock := by
  obtain ⟨iI, hiI, hzI, hsI, hbI⟩ := info_parts infoI
  obtain ⟨p, cap, hv⟩ := WRow.sl h.row
  have tA : Turn NoBlock w (w.alloc (.cells #[.int .i64 x] 3)) := (Turn.refl _ w).alloc _
  obtain ⟨v', W1, hap, h1, h2, h3⟩ := WRow.append (h.row.past tA) 55 55 iI _ 8 intsT hiI hzI hsI hbI rfl ((rd_new w 3 1 #[.int .i64 x] rfl).src 55 3 intsT (icells_one [x])) (by unfold maxLen; omega) (by omega)
  obtain ⟨p', cap', rfl⟩ := h1.sl
  have h3' : ∀ k, Blk (.slice p' (xs.length + 1) cap') k → Blk v k ∨ w.heap.size ≤ k := fun k hk => (h3 k hk).imp id (fun e => by have := tA.size; omega)
  have hrow : Nums (.slice p' (xs.length + 1) cap') (xs ++ [x]) W1 := by
    unfold Nums icells
    rw [List.map_append, List.length_append]
    exact h1
  refine ⟨p, xs.length, cap, p', cap', W1, hv, rfl, fun ty => by rw [← hv]; exact hap ty, ?_, hrow, fun k hk => ?_⟩
  · refine h.st.more ((TU tA).trans (h2.mono (G := fun k => Blk v k ∨ NoBlock k) (fun k hk => .inl (.inl hk))) (fun _ h => .inl h)) (fun k hk => ?_) (fun k hk => hk.elim (h.fresh k) (fun h => h.elim))
    rcases hk with hk | hk
    · rcases h3' k hk with h4 | h4
      · exact .inl (.inl h4)
      · exact .inr ⟨h4, WRow.lt hrow hk⟩
    · exact hk.elim
  · rcases h3' k hk with h4 | h4
    · exact h.fresh k h4
    · exact Nat.le_trans h.st.turn.size h4
/-- The row behind its first number. -/
theorem UU.behind {x : Int} (h : UU w0 w c depth Q v (x :: xs) NoBlock) : ∃ g o cap D, v = .slice (some ⟨g, o, none⟩) (xs.length + 1) cap ∧ xs.length + 1 ≤ cap ∧ (∀ w, Sem.run Try.prog (Instr.slice 55 (.slice (some ⟨g, o, none⟩) (xs.length + 1) cap) (some (.int .i64 1)) none none) w = .ok (.slice D xs.length (cap - 1)) w) ∧ UU w0 w c depth Q (.slice D xs.length (cap - 1)) xs NoBlock := by
  obtain ⟨g, o, cap, rfl, hnc, -⟩ := WRow.shape h.row (by simp)
  obtain ⟨D, hs1, hD, hD1⟩ := sl_lo 55 1 nums_sets nums_size g o (xs.length + 1) cap 1 (by omega) hnc
  have hDb : ∀ j, Blk (.slice D xs.length (cap - 1)) j → Blk (.slice (some ⟨g, o, none⟩) (xs.length + 1) cap) j := by
    intro j hj
    by_cases hc : 1 < cap
    · rw [hD hc] at hj; simpa [Blk, Value.ownBlock] using hj
    · rw [hD1 (by simp only [List.length_cons] at hnc; omega)] at hj; simpa [Blk, Value.ownBlock] using hj
  have hr := h.row
  unfold Nums at hr
  simp only [List.length_cons] at hr
  have hdr := hr.behind (fun hc => by have := hD hc; rw [Nat.one_mul] at this; exact this) hD1
  refine ⟨g, o, cap, D, rfl, by simpa using hnc, hs1, h.st.fewer (fun k hk => hk.imp (hDb k) id), ?_, fun k hk => h.fresh k (hDb k hk)⟩
  unfold Nums
  simpa [icells] using hdr
end
end Go.Proofs.Ytcnellkoejhofaa
