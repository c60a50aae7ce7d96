/-
  The document's own timers (a rising list in a slice) in memory; what Find and Drop make of them. Conditions: none but that the list is not too long.
-/
import Derived.Test.YtcbphfpfdfgehaaTInts
import Derived.OwnWalk
namespace Go.Proofs.Ytcbphfpfdfgehaa
open Go.ChangeShapes Go.WideShapes Go.ChangeAt Go.RowKit

def flp (e : En) : En := ⟨e.d, e.k⟩
theorem resT : Try.prog.underlying 57 = some (.slice 74) := by kernel_rfl
theorem infoR : (Try.prog.info? 74).map (fun i => (i.zero, i.size, i.bytes)) = some (some (.agg #[.int .i64 0, .int .i64 0]), 2, 16) := by kernel_rfl
/-- A row of the document's entries. -/
def RRow (v : Value) (L : List En) (w : World) : Prop := WRow w 74 2 v L.length (ecells (L.map flp))
theorem RRow.kept {w w' : World} {F : Nat → Prop} {v : Value} {L : List En} (h : RRow v L w) (t : Turn F w w') (hF : ∀ k, Blk v k → ¬ F k) : RRow v L w' := WRow.kept h t hF
theorem RRow.past {w w' : World} {v : Value} {L : List En} (h : RRow v L w) (t : Turn NoBlock w w') : RRow v L w' := h.kept t (fun _ _ h => h)
theorem RRow.two {w : World} {p : Option Addr} {n c : Nat} {L : List En} (h : RRow (.slice p n c) L w) {j : Nat} {e : En} (he : L[j]? = some e) :
    ∃ g o, p = some ⟨g, o, none⟩ ∧ w.cell? ⟨g, o + j * 2, none⟩ = some (.int .i64 e.d) ∧ w.cell? ⟨g, o + j * 2 + 1, none⟩ = some (.int .i64 e.k) := by
  have hj := (List.getElem?_eq_some_iff.1 he).1
  obtain ⟨g', o', c', hv, -, -, -, hc, -⟩ := WRow.shape h (by omega)
  simp only [Value.slice.injEq] at hv
  obtain ⟨rfl, -, rfl⟩ := hv
  have ht : (L.map flp)[j]? = some (flp e) := by rw [List.getElem?_map, he]; rfl
  refine ⟨g', o', rfl, ?_, ?_⟩
  · rw [hc (j * 2) (by omega)]
    exact ecells_at _ j _ ht 0 (by omega)
  · rw [Nat.add_assoc, hc (j * 2 + 1) (by omega)]
    exact ecells_at _ j _ ht 1 (by omega)
theorem flp_app (L M : List En) : ecells ((L ++ M).map flp) = ecells (L.map flp) ++ ecells (M.map flp) := by rw [List.map_append, ecells_app]
/-- The document's timers: the block x, the row v. -/
structure RM (w : World) (x : Nat) (v : Value) (most now : Int) (L : List En) : Prop where
  c0 : w.cell? ⟨x, 0, none⟩ = some v
  c1 : w.cell? ⟨x, 1, none⟩ = some (.int .i64 most)
  c2 : w.cell? ⟨x, 2, none⟩ = some (.int .i64 now)
  typ : TBlk w x 59
  row : RRow v L w
  len : L.length ≤ 65537
section
variable {w w' : World} {x : Nat} {v v' : Value} {most now : Int} {L L' : List En} {F : Nat → Prop}
theorem RM.kept (h : RM w x v most now L) (t : Turn F w w') (hF : ∀ k, (k = x ∨ Blk v k) → ¬ F k) : RM w' x v most now L :=
  ⟨t.cell h.c0 (hF x (.inl rfl)), t.cell h.c1 (hF x (.inl rfl)), t.cell h.c2 (hF x (.inl rfl)), h.typ.kept t (hF x (.inl rfl)), h.row.kept t (fun k hk => hF k (.inr hk)), h.len⟩
theorem RM.past (h : RM w x v most now L) (t : Turn NoBlock w w') : RM w' x v most now L := h.kept t (fun _ _ h => h)
theorem RM.lt (h : RM w x v most now L) {k : Nat} (hk : k = x ∨ Blk v k) : k < w.heap.size := by
  rcases hk with rfl | hk
  · exact h.typ.lt
  · exact WRow.lt h.row hk
theorem RM.vx (h : RM w x v most now L) {k : Nat} (hk : Blk v k) : k ≠ x := (WRow.typed h.row hk).unlike h.typ (by decide)
/-- Another row is laid into the head. -/
theorem RM.lay (h : RM w x v most now L) (t : Turn NoBlock w w') (hr : RRow v' L' w') (hl : L'.length ≤ 65537) : RM (w'.setCell ⟨x, 0, none⟩ v') x v' most now L' ∧ Turn (fun k => k = x) w (w'.setCell ⟨x, 0, none⟩ v') := by
  have hx := h.past t
  have other : ∀ j, j ≠ 0 → (w'.setCell ⟨x, 0, none⟩ v').cell? ⟨x, j, none⟩ = w'.cell? ⟨x, j, none⟩ := fun j hj => World.cell?_setCell_other _ _ _ _ (fun e => hj (by (try simp at e) <;> omega))
  have tc : Turn (fun k => k = x) w' (w'.setCell ⟨x, 0, none⟩ v') := (Turn.refl (fun k => k = x) w').setCell (p := ⟨x, 0, none⟩) (.inl rfl) _
  refine ⟨⟨?_, (other 1 (by omega)).trans hx.c1, (other 2 (by omega)).trans hx.c2, hx.typ.set 0 _ x, hr.kept tc (fun k hk => (WRow.typed hr hk).unlike hx.typ (by decide)), hl⟩, (t.mono (fun _ h => h.elim)).trans tc (fun _ h => .inl h)⟩
  obtain ⟨cur, hcur⟩ := hx.typ
  rw [cell_at (set_at hcur 0 _)]
  have h2 := hx.c0
  rw [cell_at hcur] at h2
  have : 0 < cur.size := by
    rcases Nat.lt_or_ge 0 cur.size with h3 | h3
    · exact h3
    · rw [Array.getElem?_eq_none h3] at h2; cases h2
  simp [this]
end
def fndI (L : List En) (i : Nat) : Int := if i < L.length then (i : Int) else -1
/-- The first i have other keys, and what stands at i has this one. -/
structure At (L : List En) (k : Int) (i : Nat) : Prop where
  le : i ≤ L.length
  no : ∀ j e, j < i → L[j]? = some e → e.k ≠ k
  yes : ∀ e, L[i]? = some e → e.k = k
theorem at_ex (L : List En) (k : Int) : At L k (L.findIdx (fun e => e.k == k)) := by
  refine ⟨List.findIdx_le_length, fun j e hj he => ?_, fun e he => ?_⟩
  · have hlt := (List.getElem?_eq_some_iff.1 he)
    have := List.not_of_lt_findIdx hj
    rw [← hlt.2]
    simpa using this
  · obtain ⟨hlt, h⟩ := List.getElem?_eq_some_iff.1 he
    have := List.findIdx_getElem (w := hlt)
    rw [← h]
    simpa using this
theorem At.has {L : List En} {k : Int} {i : Nat} (h : At L k i) : hasK L k = decide (i < L.length) := by
  by_cases hi : i < L.length
  · rw [decide_eq_true hi, hasK_iff]
    exact ⟨L[i], List.getElem_mem hi, h.yes _ (List.getElem?_eq_getElem hi)⟩
  · rw [decide_eq_false hi, hasK_no]
    intro e he
    obtain ⟨j, hj, hje⟩ := List.getElem_of_mem he
    exact h.no j e (by have := h.le; omega) (by rw [List.getElem?_eq_getElem hj, hje])
theorem At.drop {L : List En} {k : Int} {i : Nat} (h : At L k i) (hR : Right L) : L.eraseIdx i = dropK L k := by
  by_cases hi : i < L.length
  · have h1 := h.yes _ (List.getElem?_eq_getElem hi)
    unfold dropK
    have hk := hR.keys
    have e2 : L = L.take i ++ L[i] :: L.drop (i + 1) := by rw [← List.drop_eq_getElem_cons hi, List.take_append_drop]
    rw [List.eraseIdx_eq_take_drop_succ]
    conv => rhs; rw [e2]
    rw [List.filter_append, List.filter_cons_of_neg (by simpa using h1)]
    have f1 : (L.take i).filter (fun e => e.k != k) = L.take i := List.filter_eq_self.2 (fun a ha => by
      obtain ⟨j, hj, hja⟩ := List.getElem_of_mem ha
      rw [List.length_take] at hj
      rw [List.getElem_take] at hja
      have := h.no j a (by omega) (by rw [List.getElem?_eq_getElem (by omega), hja])
      simpa using this)
    have f2 : (L.drop (i + 1)).filter (fun e => e.k != k) = L.drop (i + 1) := List.filter_eq_self.2 (fun a ha => by
      rw [e2] at hk
      unfold keysOf at hk
      rw [List.map_append, List.map_cons] at hk
      have h3 := (List.nodup_append.1 hk).2.1
      rw [List.nodup_cons] at h3
      have : a.k ≠ k := fun e => h3.1 (by rw [h1, ← e]; exact List.mem_map_of_mem ha)
      simpa using this)
    rw [f1, f2]
  · have hh := h.has
    rw [decide_eq_false hi] at hh
    rw [dropK_no hh, List.eraseIdx_of_length_le (by omega)]
theorem At.dl {L : List En} {k : Int} {i : Nat} (h : At L k i) (hR : Right L) {e : En} (he : L[i]? = some e) : dlK L k = e.d := by
  have := dlK_of hR.keys (List.mem_of_getElem? he)
  rw [h.yes e he] at this
  exact this
section
variable {w w' : World} {x : Nat} {v v' : Value} {most now : Int} {L L' : List En}
set_option maxRecDepth 20000 in
theorem rfind_any (h : RM w x v most now L) (k : Int) (i : Nat) (hi : At L k i) : Calls Try.prog 26 #[.pointer (some ⟨x, 0, none⟩), .int .i64 k] w fun r w' => r = .returned (.int .i64 (fndI L i)) ∧ w = w' := by
  obtain ⟨p, c, rfl⟩ := WRow.sl h.row
  have c0 := h.c0
  have HR := Lib.hid h
  have HI := Lib.hid hi
  obtain ⟨n, hn⟩ : ∃ n, L.length = n := ⟨_, rfl⟩
  have hin : i ≤ n := by rw [← hn]; exact hi.le
  have hnl : n ≤ 65537 := by rw [← hn]; exact h.len
  have HN := Lib.hid hn
  unfold fndI
  rw [hn] at c0 ⊢
  obtain ⟨r, hr⟩ : ∃ r : Int, (if i < n then (i : Int) else -1) = r := ⟨_, rfl⟩
  rw [hr]
  have HRR := Lib.hid hr
  clear h hi hn hr
  go_enter Try.func26, Try.ntmps26
  go_wp2
  go_loopg [5] n (fun z s5 wr => ∃ j : Nat, z = n - j ∧ j ≤ i ∧ s5 = .int .i64 (j : Int) ∧ w = wr)
  case atStart => exact ⟨0, rfl, Nat.zero_le _, rfl, rfl⟩
  case round =>
    obtain ⟨j, hz, hj, rfl, rfl⟩ := hrel
    by_cases hlt : j < n
    · obtain ⟨e, he⟩ : ∃ e, L[j]? = some e := ⟨_, List.getElem?_eq_getElem (by rw [HN.out]; exact hlt)⟩
      obtain ⟨g, o, rfl, q0, q1⟩ := HR.out.row.two he
      have hjn : (j : Int) < (n : Int) := by omega
      by_cases hji : j = i
      · have hk := HI.out.yes e (hji ▸ he)
        have hb : (e.k == k) = true := by simpa using hk
        have hin2 : i < n := by omega
        subst hji
        clear he hk
        go_wp2
        go_ret
        exact ⟨ret_int (by rw [← HRR.out, if_pos hin2]), rfl⟩
      · have hk := HI.out.no j e (by omega) he
        have hb : (e.k == k) = false := by simpa using hk
        clear he hk
        go_wp2
        go_roundg (n - (j + 1))
        case measure => omega
        case rel => exact ⟨j + 1, rfl, by omega, by go_num, rfl⟩
    · have hin2 : ¬ i < n := by omega
      have e : n = j := by omega
      subst e
      go_wp2
      go_ret
      exact ⟨ret_int (by rw [← HRR.out, if_neg hin2]), rfl⟩
/-- Is it the place? -/
def Hit (L : List En) (at' : Int) (i : Nat) : Prop := ∀ j, j < L.length → ((j : Int) = at' ↔ j = i)
theorem fnd_hit {L : List En} {i : Nat} (hi : i ≤ L.length) : Hit L (fndI L i) i := by
  intro j hj
  unfold fndI
  split <;> omega
theorem erase_next {L : List En} {i j : Nat} {e : En} (he : L[j]? = some e) : (L.take (j + 1)).eraseIdx i = if j = i then (L.take j).eraseIdx i else (L.take j).eraseIdx i ++ [e] := by
  have hj := (List.getElem?_eq_some_iff.1 he).1
  have h1 : L.take (j + 1) = L.take j ++ [e] := by rw [List.take_add_one, he]; rfl
  have hl : (L.take j).length = j := by rw [List.length_take]; omega
  rw [h1]
  by_cases hji : j = i
  · subst hji
    rw [if_pos rfl, List.eraseIdx_append_of_length_le (by omega), hl, Nat.sub_self, List.eraseIdx_cons_zero, List.append_nil, List.eraseIdx_of_length_le (by omega)]
  · rw [if_neg hji]
    rcases Nat.lt_or_ge i j with h2 | h2
    · rw [List.eraseIdx_append_of_lt_length (by omega)]
    · rw [List.eraseIdx_append_of_length_le (by omega), List.eraseIdx_of_length_le (by rw [hl, List.length_singleton]; omega), List.eraseIdx_of_length_le (by omega)]
set_option maxRecDepth 20000 in
set_option maxHeartbeats 1000000 in
theorem rdrop_any (h : RM w x v most now L) (at' : Int) (i : Nat) (hi : Hit L at' i) : Calls Try.prog 27 #[.pointer (some ⟨x, 0, none⟩), .int .i64 at'] w fun r w' => r = .returned (.tuple #[]) ∧ ∃ v', RM w' x v' most now (L.eraseIdx i) ∧ (∀ k, Blk v' k → w.heap.size ≤ k) ∧ Turn (fun k => k = x) w w' := by
  obtain ⟨i5, hi5, hz5, hs5, hb5⟩ := info_parts infoR
  obtain ⟨p, c, rfl⟩ := WRow.sl h.row
  have c0 := h.c0
  have HR := Lib.hid h
  have HI := Lib.hid hi
  obtain ⟨n, hn⟩ : ∃ n, L.length = n := ⟨_, rfl⟩
  have hnl : n ≤ 65537 := by rw [← hn]; exact h.len
  have HN := Lib.hid hn
  have hxl := h.typ.lt
  have HE := Lib.hid (And.intro hi5 (And.intro hz5 (And.intro hs5 hb5)))
  rw [hn] at c0
  clear h hi hn hi5 hz5 hs5 hb5
  go_enter Try.func27, Try.ntmps27
  go_wp2
  go_loopg [4, 5] n (fun z s4 s5 wr => ∃ (j : Nat) (u : Value), z = n - j ∧ j ≤ n ∧ s4 = u ∧ s5 = .int .i64 (j : Int) ∧ Hid (Turn NoBlock w wr ∧ RRow u ((L.take j).eraseIdx i) wr ∧ ∀ k, Blk u k → w.heap.size ≤ k))
  case atStart => exact ⟨0, _, rfl, Nat.zero_le _, rfl, rfl, Lib.hid ⟨Turn.refl _ _, wrow_nil _ _ _, fun k hk => (blk_nil k hk).elim⟩⟩
  case round =>
    obtain ⟨j, u, hz, hj, rfl, rfl, HU⟩ := hrel
    have d0 := HU.out.1.cell c0 (fun h => h)
    by_cases hlt : j < n
    · obtain ⟨e, he⟩ : ∃ e, L[j]? = some e := ⟨_, List.getElem?_eq_getElem (by rw [HN.out]; exact hlt)⟩
      have hjn : (j : Int) < (n : Int) := by omega
      have hnx := erase_next (i := i) he
      by_cases hji : j = i
      · have hb : ((j : Int) != at') = false := by have := (HI.out j (by rw [HN.out]; exact hlt)).2 hji; simpa using this
        rw [if_pos hji] at hnx
        have HX := Lib.hid hnx
        clear he hnx
        go_wp2
        go_roundg (n - (j + 1))
        case measure => omega
        case rel => exact ⟨j + 1, _, rfl, by omega, rfl, by go_num, Lib.hid ⟨HU.out.1, by rw [HX.out]; exact HU.out.2.1, HU.out.2.2⟩⟩
      · have hb : ((j : Int) != at') = true := by have := fun e => hji ((HI.out j (by rw [HN.out]; exact hlt)).1 e); simpa using this
        rw [if_neg hji] at hnx
        have HX := Lib.hid hnx
        obtain ⟨g, o, rfl, q0, q1⟩ := (HR.out.row.past HU.out.1).two he
        obtain ⟨pu, cu, hu⟩ := WRow.sl HU.out.2.1
        subst hu
        obtain ⟨m, hm⟩ : ∃ m, ((L.take j).eraseIdx i).length = m := ⟨_, rfl⟩
        have hml : m ≤ 65537 := by
          have h1 := List.length_eraseIdx_le (L.take j) i
          have h2 := List.length_take_le j L
          omega
        have HRO := Lib.hid (show WRow (wr.alloc (.cells #[.int .i64 e.d, .int .i64 e.k] 74)) 74 2 (.slice pu m cu) m (ecells (((L.take j).eraseIdx i).map flp)) from by
          have := HU.out.2.1.past ((Turn.refl NoBlock wr).alloc (.cells #[.int .i64 e.d, .int .i64 e.k] 74))
          unfold RRow at this
          rw [hm] at this
          exact this)
        have HSR := Lib.hid (Rd.src (rd_new wr 74 2 #[.int .i64 e.d, .int .i64 e.k] rfl) 57 74 resT (ecells_one [flp e]))
        have HB := Lib.hid (And.intro (show m + 1 ≤ maxLen by unfold maxLen; omega) (show (m + 1) * 16 ≤ 140737488355328 by omega))
        rw [hm] at HU ⊢
        have HM := Lib.hid hm
        obtain ⟨hi5, hz5, hs5, hb5⟩ := HE.out
        have HHI := Lib.hid (And.intro hi5 (And.intro hz5 (And.intro hs5 hb5)))
        clear he hnx hm hi5 hz5 hs5 hb5
        go_wp2_with (first
          | (at_builtin; refine wpList_append_w rfl (.tmp 18) (.tmp 26) 57 57 rfl HRO.out i5 _ 16 resT HHI.out.1 HHI.out.2.1 HHI.out.2.2.1 HHI.out.2.2.2 rfl rfl rfl HSR.out HB.out.1 HB.out.2 ?_; intro v7 W7 r7 t7 k7; have R7 := Lib.hid (And.intro r7 (And.intro t7 k7)); clear r7 t7 k7))
        go_roundg (n - (j + 1))
        case measure => omega
        case rel =>
          refine ⟨j + 1, v7, rfl, by omega, rfl, by go_num, Lib.hid ⟨?_, ?_, fun k hk => ?_⟩⟩
          · exact (HU.out.1.alloc _).trans R7.out.2.1 (fun k hk => .inr (HU.out.2.2 k hk))
          · rw [HX.out]
            unfold RRow
            rw [List.length_append, HM.out, flp_app]
            exact R7.out.1
          · rcases R7.out.2.2 k hk with h1 | h1
            · exact HU.out.2.2 k h1
            · rw [h1.1, World.size_alloc]; have := HU.out.1.size; omega
    · have e : n = j := by omega
      subst e
      have ht : L.take n = L := List.take_of_length_le (by rw [HN.out]; exact Nat.le_refl _)
      rw [ht] at HU
      obtain ⟨pu, cu, hu⟩ := WRow.sl HU.out.2.1
      subst hu
      have hf := (TBlk.kept HR.out.typ HU.out.1 (fun h => h)).free 0
      have HL := Lib.hid (HR.out.lay HU.out.1 HU.out.2.1 (by have := List.length_eraseIdx_le L i; have := HN.out; omega))
      clear ht
      go_wp2
      go_end0
      exact ⟨rfl, _, HL.out.1, HU.out.2.2, HL.out.2⟩
end
end Go.Proofs.Ytcbphfpfdfgehaa
