/-
  slices.SortFunc at pieces by their places: a row of the call's own is put in rising order. No conditions.
-/
import Derived.Test.YtdddmjdlikjedaaGSortLay
import Derived.Test.YtdddmjdlikjedaaGRow
import Derived.Test.YtdddmjdlikjedaaGFrom
namespace Go.Proofs.Ytdddmjdlikjedaa
open Go.ChangeShapes Go.WideShapes Go.ChangeAt Go.RowKit Go.Sort Go.Shelf

instance : Inhabited Pc := ⟨Pc.zero⟩
def cfP (p q : Pc) : Int := if p.at' < q.at' then -1 else if q.at' < p.at' then 1 else 0
theorem ltP (p q : Pc) : ltOf cfP p q = decide (p.at' < q.at') := by
  unfold ltOf cfP
  by_cases h1 : p.at' < q.at'
  · simp [h1]
  · by_cases h2 : q.at' < p.at' <;> simp [h1, h2]
theorem swoP : SWO (ltOf cfP) where
  irrefl x := by rw [ltP]; simp
  trans x y z h1 h2 := by rw [ltP] at *; simp at *; omega
  ntrans x y z h1 h2 := by rw [ltP] at *; simp at *; omega
theorem nan_no (x : Int) (w : World) : Calls Try.prog 124 #[.int .i64 x] w fun e w' => e = .returned (.bool false) ∧ w = w' := by
  go_enter Try.func124, Try.ntmps124
  go_wp2
  go_ret
  exact ⟨ret_bool (by simp), rfl⟩
theorem compare_any (x y : Int) (w : World) : Calls Try.prog 107 #[.int .i64 x, .int .i64 y] w fun e w' => e = .returned (.int .i64 (if x < y then -1 else if y < x then 1 else 0)) ∧ w = w' := by
  have cn := fun x w => nan_no x w
  rcases (by omega : x < y ∨ y < x ∨ x = y) with h | h | h
  · rw [if_pos h]
    go_enter Try.func107, Try.ntmps107
    go_wp2_with (go_at_call 124; (with_reducible refine (cn _ _).mono ?_); rintro e w' ⟨rfl, rfl⟩)
    go_ret
    exact ⟨rfl, rfl⟩
  · have h2 : ¬ x < y := by omega
    rw [if_neg h2, if_pos h]
    go_enter Try.func107, Try.ntmps107
    go_wp2_with (go_at_call 124; (with_reducible refine (cn _ _).mono ?_); rintro e w' ⟨rfl, rfl⟩)
    go_ret
    exact ⟨rfl, rfl⟩
  · subst h
    have h2 : ¬ x < x := by omega
    rw [if_neg h2, if_neg h2]
    go_enter Try.func107, Try.ntmps107
    go_wp2_with (go_at_call 124; (with_reducible refine (cn _ _).mono ?_); rintro e w' ⟨rfl, rfl⟩)
    go_ret
    exact ⟨rfl, rfl⟩
theorem rising_any (p q : Pc) (w : World) : Calls Try.prog 94 #[.agg p.cells.toArray, .agg q.cells.toArray] w fun e w' => e = .returned (.int .i64 (cfP p q)) ∧ ∃ m os', w' = grow (w.drewN m) os' := by
  have cc := fun w => compare_any p.at' q.at' w
  unfold cfP
  generalize (if p.at' < q.at' then (-1 : Int) else if q.at' < p.at' then 1 else 0) = r at *
  unfold Pc.cells
  obtain ⟨a, l, v, f, t⟩ := p
  obtain ⟨a', l', v', f', t'⟩ := q
  simp only at cc ⊢
  go_enter Try.func94, Try.ntmps94
  go_wp2_with (go_at_call 107; (with_reducible refine (cc _).mono ?_); rintro e w' ⟨rfl, rfl⟩)
  go_ret
  exact ⟨rfl, 0, _, by rw [alloc_eq_grow, alloc_eq_grow, grow_grow]; rfl⟩
theorem cmpP (blk off size : Nat) (w : World) : CmpLays Try.prog 94 #[] Pc.cells 5 cfP blk off size w := fun _ _ _ _ x y => rising_any x y _

theorem flat_list (l : List Pc) : (flatK Pc.cells 5 l.toArray).toList = pcs l := by
  apply List.ext_getElem?
  intro t
  by_cases ht : t < l.length * 5
  · have h1 : (flatK Pc.cells 5 l.toArray).toList[t]? = some ((flatK Pc.cells 5 l.toArray)[t]!) := by
      rw [List.getElem?_eq_getElem (by rw [Array.length_toList, size_flatK]; simpa using ht)]
      rw [getElem!_pos _ t (by rw [size_flatK]; simpa using ht)]
      simp
    rw [h1, get_flatK _ _ _ _ (by simpa using ht)]
    obtain ⟨p, hp⟩ := gget_some (show t / 5 < l.length by omega)
    have h2 := pcs_at l (t / 5) p hp (t % 5) (by omega)
    rw [show t / 5 * 5 + t % 5 = t by omega] at h2
    have e1 : l.toArray[t / 5]! = p := by
      rw [getElem!_pos _ _ (by simp; omega)]
      simp
      exact (List.getElem?_eq_some_iff.1 hp).2
    rw [h2, e1]
    rw [getElem!_pos _ _ (by rw [Pc.cells_len]; omega), List.getElem?_eq_getElem (by rw [Pc.cells_len]; omega)]
  · rw [List.getElem?_eq_none (by rw [Array.length_toList, size_flatK]; simp; omega), List.getElem?_eq_none (by rw [pcs_len]; omega)]

theorem prow_put {w : World} {g n c m : Nat} {l l' : List Pc} {os : Array Obj} (h : PRow (.slice (some ⟨g, 0, none⟩) n c) l w) (hn : l.length = n) (hl : l'.length = n) :
    PRow (.slice (some ⟨g, 0, none⟩) n c) l' (sortWorldK Pc.cells 5 w g 0 m l'.toArray os) ∧ Turn (fun k => k = g) w (sortWorldK Pc.cells 5 w g 0 m l'.toArray os) := by
  have hF := flat_list l'
  have hFs : (flatK Pc.cells 5 l'.toArray).size = n * 5 := by rw [size_flatK]; simp [hl]
  unfold PRow at h ⊢
  rw [hn] at h
  rw [hl]
  obtain ⟨F, hFe⟩ : ∃ F, flatK Pc.cells 5 l'.toArray = F := ⟨_, rfl⟩
  rw [hFe] at hF hFs
  have hW : sortWorldK Pc.cells 5 w g 0 m l'.toArray os = grow (mapBlock (Go.Sort.ahead w m) g (putCells id 0 F)) os := by
    unfold sortWorldK putRowK putRow
    rw [hFe]
  rw [hW]
  rcases h.2 with ⟨h1, _⟩ | ⟨g', c', cur, h1, hb, hg, hnc, hcm, hcs, ht⟩
  · cases h1
  · simp only [Value.slice.injEq, Option.some.injEq, Addr.mk.injEq, true_and, and_true] at h1
    obtain ⟨rfl, rfl⟩ := h1
    have glt := lt_of_block hg
    have hsz : (mapBlock (Go.Sort.ahead w m) g (putCells id 0 F)).heap.size = w.heap.size := by simp [mapBlock, Go.Sort.ahead]
    have hblk : (grow (mapBlock (Go.Sort.ahead w m) g (putCells id 0 F)) os).heap[g]? = some (.cells (putCells id 0 F cur) 61 (0, 0)) := by
      unfold grow
      simp only
      rw [Array.getElem?_append_left (by rw [hsz]; exact glt)]
      unfold mapBlock
      simp only [Array.getElem?_modify]
      have hg2 : (Go.Sort.ahead w m).heap[g]? = some (.cells cur 61 (0, 0)) := hg
      rw [hg2]
      simp [onCells]
    have hps : (putCells id 0 F cur).size = c * 5 := by simp [putCells, hcs]
    refine ⟨⟨by rw [pcs_len, hl], .inr ⟨g, c, _, rfl, hb, hblk, hnc, hcm, hps, ?_⟩⟩, rfl, rfl, rfl, ?_, fun k hk hne => ?_⟩
    · rw [← hF]
      apply List.ext_getElem?
      intro t
      by_cases htn : t < n * 5
      · rw [List.getElem?_take, if_pos htn]
        have e1 : (putCells id 0 F cur)[t]? = some (F[t]!) := by
          unfold putCells
          rw [Array.getElem?_mapIdx, Array.getElem?_eq_getElem (by rw [hcs]; omega)]
          simp [hFs, htn]
        rw [Array.getElem?_toList, e1, Array.getElem?_toList, Array.getElem?_eq_getElem (by omega), getElem!_pos F t (by omega)]
      · rw [List.getElem?_take, if_neg htn, List.getElem?_eq_none (by rw [Array.length_toList, hFs]; omega)]
    · unfold grow
      simp only [Array.size_append, hsz]
      omega
    · unfold grow
      simp only
      rw [Array.getElem?_append_left (by rw [hsz]; exact hk)]
      unfold mapBlock
      simp only [Array.getElem?_modify]
      rw [if_neg (fun e => hne e.symm)]
      rfl

/-- Put in rising order. -/
theorem sort_any {w : World} {v : Value} {l : List Pc} (h : PRow v l w) (hm : l.length ≤ 1048576) :
    Calls Try.prog 93 #[v, .func (.func 94) #[] #[]] w fun e w' => e = .returned (.tuple #[]) ∧ ∃ l', l'.Perm l ∧ l'.Pairwise (fun p q => p.at' ≤ q.at') ∧ PRow v l' w' ∧ Turn (Blk v) w w' := by
  rcases Nat.eq_zero_or_pos l.length with h0 | h0
  · obtain ⟨p, c, hv⟩ := h.slice
    rw [h0] at hv
    subst hv
    obtain rfl : l = [] := List.eq_nil_of_length_eq_zero h0
    have hc := AnyF.slices_SortFunc_none laysSF p c (.func (.func 94) #[] #[]) w
    change Calls Try.prog 93 _ _ _ at hc
    refine hc.mono ?_
    rintro e w' ⟨rfl, rfl⟩
    exact ⟨rfl, [], List.Perm.refl _, List.Pairwise.nil, h, Turn.refl _ _⟩
  · obtain ⟨g, c, rfl, hnc, -⟩ := h.shape h0
    have hlt : g < w.heap.size := by
      obtain ⟨cur, hcu⟩ := own_block h (k := g) rfl
      exact lt_of_block hcu
    have hH : HoldsK Pc.cells 5 w g 0 l.toArray := by
      intro j hj
      have hF := flat_list l
      rw [size_flatK] at hj
      simp at hj
      unfold PRow at h
      refine ⟨?_, by rw [Nat.zero_add]; exact h.frozenAt j⟩
      rw [Nat.zero_add, h.cellAt j (by omega), ← hF]
      rw [Array.getElem?_toList, Array.getElem?_eq_getElem (by rw [size_flatK]; simpa using hj), getElem!_pos _ j (by rw [size_flatK]; simpa using hj)]
      rfl
    have eg : ∀ args w, (callFunc 94 args).run Try.prog w = .ok (.enter 94 args) w := enters_of Try.func94 (by kernel_rfl) rfl
    have hc := AnyQ.slices_SortFunc laysSF 5 (fun w => by kernel_rfl) sizeP Pc.cells (fun _ => rfl) (fun x => x.cells_one) cfP swoP 94 #[] g 0 c l.toArray w eg (cmpP g 0 _ w) hH hlt (by simp; omega)
    change Calls Try.prog 93 _ _ _ at hc
    simp only [List.size_toArray] at hc
    refine hc.mono ?_
    rintro e w' ⟨rfl, d', m, os, hp, hs, rfl⟩
    obtain ⟨hp1, hp2, hp3⟩ := hp
    have hlen : d'.toList.length = l.length := by rw [Array.length_toList, hp1]; simp
    have hput := prow_put (m := m) (os := os) (l' := d'.toList) h rfl hlen
    rw [show d'.toList.toArray = d' by simp] at hput
    refine ⟨rfl, d'.toList, ?_, ?_, hput.1, hput.2.mono (fun k hk => .inl (by subst hk; rfl))⟩
    · have e1 : (d'.extract 0 l.length).toList = d'.toList := by
        rw [Array.toList_extract]
        simp only [List.extract_eq_take_drop, List.drop_zero, Nat.sub_zero]
        rw [← hlen, List.take_length]
      have e2 : (l.toArray.extract 0 l.length).toList = l := by
        rw [Array.toList_extract]
        simp
      rw [e1, e2] at hp3
      exact hp3
    · rw [List.pairwise_iff_getElem]
      intro i j hi hj hij
      have := hs i j (Nat.zero_le _) hij (by rw [hlen] at hj; exact hj)
      rw [ltP] at this
      simp only [decide_eq_false_iff_not] at this
      rw [Array.length_toList] at hi hj
      rw [getElem!_pos d' i hi, getElem!_pos d' j hj] at this
      rw [Array.getElem_toList, Array.getElem_toList]
      omega
end Go.Proofs.Ytdddmjdlikjedaa
