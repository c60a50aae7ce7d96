/-
  slices.SortFunc at entries by their order: a row of the call's own is put in rising order. No conditions.
-/
import Derived.Test.YtcbphfpfdfgehaaTSortLay
import Derived.Test.YtcbphfpfdfgehaaTAwake
namespace Go.Proofs.Ytcbphfpfdfgehaa
open Go.ChangeShapes Go.WideShapes Go.ChangeAt Go.RowKit Go.Sort Go.Shelf

theorem sizeE : ∀ w, (Go.sizeOf 118).run Try.prog w = .ok 2 w := fun w => by kernel_rfl
instance (a b : En) : Decidable (befE a b) := by unfold befE; exact inferInstance
theorem ltE (p q : En) : ltOf ordI p q = decide (befE p q) := by
  unfold ltOf
  rw [decide_eq_decide]
  exact ordI_lt p q
theorem swoE : SWO (ltOf ordI) where
  irrefl x := by rw [ltE]; simp only [decide_eq_false_iff_not]; unfold befE; omega
  trans x y z h1 h2 := by rw [ltE] at *; simp only [decide_eq_true_eq] at *; unfold befE at *; omega
  ntrans x y z h1 h2 := by rw [ltE] at *; simp only [decide_eq_false_iff_not] at *; unfold befE at *; omega
theorem cmpE (blk off size : Nat) (w : World) : CmpLays Try.prog 62 #[] En.cells 2 ordI blk off size w := fun _ _ _ _ x y => order_any x y _
theorem flat_list (l : List En) : (flatK En.cells 2 l.toArray).toList = ecells l := by
  apply List.ext_getElem?
  intro t
  by_cases ht : t < l.length * 2
  · have h1 : (flatK En.cells 2 l.toArray).toList[t]? = some ((flatK En.cells 2 l.toArray)[t]!) := by
      rw [List.getElem?_eq_getElem (by rw [Array.length_toList, size_flatK]; simpa using ht)]
      rw [getElem!_pos _ t (by rw [size_flatK]; simpa using ht)]
      simp
    rw [h1, get_flatK _ _ _ _ (by simpa using ht)]
    have hp := eAt_some (show t / 2 < l.length by omega)
    have h2 := ecells_at l (t / 2) _ hp (t % 2) (by omega)
    rw [show t / 2 * 2 + t % 2 = t by omega] at h2
    have e1 : l.toArray[t / 2]! = eAt l (t / 2) := by
      rw [getElem!_pos _ _ (by simp; omega)]
      simp
      exact (List.getElem?_eq_some_iff.1 hp).2
    rw [h2, e1]
    rw [getElem!_pos _ _ (by show t % 2 < 2; omega), List.getElem?_eq_getElem (by show t % 2 < 2; omega)]
  · rw [List.getElem?_eq_none (by rw [Array.length_toList, size_flatK]; simp; omega), List.getElem?_eq_none (by rw [ecells_len]; omega)]
theorem erow_put {w : World} {g o n c m : Nat} {l l' : List En} {os : Array Obj} (h : ERow (.slice (some ⟨g, o, none⟩) n c) l w) (hn : l.length = n) (hl : l'.length = n) :
    ERow (.slice (some ⟨g, o, none⟩) n c) l' (sortWorldK En.cells 2 w g o m l'.toArray os) ∧ Turn (fun k => k = g) w (sortWorldK En.cells 2 w g o m l'.toArray os) := by
  have hF := flat_list l'
  have hFs : (flatK En.cells 2 l'.toArray).size = n * 2 := by rw [size_flatK]; simp [hl]
  unfold ERow at h ⊢
  rw [hn] at h
  rw [hl]
  obtain ⟨F, hFe⟩ : ∃ F, flatK En.cells 2 l'.toArray = F := ⟨_, rfl⟩
  rw [hFe] at hF hFs
  have hW : sortWorldK En.cells 2 w g o m l'.toArray os = grow (mapBlock (Go.Sort.ahead w m) g (putCells id o F)) os := by
    unfold sortWorldK putRowK putRow
    rw [hFe]
  rw [hW]
  rcases h.form with ⟨h1, _⟩ | ⟨g', o', c', h1, hnc, hcm, ⟨cur, hg⟩, hc, hs⟩
  · cases h1
  · simp only [Value.slice.injEq, Option.some.injEq, Addr.mk.injEq, true_and, and_true] at h1
    obtain ⟨⟨rfl, rfl⟩, rfl⟩ := h1
    have glt := lt_of_block hg
    have hsz : (mapBlock (Go.Sort.ahead w m) g (putCells id o F)).heap.size = w.heap.size := by simp [mapBlock, Go.Sort.ahead]
    have hblk : (grow (mapBlock (Go.Sort.ahead w m) g (putCells id o F)) os).heap[g]? = some (.cells (putCells id o F cur) 118 (0, 0)) := by
      unfold grow
      simp only
      rw [Array.getElem?_append_left (by rw [hsz]; exact glt)]
      unfold mapBlock
      simp only [Array.getElem?_modify]
      have hg2 : (Go.Sort.ahead w m).heap[g]? = some (.cells cur 118 (0, 0)) := hg
      rw [hg2]
      simp [onCells]
    have hps : (putCells id o F cur).size = cur.size := by simp [putCells]
    have hin : ∀ j, j < c * 2 → o + j < cur.size := fun j hj => by
      have := hs j hj
      rw [cell_at hg] at this
      rcases Nat.lt_or_ge (o + j) cur.size with h5 | h5
      · exact h5
      · rw [Array.getElem?_eq_none h5] at this; cases this
    refine ⟨⟨by rw [ecells_len, hl], .inr ⟨g, o, c, rfl, hnc, hcm, ⟨_, hblk⟩, fun j hj => ?_, fun j hj => ?_⟩⟩, rfl, rfl, rfl, ?_, fun k hk hne => ?_⟩
    · rw [cell_at hblk, ← hF]
      have h6 := hin j (by omega)
      unfold putCells
      rw [Array.getElem?_mapIdx, Array.getElem?_eq_getElem h6]
      simp only [Option.map_some, id]
      rw [if_pos ⟨by omega, by omega⟩, show o + j - o = j by omega, Array.getElem?_toList, Array.getElem?_eq_getElem (by omega), getElem!_pos F j (by omega)]
    · rw [cell_at hblk, Array.getElem?_eq_getElem (by rw [hps]; exact hin j hj)]
      rfl
    · unfold grow
      simp only [Array.size_append, hsz]
      omega
    · unfold grow
      simp only
      rw [Array.getElem?_append_left (by rw [hsz]; exact hk)]
      unfold mapBlock
      simp only [Array.getElem?_modify]
      rw [if_neg (fun e => hne e.symm)]
      rfl
/-- Put in rising order. -/
theorem sort_any {w : World} {v : Value} {l : List En} (h : ERow v l w) (hm : l.length ≤ 1048576) :
    Calls Try.prog 61 #[v, .func (.func 62) #[] #[]] w fun e w' => e = .returned (.tuple #[]) ∧ ∃ l', l'.Perm l ∧ l'.Pairwise (fun p q => ¬ befE q p) ∧ ERow v l' w' ∧ Turn (Blk v) w w' := by
  rcases Nat.eq_zero_or_pos l.length with h0 | h0
  · obtain ⟨p, c, hv⟩ := h.sl
    rw [h0] at hv
    subst hv
    obtain rfl : l = [] := List.eq_nil_of_length_eq_zero h0
    have hc := AnyF.slices_SortFunc_none laysSF p c (.func (.func 62) #[] #[]) w
    change Calls Try.prog 61 _ _ _ at hc
    refine hc.mono ?_
    rintro e w' ⟨rfl, rfl⟩
    exact ⟨rfl, [], List.Perm.refl _, List.Pairwise.nil, h, Turn.refl _ _⟩
  · obtain ⟨g, o, c, rfl, hnc, hcm, hty, hcell, -⟩ := WRow.shape h h0
    have hlt : g < w.heap.size := hty.lt
    have hH : HoldsK En.cells 2 w g o l.toArray := by
      intro j hj
      have hF := flat_list l
      rw [size_flatK] at hj
      simp at hj
      refine ⟨?_, hty.free _⟩
      rw [hcell j hj, ← hF]
      rw [Array.getElem?_toList, Array.getElem?_eq_getElem (by rw [size_flatK]; simpa using hj), getElem!_pos _ j (by rw [size_flatK]; simpa using hj)]
      rfl
    have eg : ∀ args w, (callFunc 62 args).run Try.prog w = .ok (.enter 62 args) w := enters_of Try.func62 (by kernel_rfl) rfl
    have hc := AnyQ.slices_SortFunc laysSF 2 (fun w => by kernel_rfl) sizeE En.cells (fun _ => rfl) (fun x => by intro v hv; simp [En.cells] at hv; rcases hv with rfl | rfl <;> rfl) ordI swoE 62 #[] g o c l.toArray w eg (cmpE g o _ w) hH hlt (by simp; omega)
    change Calls Try.prog 61 _ _ _ at hc
    simp only [List.size_toArray] at hc
    refine hc.mono ?_
    rintro e w' ⟨rfl, d', m, os, hp, hs, rfl⟩
    obtain ⟨hp1, hp2, hp3⟩ := hp
    have hlen : d'.toList.length = l.length := by rw [Array.length_toList, hp1]; simp
    have hput := erow_put (m := m) (os := os) (l' := d'.toList) h rfl hlen
    rw [show d'.toList.toArray = d' by simp] at hput
    refine ⟨rfl, d'.toList, ?_, ?_, hput.1, hput.2.mono (fun k hk => .inl (by subst hk; rfl))⟩
    · have e1 : (d'.extract 0 l.length).toList = d'.toList := by
        rw [Array.toList_extract]
        simp only [List.extract_eq_take_drop, List.drop_zero, Nat.sub_zero]
        rw [← hlen, List.take_length]
      have e2 : (l.toArray.extract 0 l.length).toList = l := by
        rw [Array.toList_extract]
        simp
      rw [e1, e2] at hp3
      exact hp3
    · rw [List.pairwise_iff_getElem]
      intro i j hi hj hij
      have := hs i j (Nat.zero_le _) hij (by rw [hlen] at hj; exact hj)
      rw [ltE] at this
      simp only [decide_eq_false_iff_not] at this
      rw [Array.length_toList] at hi hj
      rw [getElem!_pos d' i hi, getElem!_pos d' j hj] at this
      rw [Array.getElem_toList, Array.getElem_toList]
      exact this
end Go.Proofs.Ytcbphfpfdfgehaa
