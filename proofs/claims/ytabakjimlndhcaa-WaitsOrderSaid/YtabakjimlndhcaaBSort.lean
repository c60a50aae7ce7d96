/-
  slices.SortFunc at pointers to waits by their order: a row of the call's own is put in rising order. No conditions but that the waits lie in memory.
-/
import Derived.Test.YtabakjimlndhcaaBSortLay
import Derived.Test.YtabakjimlndhcaaBOrder
namespace Go.Proofs.Ytabakjimlndhcaa
open Go.ChangeShapes Go.WideShapes Go.ChangeAt Go.RowKit Go.Sort Go.Shelf

instance (a b : Wt) : Decidable (befW a b) := by unfold befW; exact inferInstance
def ptrs {G : List Gw} (D : List { g : Gw // g ∈ G }) : List Nat := D.map (fun y => y.1.x)
def encW {G : List Gw} (y : { g : Gw // g ∈ G }) : Value := .pointer (some ⟨y.1.x, 0, none⟩)
def cmpW {G : List Gw} (y z : { g : Gw // g ∈ G }) : Int := ordW y.1.a z.1.a
theorem ltW {G : List Gw} (p q : { g : Gw // g ∈ G }) : ltOf cmpW p q = decide (befW p.1.a q.1.a) := by
  unfold ltOf cmpW
  rw [decide_eq_decide]
  exact ordW_lt _ _
theorem swoW {G : List Gw} : SWO (ltOf (cmpW (G := G))) where
  irrefl x := by rw [ltW]; simp only [decide_eq_false_iff_not]; unfold befW; omega
  trans x y z h1 h2 := by rw [ltW] at *; simp only [decide_eq_true_eq] at *; unfold befW at *; omega
  ntrans x y z h1 h2 := by rw [ltW] at *; simp only [decide_eq_false_iff_not] at *; unfold befW at *; omega
theorem drow_put {G : List Gw} [Inhabited { g : Gw // g ∈ G }] {w : World} {g o n c m : Nat} {l l' : List { g : Gw // g ∈ G }} {os : Array Obj} (h : DRow (.slice (some ⟨g, o, none⟩) n c) (ptrs l) w) (hn : l.length = n) (hl : l'.length = n) :
    DRow (.slice (some ⟨g, o, none⟩) n c) (ptrs l') (sortWorld encW w g o m l'.toArray os) ∧ Turn (fun k => k = g) w (sortWorld encW w g o m l'.toArray os) := by
  unfold DRow at h ⊢
  have e1 : (ptrs l).length = n := by unfold ptrs; rw [List.length_map]; exact hn
  have e2 : (ptrs l').length = n := by unfold ptrs; rw [List.length_map]; exact hl
  rw [e1] at h
  rw [e2]
  have hW : sortWorld encW w g o m l'.toArray os = grow (mapBlock (Go.Sort.ahead w m) g (putCells encW o l'.toArray)) os := rfl
  rw [hW]
  rcases h.form with ⟨h1, _⟩ | ⟨g', o', c', h1, hnc, hcm, ⟨cur, hg⟩, hc, hs⟩
  · cases h1
  · simp only [Value.slice.injEq, Option.some.injEq, Addr.mk.injEq, true_and, and_true] at h1
    obtain ⟨⟨rfl, rfl⟩, rfl⟩ := h1
    have glt := lt_of_block hg
    have hsz : (mapBlock (Go.Sort.ahead w m) g (putCells encW o l'.toArray)).heap.size = w.heap.size := by simp [mapBlock, Go.Sort.ahead]
    have hblk : (grow (mapBlock (Go.Sort.ahead w m) g (putCells encW o l'.toArray)) os).heap[g]? = some (.cells (putCells encW o l'.toArray cur) 102 (0, 0)) := by
      unfold grow
      simp only
      rw [Array.getElem?_append_left (by rw [hsz]; exact glt)]
      unfold mapBlock
      simp only [Array.getElem?_modify]
      have hg2 : (Go.Sort.ahead w m).heap[g]? = some (.cells cur 102 (0, 0)) := hg
      rw [hg2]
      simp [onCells]
    have hps : (putCells encW o l'.toArray cur).size = cur.size := by simp [putCells]
    have hin : ∀ j, j < c * 1 → o + j < cur.size := fun j hj => by
      have := hs j hj
      rw [cell_at hg] at this
      rcases Nat.lt_or_ge (o + j) cur.size with h5 | h5
      · exact h5
      · rw [Array.getElem?_eq_none h5] at this; cases this
    refine ⟨⟨by rw [pcells_len, e2, Nat.mul_one], .inr ⟨g, o, c, rfl, hnc, hcm, ⟨_, hblk⟩, fun j hj => ?_, fun j hj => ?_⟩⟩, rfl, rfl, rfl, ?_, fun k hk hne => ?_⟩
    · rw [cell_at hblk]
      have h6 := hin j (by omega)
      have hjl : j < l'.length := by omega
      unfold putCells
      rw [Array.getElem?_mapIdx, Array.getElem?_eq_getElem h6]
      simp only [Option.map_some, List.size_toArray]
      rw [if_pos ⟨by omega, by omega⟩, show o + j - o = j by omega, getElem!_pos l'.toArray j (by simpa using hjl)]
      unfold pcells ptrs
      rw [List.map_map, List.getElem?_map, List.getElem?_eq_getElem hjl]
      simp [encW, ptr]
    · rw [cell_at hblk, Array.getElem?_eq_getElem (by rw [hps]; exact hin j hj)]
      rfl
    · unfold grow
      simp only [Array.size_append, hsz]
      omega
    · unfold grow
      simp only
      rw [Array.getElem?_append_left (by rw [hsz]; exact hk)]
      unfold mapBlock
      simp only [Array.getElem?_modify]
      rw [if_neg (fun e => hne e.symm)]
      rfl
theorem sort_due {G : List Gw} {w : World} {v : Value} (hob : ∀ g ∈ G, ObM w g) {D : List { g : Gw // g ∈ G }} (h : DRow v (ptrs D) w) (hm : D.length ≤ 1048576) :
    Calls Try.prog 59 #[v, .func (.func 60) #[] #[]] w fun e w' => e = .returned (.tuple #[]) ∧ ∃ D' : List { g : Gw // g ∈ G }, D'.Perm D ∧ D'.Pairwise (fun p q => ¬ befW q.1.a p.1.a) ∧ DRow v (ptrs D') w' ∧ Turn (Blk v) w w' := by
  have hpl : (ptrs D).length = D.length := by unfold ptrs; rw [List.length_map]
  rcases Nat.eq_zero_or_pos D.length with h0 | h0
  · obtain ⟨p, c, hv⟩ := WRow.sl h
    rw [hpl, h0] at hv
    subst hv
    obtain rfl : D = [] := List.eq_nil_of_length_eq_zero h0
    have hc := AnyF.slices_SortFunc_none (P := Try.prog) (ρ := laysSF_ren) { laysSF with } p c (.func (.func 60) #[] #[]) w
    change Calls Try.prog 59 _ _ _ at hc
    refine hc.mono ?_
    rintro e w' ⟨rfl, rfl⟩
    exact ⟨rfl, [], List.Perm.refl _, List.Pairwise.nil, h, Turn.refl _ _⟩
  · obtain ⟨g, o, c, rfl, hnc, hcm, hty, hcell, -⟩ := WRow.shape h (by rw [hpl]; exact h0)
    haveI : Inhabited { g : Gw // g ∈ G } := ⟨D[0]⟩
    have hlt : g < w.heap.size := hty.lt
    rw [hpl] at h hcell hnc ⊢
    have hH : Holds (encW (G := G)) w g o D.toArray := by
      intro j hj
      have hjl : j < D.length := by simpa using hj
      refine ⟨?_, hty.free _⟩
      rw [hcell j (by omega), getElem!_pos D.toArray j hj]
      unfold pcells ptrs
      rw [List.map_map, List.getElem?_map, List.getElem?_eq_getElem hjl]
      simp [encW, ptr]
    have eg : ∀ args w, (callFunc 60 args).run Try.prog w = .ok (.enter 60 args) w := enters_of Try.func60 (by kernel_rfl) rfl
    have hcmp : CmpLays1 Try.prog 60 #[] (encW (G := G)) (cmpW (G := G)) g o D.toArray.size w := by
      intro m os dk hdk x y
      have hput := drow_put (G := G) (l := D) (m := m) (os := os) (l' := dk.toList) h rfl (by rw [Array.length_toList, hdk]; simp)
      rw [show dk.toList.toArray = dk by simp] at hput
      have hx : ∀ z : { g : Gw // g ∈ G }, ObM w z.1 ∧ ¬ z.1.x = g := fun z => ⟨hob z.1 z.2, (hob z.1 z.2).xt.unlike hty (by decide)⟩
      exact order_any _ x.1.x y.1.x x.1.a y.1.a (hput.2.cell (hx x).1.x0 (hx x).2) (hput.2.cell (hx x).1.x1 (hx x).2) (hput.2.cell (hx y).1.x0 (hx y).2) (hput.2.cell (hx y).1.x1 (hx y).2)
    have hc := Any.slices_SortFunc laysSF (encW (G := G)) (fun _ => by rfl) cmpW swoW 60 #[] g o c D.toArray w eg hcmp hH hlt (by simp; omega)
    change Calls Try.prog 59 _ _ _ at hc
    simp only [List.size_toArray] at hc
    refine hc.mono ?_
    rintro e w' ⟨rfl, d', m, os, hp, hs, rfl⟩
    obtain ⟨hp1, hp2, hp3⟩ := hp
    have hlen : d'.toList.length = D.length := by rw [Array.length_toList, hp1]; simp
    have hput := drow_put (G := G) (l := D) (m := m) (os := os) (l' := d'.toList) h rfl hlen
    rw [show d'.toList.toArray = d' by simp] at hput
    refine ⟨rfl, d'.toList, ?_, ?_, hput.1, hput.2.mono (fun k hk => .inl (by subst hk; rfl))⟩
    · have e1 : (d'.extract 0 D.length).toList = d'.toList := by
        rw [Array.toList_extract]
        simp only [List.extract_eq_take_drop, List.drop_zero, Nat.sub_zero]
        rw [← hlen, List.take_length]
      have e2 : (D.toArray.extract 0 D.length).toList = D := by
        rw [Array.toList_extract]
        simp
      rw [e1, e2] at hp3
      exact hp3
    · rw [List.pairwise_iff_getElem]
      intro i j hi hj hij
      have := hs i j (Nat.zero_le _) hij (by rw [hlen] at hj; exact hj)
      rw [ltW] at this
      simp only [decide_eq_false_iff_not] at this
      rw [Array.length_toList] at hi hj
      rw [getElem!_pos d' i hi, getElem!_pos d' j hj] at this
      rw [Array.getElem_toList, Array.getElem_toList]
      exact this
end Go.Proofs.Ytabakjimlndhcaa
