/-
  The deadlines as a rising list: what each call makes of it. No run of the program in this text.
-/
import Derived.Test.YtcbphfpfdfgehaaTOrd
namespace Go.Proofs.Ytcbphfpfdfgehaa

def keysOf (L : List En) : List Int := L.map En.k
def Rise (L : List En) : Prop := L.Pairwise (fun a b => cd a < cd b)
def dropK (L : List En) (k : Int) : List En := L.filter (fun e => e.k != k)
def hasK (L : List En) (k : Int) : Bool := L.any (fun e => e.k == k)
def dlK (L : List En) (k : Int) : Int := ((L.find? (fun e => e.k == k)).map En.d).getD 0
def insE (e : En) : List En → List En
  | [] => [e]
  | a :: r => if cd e < cd a then e :: a :: r else a :: insE e r
def rest (L : List En) (now : Int) : List En := L.dropWhile (fun e => decide (e.d ≤ now))
def gone (L : List En) (now : Int) : List En := L.takeWhile (fun e => decide (e.d ≤ now))

/-- A list that timers can hold. -/
structure Right (L : List En) : Prop where
  rise : Rise L
  keys : (keysOf L).Nodup
  fits : ∀ e ∈ L, fitE e

theorem posOK_nodup {H : List En} {P : Int → Option Int} (h : PosOK H P) : (keysOf H).Nodup := by
  unfold keysOf List.Nodup
  rw [List.pairwise_iff_getElem]
  intro i j hi hj hij
  rw [List.length_map] at hi hj
  rw [List.getElem_map, List.getElem_map]
  intro e
  have e1 : ∀ n (hn : n < H.length), H[n] = eAt H n := fun n hn => by
    have := eAt_some hn
    rw [List.getElem?_eq_getElem hn] at this
    simpa using this
  rw [e1 i hi, e1 j hj] at e
  have := h.inj hi hj e
  omega
theorem perm_keys {H L : List En} (h : H.Perm L) : (keysOf H).Perm (keysOf L) := h.map _
theorem hasK_iff {L : List En} {k : Int} : hasK L k = true ↔ ∃ e ∈ L, e.k = k := by
  unfold hasK
  rw [List.any_eq_true]
  exact ⟨fun ⟨e, h1, h2⟩ => ⟨e, h1, by simpa using h2⟩, fun ⟨e, h1, h2⟩ => ⟨e, h1, by simpa using h2⟩⟩
theorem hasK_no {L : List En} {k : Int} : hasK L k = false ↔ ∀ e ∈ L, e.k ≠ k := by
  rw [← Bool.not_eq_true, hasK_iff]
  exact ⟨fun h e he hk => h ⟨e, he, hk⟩, fun h ⟨e, he, hk⟩ => h e he hk⟩
theorem dropK_no {L : List En} {k : Int} (h : hasK L k = false) : dropK L k = L := by
  unfold dropK
  rw [List.filter_eq_self]
  intro e he
  simpa using hasK_no.1 h e he
theorem keys_one {L : List En} (h : (keysOf L).Nodup) {a b : En} (ha : a ∈ L) (hb : b ∈ L) (e : a.k = b.k) : a = b := by
  induction L with
  | nil => cases ha
  | cons x r ih =>
    unfold keysOf at h
    rw [List.map_cons, List.nodup_cons] at h
    rcases List.mem_cons.1 ha with h1 | h1
    · rcases List.mem_cons.1 hb with h2 | h2
      · rw [h1, h2]
      · exact absurd (List.mem_map_of_mem (f := En.k) h2) (by rw [← e, h1]; exact h.1)
    · rcases List.mem_cons.1 hb with h2 | h2
      · exact absurd (List.mem_map_of_mem (f := En.k) h1) (by rw [e, h2]; exact h.1)
      · exact ih h.2 h1 h2
theorem dlK_of {L : List En} (h : (keysOf L).Nodup) {e : En} (he : e ∈ L) : dlK L e.k = e.d := by
  unfold dlK
  cases hf : L.find? (fun x => x.k == e.k) with
  | none =>
    have := List.find?_eq_none.1 hf e he
    simp at this
  | some x =>
    have h1 := List.mem_of_find?_eq_some hf
    have h2 := List.find?_some hf
    rw [keys_one h h1 he (by simpa using h2)]
    rfl
theorem dlK_no {L : List En} {k : Int} (h : hasK L k = false) : dlK L k = 0 := by
  unfold dlK
  cases hf : L.find? (fun x => x.k == k) with
  | none => rfl
  | some x =>
    have h1 := List.mem_of_find?_eq_some hf
    have h2 := List.find?_some hf
    exact absurd (by simpa using h2) (hasK_no.1 h x h1)
/-- Without one entry: without its key. -/
theorem erase_dropK {H L : List En} (h : H.Perm L) (hn : (keysOf H).Nodup) {i : Nat} (hi : i < H.length) : (H.eraseIdx i).Perm (dropK L (eAt H i).k) := by
  have h3 : H.Perm (eAt H i :: H.eraseIdx i) := by
    have e : eAt H i = H[i] := by
      have := eAt_some hi
      rw [List.getElem?_eq_getElem hi] at this
      simpa using this.symm
    rw [e, List.eraseIdx_eq_take_drop_succ]
    have h4 : H = H.take i ++ H[i] :: H.drop (i + 1) := by rw [← List.drop_eq_getElem_cons hi, List.take_append_drop]
    exact (by rw [← h4] : H.Perm (H.take i ++ H[i] :: H.drop (i + 1))).trans List.perm_middle
  have h4 := (perm_keys h3).nodup hn
  unfold keysOf at h4
  rw [List.map_cons, List.nodup_cons] at h4
  have h5 := (h.symm.trans h3).filter (fun e => e.k != (eAt H i).k)
  rw [List.filter_cons_of_neg (by simp)] at h5
  have h6 : (H.eraseIdx i).filter (fun e => e.k != (eAt H i).k) = H.eraseIdx i := List.filter_eq_self.2 (fun a ha => by
    have : a.k ≠ (eAt H i).k := fun e => h4.1 (by rw [← e]; exact List.mem_map_of_mem ha)
    simpa using this)
  rw [h6] at h5
  exact h5.symm
theorem insE_perm (e : En) (L : List En) : (insE e L).Perm (e :: L) := by
  induction L with
  | nil => exact List.Perm.refl _
  | cons a r ih =>
    unfold insE
    split
    · exact List.Perm.refl _
    · exact (ih.cons a).trans (List.Perm.swap e a r)
theorem insE_rise {e : En} {L : List En} (h : Rise L) (hne : ∀ a ∈ L, cd a ≠ cd e) : Rise (insE e L) := by
  induction L with
  | nil => exact List.pairwise_singleton _ _
  | cons a r ih =>
    unfold Rise at h ih ⊢
    rw [List.pairwise_cons] at h
    unfold insE
    split
    · rename_i hlt
      rw [List.pairwise_cons]
      refine ⟨fun b hb => ?_, List.pairwise_cons.2 h⟩
      rcases List.mem_cons.1 hb with rfl | hb
      · exact hlt
      · have := h.1 b hb; omega
    · rename_i hlt
      rw [List.pairwise_cons]
      refine ⟨fun b hb => ?_, ih h.2 (fun x hx => hne x (List.mem_cons_of_mem _ hx))⟩
      rcases List.mem_cons.1 ((insE_perm e r).mem_iff.1 hb) with rfl | hb
      · have := hne a List.mem_cons_self
        omega
      · exact h.1 b hb
theorem Right.drop {L : List En} (h : Right L) (k : Int) : Right (dropK L k) :=
  ⟨List.Pairwise.sublist List.filter_sublist h.rise, List.Nodup.sublist (List.Sublist.map _ List.filter_sublist) h.keys, fun e he => h.fits e (List.mem_filter.1 he).1⟩
theorem Right.ins {L : List En} (h : Right L) {e : En} (hk : hasK L e.k = false) (hf : fitE e) : Right (insE e L) := by
  have hp := insE_perm e L
  refine ⟨insE_rise h.rise (fun a ha hc => ?_), ?_, fun x hx => ?_⟩
  · exact hasK_no.1 hk a ha (by rw [cd_inj (h.fits a ha) hf hc])
  · refine (perm_keys hp).symm.nodup ?_
    unfold keysOf
    rw [List.map_cons, List.nodup_cons]
    refine ⟨fun hm => ?_, h.keys⟩
    obtain ⟨a, ha, he⟩ := List.mem_map.1 hm
    exact hasK_no.1 hk a ha he
  · rcases List.mem_cons.1 (hp.mem_iff.1 hx) with rfl | hx
    · exact hf
    · exact h.fits x hx
theorem hasK_drop (L : List En) (k : Int) : hasK (dropK L k) k = false := hasK_no.2 (fun e he => by simpa using (List.mem_filter.1 he).2)
theorem Right.nil : Right [] := ⟨List.Pairwise.nil, List.Pairwise.nil, fun e he => by cases he⟩
theorem Right.tail {a : En} {L : List En} (h : Right (a :: L)) : Right L := by
  have h2 := h.keys
  unfold keysOf at h2
  rw [List.map_cons, List.nodup_cons] at h2
  exact ⟨(List.pairwise_cons.1 h.rise).2, h2.2, fun e he => h.fits e (List.mem_cons_of_mem _ he)⟩
theorem drop_head {a : En} {L : List En} (h : Right (a :: L)) : dropK (a :: L) a.k = L := by
  have h2 := h.keys
  unfold keysOf at h2
  rw [List.map_cons, List.nodup_cons] at h2
  unfold dropK
  rw [List.filter_cons_of_neg (by simp), List.filter_eq_self]
  intro e he
  have : e.k ≠ a.k := fun hh => h2.1 (by rw [← hh]; exact List.mem_map_of_mem he)
  simpa using this
/-- The heap's first is the list's first. -/
theorem heap_head {H L : List En} (h : H.Perm L) (hR : Right L) (hh : HeapN (fH H) H.length) {a : En} {r : List En} (hL : L = a :: r) : eAt H 0 = a := by
  subst hL
  have hl : 0 < H.length := by rw [h.length_eq]; simp
  have h0 := h.mem_iff.1 (eAt_mem hl)
  obtain ⟨i, hi, he⟩ := mem_eAt (h.mem_iff.2 (List.mem_cons_self (a := a) (l := r)))
  have h1 := heap_min hh i hi
  unfold fH at h1
  rw [he] at h1
  have h2 : cd a ≤ cd (eAt H 0) := by
    rcases List.mem_cons.1 h0 with h3 | h3
    · rw [h3]; exact Nat.le_refl _
    · have := (List.pairwise_cons.1 hR.rise).1 _ h3
      omega
  exact cd_inj (hR.fits _ h0) (hR.fits _ List.mem_cons_self) (by omega)
theorem rise_eq {S L : List En} (h : S.Perm L) (hR : Right L) (hs : S.Pairwise (fun a b => cd a ≤ cd b)) : S = L := by
  refine List.Perm.eq_of_pairwise (le := fun a b => cd a ≤ cd b) (fun a b ha hb h1 h2 => cd_inj (hR.fits a (h.mem_iff.1 ha)) (hR.fits b hb) (by omega)) hs (List.Pairwise.imp (fun h => Nat.le_of_lt h) hR.rise) h
theorem gone_rest (L : List En) (now : Int) : gone L now ++ rest L now = L := List.takeWhile_append_dropWhile
theorem Right.rest {L : List En} (h : Right L) (now : Int) : Right (rest L now) := by
  have hs : List.Sublist (Proofs.Ytcbphfpfdfgehaa.rest L now) L := List.dropWhile_sublist _
  exact ⟨List.Pairwise.sublist hs h.rise, List.Nodup.sublist (List.Sublist.map _ hs) h.keys, fun e he => h.fits e (hs.mem he)⟩
end Go.Proofs.Ytcbphfpfdfgehaa
