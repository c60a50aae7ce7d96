/-
  A heap of numbers as plain lists: what one step up and one step down keep. No run of the program in this text.
-/
namespace Go.Proofs.Ytcbphfpfdfgehaa

/-- Two places changed. -/
def sw (f : Nat → Nat) (i j k : Nat) : Nat := if k = j then f i else if k = i then f j else f k
def HeapN (f : Nat → Nat) (n : Nat) : Prop := ∀ c, 0 < c → c < n → f ((c - 1) / 2) ≤ f c
structure UpInv (f : Nat → Nat) (n j : Nat) : Prop where
  rest : ∀ c, 0 < c → c < n → c ≠ j → f ((c - 1) / 2) ≤ f c
  over : ∀ c, 0 < c → c < n → (c - 1) / 2 = j → 0 < j → f ((j - 1) / 2) ≤ f c
structure DownInv (f : Nat → Nat) (n i : Nat) : Prop where
  rest : ∀ c, 0 < c → c < n → (c - 1) / 2 ≠ i → f ((c - 1) / 2) ≤ f c
  over : ∀ c, 0 < c → c < n → (c - 1) / 2 = i → 0 < i → f ((i - 1) / 2) ≤ f c

theorem sw_i (f : Nat → Nat) {i j : Nat} (h : i ≠ j) : sw f i j i = f j := by unfold sw; rw [if_neg h, if_pos rfl]
theorem sw_j (f : Nat → Nat) (i j : Nat) : sw f i j j = f i := by unfold sw; rw [if_pos rfl]
theorem sw_k (f : Nat → Nat) {i j k : Nat} (h : k ≠ i) (h' : k ≠ j) : sw f i j k = f k := by unfold sw; rw [if_neg h', if_neg h]

theorem up_end {f : Nat → Nat} {n j : Nat} (h : UpInv f n j) (he : j = 0 ∨ f ((j - 1) / 2) ≤ f j) : HeapN f n := by
  intro c h0 hc
  by_cases e : c = j
  · subst e
    rcases he with he | he
    · omega
    · exact he
  · exact h.rest c h0 hc e
theorem up_step {f : Nat → Nat} {n j p : Nat} (h : UpInv f n j) (hj : 0 < j) (hn : j < n) (hp : (j - 1) / 2 = p) (hl : f j < f p) : UpInv (sw f p j) n p := by
  have hpj : p ≠ j := by omega
  constructor
  · intro c h0 hc hcp
    by_cases e : c = j
    · subst e
      rw [hp, sw_i f hpj, sw_j]
      omega
    · rw [sw_k f (k := c) hcp e]
      by_cases q1 : (c - 1) / 2 = j
      · rw [q1, sw_j]
        have := h.over c h0 hc q1 hj
        rw [hp] at this
        exact this
      · by_cases q2 : (c - 1) / 2 = p
        · rw [q2, sw_i f hpj]
          have := h.rest c h0 hc e
          rw [q2] at this
          omega
        · rw [sw_k f q2 q1]
          exact h.rest c h0 hc e
  · intro c h0 hc hcp hp0
    rw [sw_k f (k := (p - 1) / 2) (by omega) (by omega)]
    have h1 := h.rest p hp0 (by omega) hpj
    by_cases e : c = j
    · subst e
      rw [sw_j]
      exact h1
    · rw [sw_k f (k := c) (by omega) e]
      have := h.rest c h0 hc e
      rw [hcp] at this
      omega
theorem down_end {f : Nat → Nat} {n i : Nat} (h : DownInv f n i) (he : n ≤ 2 * i + 1) : HeapN f n := by
  intro c h0 hc
  exact h.rest c h0 hc (by omega)
theorem down_stop {f : Nat → Nat} {n i j : Nat} (h : DownInv f n i) (hm : ∀ c, 0 < c → c < n → (c - 1) / 2 = i → f j ≤ f c) (hl : f i ≤ f j) : HeapN f n := by
  intro c h0 hc
  by_cases e : (c - 1) / 2 = i
  · have := hm c h0 hc e
    rw [e]
    omega
  · exact h.rest c h0 hc e
theorem down_step {f : Nat → Nat} {n i j : Nat} (h : DownInv f n i) (hj : j < n) (hp : (j - 1) / 2 = i) (hj0 : 0 < j) (hm : ∀ c, 0 < c → c < n → (c - 1) / 2 = i → f j ≤ f c) (hl : f j < f i) : DownInv (sw f i j) n j := by
  have hij : i ≠ j := by omega
  constructor
  · intro c h0 hc hcj
    by_cases q1 : (c - 1) / 2 = i
    · rw [q1, sw_i f hij]
      by_cases e : c = j
      · subst e; rw [sw_j]; omega
      · rw [sw_k f (k := c) (by omega) e]
        exact hm c h0 hc q1
    · rw [sw_k f q1 hcj]
      by_cases e : c = i
      · subst e
        rw [sw_i f hij]
        exact h.over j hj0 hj hp h0
      · have e2 : c ≠ j := by intro e; subst e; exact q1 hp
        rw [sw_k f (k := c) e e2]
        exact h.rest c h0 hc q1
  · intro c h0 hc hcj _
    rw [hp, sw_i f hij, sw_k f (k := c) (by omega) (by omega)]
    have := h.rest c h0 hc (by omega)
    rw [hcj] at this
    exact this

/-- The list with two places changed. -/
def swl (l : List Nat) (i j : Nat) : List Nat := (l.set i (l.getD j 0)).set j (l.getD i 0)
theorem swl_len (l : List Nat) (i j : Nat) : (swl l i j).length = l.length := by simp [swl]
theorem swl_at (l : List Nat) (i j k : Nat) (hi : i < l.length) (hj : j < l.length) : (swl l i j).getD k 0 = sw (fun k => l.getD k 0) i j k := by
  unfold swl sw
  simp only [List.getD_eq_getElem?_getD, List.getElem?_set, List.length_set]
  by_cases h1 : k = j
  · subst h1; simp [hj]
  · have h1' : ¬ j = k := fun e => h1 e.symm
    by_cases h2 : k = i
    · subst h2; simp [h1, h1', hi]
    · have h2' : ¬ i = k := fun e => h2 e.symm
      simp [h1, h1', h2, h2']
theorem swl_fun (l : List Nat) (i j : Nat) (hi : i < l.length) (hj : j < l.length) : (fun k => (swl l i j).getD k 0) = sw (fun k => l.getD k 0) i j := funext fun k => swl_at l i j k hi hj
theorem swl_perm (l : List Nat) (i j : Nat) (hi : i < l.length) (hj : j < l.length) : (swl l i j).Perm l := by
  have h := List.set_set_perm (as := l) hi hj
  have e1 : l.getD j 0 = l[j] := by simp [List.getD, hj]
  have e2 : l.getD i 0 = l[i] := by simp [List.getD, hi]
  unfold swl
  rw [e1, e2]
  exact h

/-- A list whose lowest number stands first. -/
def IsHeap (l : List Nat) : Prop := HeapN (fun k => l.getD k 0) l.length
theorem heap_min {f : Nat → Nat} {n : Nat} (h : HeapN f n) : ∀ c, c < n → f 0 ≤ f c := by
  intro c
  induction c using Nat.strongRecOn with
  | ind c ih =>
    intro hc
    by_cases h0 : c = 0
    · subst h0; exact Nat.le_refl _
    · have h1 := h c (by omega) hc
      have h2 := ih ((c - 1) / 2) (by omega) (by omega)
      omega
theorem isHeap_nil : IsHeap [] := fun c _ hc => by simp at hc
/-- Before a step up from the end. -/
theorem up_begin {l : List Nat} (h : IsHeap l) (x : Nat) : UpInv (fun k => (l ++ [x]).getD k 0) (l.length + 1) l.length := by
  have e : ∀ k, k < l.length → (l ++ [x]).getD k 0 = l.getD k 0 := fun k hk => by simp [List.getD, List.getElem?_append_left hk]
  constructor
  · intro c h0 hc hne
    show (l ++ [x]).getD _ 0 ≤ (l ++ [x]).getD _ 0
    rw [e c (by omega), e _ (by omega)]
    exact h c h0 (by omega)
  · intro c h0 hc h1 h2
    omega
/-- The first changed with the last: before a step down. -/
theorem down_begin {l : List Nat} (h : IsHeap l) (n : Nat) (hn : l.length = n + 1) : DownInv (fun k => (swl l 0 n).getD k 0) n 0 := by
  rw [swl_fun l 0 n (by omega) (by omega)]
  constructor
  · intro c h0 hc hne
    rw [sw_k _ (k := c) (by omega) (by omega), sw_k _ (by omega) (by omega)]
    exact h c h0 (by omega)
  · intro c h0 hc h1 h2
    omega
end Go.Proofs.Ytcbphfpfdfgehaa
