/-
  Entries of a heap as plain data: their order as one number, places of keys, exchanges, an entry more, one less. No run of the program in this text.
-/
import Derived.Test.YtcbphfpfdfgehaaTHp
import Derived.Test.YtcbphfpfdfgehaaTMap
namespace Go.Proofs.Ytcbphfpfdfgehaa

/-- An entry: a key and its deadline. -/
structure En where
  k : Int
  d : Int
def En.zero : En := ⟨0, 0⟩
instance : Inhabited En := ⟨En.zero⟩
def fitE (e : En) : Prop := fit e.k ∧ fit e.d
/-- An entry as one number: by deadlines, then by keys. -/
def cd (e : En) : Nat := (e.d + 9223372036854775808).toNat * 18446744073709551616 + (e.k + 9223372036854775808).toNat
def befE (a b : En) : Prop := a.d < b.d ∨ a.d = b.d ∧ a.k < b.k
theorem cd_lt {a b : En} (ha : fitE a) (hb : fitE b) : cd a < cd b ↔ befE a b := by
  obtain ⟨⟨h1, h2⟩, h3, h4⟩ := ha
  obtain ⟨⟨h5, h6⟩, h7, h8⟩ := hb
  unfold cd befE
  omega
theorem cd_inj {a b : En} (ha : fitE a) (hb : fitE b) (h : cd a = cd b) : a = b := by
  obtain ⟨⟨h1, h2⟩, h3, h4⟩ := ha
  obtain ⟨⟨h5, h6⟩, h7, h8⟩ := hb
  obtain ⟨a1, a2⟩ := a
  obtain ⟨b1, b2⟩ := b
  unfold cd at h
  simp only at *
  have e1 : a2 = b2 := by omega
  have e2 : a1 = b1 := by omega
  rw [e1, e2]
theorem cd_le {a b : En} (ha : fitE a) (hb : fitE b) : cd a ≤ cd b ↔ ¬ befE b a := by
  rw [← cd_lt hb ha]; omega
/-- What the order tells. -/
def cmpI (x y : Int) : Int := if x < y then -1 else if y < x then 1 else 0
def ordI (a b : En) : Int := if cmpI a.d b.d = 0 then cmpI a.k b.k else cmpI a.d b.d
theorem ordI_lt (a b : En) : ordI a b < 0 ↔ befE a b := by
  unfold ordI cmpI befE
  split <;> split <;> (try split) <;> (try split) <;> omega
theorem ordI_neg {a b : En} (ha : fitE a) (hb : fitE b) : decide (ordI a b < 0) = decide (cd a < cd b) := by
  rw [decide_eq_decide, ordI_lt, cd_lt ha hb]

/-- The entry at a place. -/
def eAt (H : List En) (i : Nat) : En := H.getD i En.zero
theorem eAt_some {H : List En} {i : Nat} (h : i < H.length) : H[i]? = some (eAt H i) := by
  unfold eAt
  rw [List.getD_eq_getElem?_getD, List.getElem?_eq_getElem h]; rfl
theorem eAt_mem {H : List En} {i : Nat} (h : i < H.length) : eAt H i ∈ H := List.mem_of_getElem? (eAt_some h)
theorem mem_eAt {H : List En} {e : En} (h : e ∈ H) : ∃ i, i < H.length ∧ eAt H i = e := by
  obtain ⟨i, hi, he⟩ := List.getElem_of_mem h
  refine ⟨i, hi, ?_⟩
  unfold eAt
  rw [List.getD_eq_getElem?_getD, List.getElem?_eq_getElem hi, he]; rfl
def fH (H : List En) (i : Nat) : Nat := cd (eAt H i)

/-- Two places have changed. -/
def swE (H : List En) (i j : Nat) : List En := (H.set i (eAt H j)).set j (eAt H i)
theorem swE_len (H : List En) (i j : Nat) : (swE H i j).length = H.length := by simp [swE]
theorem swE_at (H : List En) {i j : Nat} (hi : i < H.length) (hj : j < H.length) (k : Nat) : eAt (swE H i j) k = if k = j then eAt H i else if k = i then eAt H j else eAt H k := by
  unfold swE
  conv => lhs; unfold eAt
  simp only [List.getD_eq_getElem?_getD, List.getElem?_set, List.length_set]
  by_cases h1 : k = j
  · subst h1; simp [hj]; rfl
  · have h1' : ¬ j = k := fun e => h1 e.symm
    by_cases h2 : k = i
    · subst h2; simp [h1, h1', hi]; rfl
    · have h2' : ¬ i = k := fun e => h2 e.symm
      simp [h1, h1', h2, h2', eAt]
theorem swE_f (H : List En) {i j : Nat} (hi : i < H.length) (hj : j < H.length) : fH (swE H i j) = sw (fH H) i j := by
  funext k
  unfold fH sw
  rw [swE_at H hi hj k]
  by_cases h1 : k = j
  · rw [if_pos h1, if_pos h1]
  · rw [if_neg h1, if_neg h1]
    by_cases h2 : k = i
    · rw [if_pos h2, if_pos h2]
    · rw [if_neg h2, if_neg h2]
theorem swE_perm (H : List En) {i j : Nat} (hi : i < H.length) (hj : j < H.length) : (swE H i j).Perm H := by
  have h := List.set_set_perm hi hj
  have e1 : eAt H j = H[j] := by simp [eAt, List.getD, hj]
  have e2 : eAt H i = H[i] := by simp [eAt, List.getD, hi]
  unfold swE
  rw [e1, e2]
  exact h

/-- The map tells each key's place. -/
structure PosOK (H : List En) (P : Int → Option Int) : Prop where
  all : ∀ i, i < H.length → P (eAt H i).k = some (i : Int)
  only : ∀ k z, P k = some z → ∃ i : Nat, z = (i : Int) ∧ i < H.length ∧ (eAt H i).k = k
theorem PosOK.inj {H : List En} {P : Int → Option Int} (h : PosOK H P) {i j : Nat} (hi : i < H.length) (hj : j < H.length) (e : (eAt H i).k = (eAt H j).k) : i = j := by
  have h1 := h.all i hi
  rw [e, h.all j hj] at h1
  simp at h1
  omega
theorem PosOK.none {H : List En} {P : Int → Option Int} (h : PosOK H P) {k : Int} (hk : P k = Option.none) : ∀ e ∈ H, e.k ≠ k := by
  intro e he hke
  obtain ⟨i, hi, rfl⟩ := mem_eAt he
  have := h.all i hi
  rw [hke, hk] at this
  cases this
theorem posOK_nil : PosOK [] (fun _ => Option.none) := ⟨fun i hi => by simp at hi, fun k z h => by cases h⟩
theorem PosOK.sw {H : List En} {P : Int → Option Int} (h : PosOK H P) {i j : Nat} (hi : i < H.length) (hj : j < H.length) :
    PosOK (swE H i j) (updI (updI P (eAt (swE H i j) i).k (some (i : Int))) (eAt (swE H i j) j).k (some (j : Int))) := by
  have e1 : eAt (swE H i j) j = eAt H i := by rw [swE_at H hi hj]; simp
  have e0 : eAt (swE H i j) i = eAt H j := by
    rw [swE_at H hi hj]
    by_cases hij : i = j
    · subst hij; simp
    · simp [hij]
  rw [e0, e1]
  constructor
  · intro n hn
    rw [swE_len] at hn
    rw [swE_at H hi hj n]
    unfold updI
    by_cases h1 : n = j
    · subst h1; simp
    · by_cases h2 : n = i
      · subst h2
        rw [if_neg h1, if_pos rfl, if_neg (fun e => h1 (h.inj hj hi e).symm), if_pos rfl]
      · rw [if_neg h1, if_neg h2, if_neg (fun e => h2 (h.inj hn hi e)), if_neg (fun e => h1 (h.inj hn hj e))]
        exact h.all n hn
  · intro k z hz
    unfold updI at hz
    by_cases h1 : k = (eAt H i).k
    · rw [if_pos h1] at hz
      simp only [Option.some.injEq] at hz
      exact ⟨j, hz.symm, by rw [swE_len]; exact hj, by rw [e1, h1]⟩
    · rw [if_neg h1] at hz
      by_cases h2 : k = (eAt H j).k
      · rw [if_pos h2] at hz
        simp only [Option.some.injEq] at hz
        exact ⟨i, hz.symm, by rw [swE_len]; exact hi, by rw [e0, h2]⟩
      · rw [if_neg h2] at hz
        obtain ⟨n, rfl, hn, hk⟩ := h.only k z hz
        refine ⟨n, rfl, by rw [swE_len]; exact hn, ?_⟩
        rw [swE_at H hi hj n]
        have a1 : n ≠ j := fun e => h2 (by rw [← hk, e])
        have a2 : n ≠ i := fun e => h1 (by rw [← hk, e])
        rw [if_neg a1, if_neg a2]
        exact hk
theorem eAt_take {H : List En} {n i : Nat} (h : i < n) : eAt (H.take n) i = eAt H i := by
  unfold eAt
  rw [List.getD_eq_getElem?_getD, List.getD_eq_getElem?_getD, List.getElem?_take, if_pos h]
theorem eAt_push {H : List En} {e : En} {i : Nat} (h : i < H.length) : eAt (H ++ [e]) i = eAt H i := by
  unfold eAt
  rw [List.getD_eq_getElem?_getD, List.getD_eq_getElem?_getD, List.getElem?_append_left h]
theorem eAt_last (H : List En) (e : En) : eAt (H ++ [e]) H.length = e := by
  unfold eAt
  rw [List.getD_eq_getElem?_getD, List.getElem?_append_right (Nat.le_refl _)]
  simp
/-- The last one is taken away. -/
theorem PosOK.pop {H : List En} {P : Int → Option Int} (h : PosOK H P) {n : Nat} (hn : H.length = n + 1) : PosOK (H.take n) (updI P (eAt H n).k Option.none) := by
  have hl : (H.take n).length = n := by rw [List.length_take]; omega
  constructor
  · intro i hi
    rw [hl] at hi
    rw [eAt_take hi]
    unfold updI
    rw [if_neg (fun e => by have := h.inj (show i < H.length by omega) (show n < H.length by omega) e; omega)]
    exact h.all i (by omega)
  · intro k z hz
    unfold updI at hz
    by_cases h1 : k = (eAt H n).k
    · rw [if_pos h1] at hz; cases hz
    · rw [if_neg h1] at hz
      obtain ⟨i, rfl, hi, hk⟩ := h.only k z hz
      have : i ≠ n := fun e => h1 (by rw [← hk, e])
      refine ⟨i, rfl, by rw [hl]; omega, ?_⟩
      rw [eAt_take (by omega)]
      exact hk
/-- One more at the end. -/
theorem PosOK.push {H : List En} {P : Int → Option Int} (h : PosOK H P) {e : En} (he : P e.k = Option.none) : PosOK (H ++ [e]) (updI P e.k (some (H.length : Int))) := by
  have hno := h.none he
  constructor
  · intro i hi
    rw [List.length_append, List.length_singleton] at hi
    unfold updI
    rcases Nat.lt_or_ge i H.length with h1 | h1
    · rw [eAt_push h1, if_neg (hno _ (eAt_mem h1))]
      exact h.all i h1
    · obtain rfl : i = H.length := by omega
      rw [eAt_last, if_pos rfl]
  · intro k z hz
    unfold updI at hz
    by_cases h1 : k = e.k
    · rw [if_pos h1] at hz
      simp only [Option.some.injEq] at hz
      exact ⟨H.length, hz.symm, by simp, by rw [eAt_last, h1]⟩
    · rw [if_neg h1] at hz
      obtain ⟨i, rfl, hi, hk⟩ := h.only k z hz
      exact ⟨i, rfl, by simp; omega, by rw [eAt_push hi]; exact hk⟩
/-- One deadline is another one. -/
def reD (H : List En) (i : Nat) (d : Int) : List En := H.set i ⟨(eAt H i).k, d⟩
theorem reD_len (H : List En) (i : Nat) (d : Int) : (reD H i d).length = H.length := by simp [reD]
theorem reD_at (H : List En) {i : Nat} (hi : i < H.length) (d : Int) (k : Nat) : eAt (reD H i d) k = if k = i then ⟨(eAt H i).k, d⟩ else eAt H k := by
  unfold reD
  conv => lhs; unfold eAt
  simp only [List.getD_eq_getElem?_getD, List.getElem?_set]
  by_cases h1 : k = i
  · subst h1; simp [hi, eAt]
  · have h1' : ¬ i = k := fun e => h1 e.symm
    simp [h1, h1', eAt]
theorem reD_key (H : List En) {i : Nat} (hi : i < H.length) (d : Int) (k : Nat) : (eAt (reD H i d) k).k = (eAt H k).k := by
  rw [reD_at H hi]
  by_cases h : k = i
  · rw [if_pos h, h]
  · rw [if_neg h]
theorem PosOK.reD {H : List En} {P : Int → Option Int} (h : PosOK H P) {i : Nat} (hi : i < H.length) (d : Int) : PosOK (reD H i d) P := by
  constructor
  · intro n hn
    rw [reD_len] at hn
    rw [reD_key H hi]
    exact h.all n hn
  · intro k z hz
    obtain ⟨n, rfl, hn, hk⟩ := h.only k z hz
    exact ⟨n, rfl, by rw [reD_len]; exact hn, by rw [reD_key H hi]; exact hk⟩

/-- All stand as they may, but for what stands at one place. -/
structure AnyInv (f : Nat → Nat) (n i : Nat) : Prop where
  rest : ∀ c, 0 < c → c < n → c ≠ i → (c - 1) / 2 ≠ i → f ((c - 1) / 2) ≤ f c
  over : ∀ c, 0 < c → c < n → (c - 1) / 2 = i → 0 < i → f ((i - 1) / 2) ≤ f c
theorem AnyInv.split {f : Nat → Nat} {n i : Nat} (h : AnyInv f n i) (hi : i < n) : UpInv f n i ∨ DownInv f n i := by
  by_cases h1 : 0 < i ∧ f i < f ((i - 1) / 2)
  · refine .inl ⟨fun c h0 hc hne => ?_, h.over⟩
    by_cases h2 : (c - 1) / 2 = i
    · have := h.over c h0 hc h2 h1.1
      rw [h2]; omega
    · exact h.rest c h0 hc hne h2
  · refine .inr ⟨fun c h0 hc hne => ?_, h.over⟩
    by_cases h2 : c = i
    · subst h2; omega
    · exact h.rest c h0 hc h2 hne
theorem anyInv_of_heap {f g : Nat → Nat} {n i : Nat} (h : HeapN f n) (hg : ∀ k, k ≠ i → k < n → g k = f k) (hi : i < n) : AnyInv g n i := by
  constructor
  · intro c h0 hc h1 h2
    rw [hg c h1 hc, hg _ h2 (by omega)]
    exact h c h0 hc
  · intro c h0 hc h1 h2
    rw [hg c (by omega) hc, hg _ (by omega) (by omega)]
    have a := h c h0 hc
    have b := h i h2 hi
    rw [h1] at a
    omega
theorem anyInv_push {f g : Nat → Nat} {n : Nat} (h : HeapN f n) (hg : ∀ k, k < n → g k = f k) : AnyInv g (n + 1) n := by
  constructor
  · intro c h0 hc h1 h2
    rw [hg c (by omega), hg _ (by omega)]
    exact h c h0 (by omega)
  · intro c h0 hc h1 h2
    omega
/-- Behind the exchange with the last, and without it. -/
theorem anyInv_pop {f g : Nat → Nat} {n i : Nat} (h : HeapN f (n + 1)) (hi : i < n) (hg : ∀ k, k < n → k ≠ i → g k = f k) : AnyInv g n i :=
  anyInv_of_heap (f := f) (fun c h0 hc => h c h0 (by omega)) (fun k h1 h2 => hg k h2 h1) hi
theorem down_last {f : Nat → Nat} {n i : Nat} (h : DownInv f n i) (hn : n ≤ 2 * i + 1) : HeapN f n := down_end h hn
end Go.Proofs.Ytcbphfpfdfgehaa
