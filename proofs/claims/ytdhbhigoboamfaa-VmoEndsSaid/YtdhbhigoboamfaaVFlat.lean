/-
  What is read and written, byte by byte. No walk, no conditions.
-/
import Derived.Test.YtdhbhigoboamfaaVGood2
namespace Go.Proofs.Ytdhbhigoboamfaa
open Go.ChangeShapes Go.WideShapes Go.ChangeAt Go.RowKit

/-- The byte at a place. -/
def fl (L : List Pg) (g : Int → Option Int) (x : Nat) : UInt8 := (cont L (g ((x / 64 : Nat) : Int))).getD (x % 64) 0
def Full (L : List Pg) : Prop := ∀ f, (pgAt L f).bytes.length = 64
theorem Full.cont {L : List Pg} (h : Full L) (x : Option Int) : (cont L x).length = 64 := by
  cases x with
  | none => rfl
  | some f => exact h f
theorem cut_map (l : List UInt8) (i m : Nat) (h : i + m ≤ l.length) : (l.drop i).take m = (List.range m).map fun j => l.getD (i + j) 0 := by
  apply List.ext_getElem?
  intro j
  by_cases hj : j < m
  · rw [List.getElem?_take, if_pos hj, List.getElem?_drop, List.getElem?_map, List.getElem?_range hj, List.getElem?_eq_getElem (by omega)]
    simp [List.getD, List.getElem?_eq_getElem (show i + j < l.length by omega)]
  · rw [List.getElem?_eq_none (by rw [List.length_take]; omega), List.getElem?_eq_none (by simp; omega)]
theorem byteL_map {S : PL} (h : Full S.L) (p : Pt) (hp : p.at' + p.n ≤ 64) : byteL S p = (List.range p.n).map fun j => (cont S.L (S.g (p.pg : Int))).getD (p.at' + j) 0 := by
  cases hg : S.g (p.pg : Int) with
  | none =>
    rw [byte_none hg, cont_none]
    apply List.ext_getElem?
    intro j
    by_cases hj : j < p.n
    · rw [List.getElem?_replicate, if_pos hj, List.getElem?_map, List.getElem?_range hj]
      simp only [Option.map_some]
      unfold blank
      rw [List.getD_eq_getElem?_getD, List.getElem?_replicate, if_pos (by omega)]
      rfl
    · rw [List.getElem?_eq_none (by simp; omega), List.getElem?_eq_none (by simp; omega)]
  | some f =>
    rw [byte_some hg, cont_some]
    unfold readB
    rw [Int.toNat_natCast, Int.toNat_natCast]
    exact cut_map _ _ _ (by rw [h f]; exact hp)
theorem goP_flat {S : PL} (h : Full S.L) (k : Nat) : ∀ p i n, i < 64 → n ≤ k → (goP k p i n).flatMap (byteL S) = (List.range n).map fun j => fl S.L S.g (64 * p + i + j) := by
  induction k with
  | zero => intro p i n _ hn; (obtain rfl : n = 0 := by omega); rfl
  | succ k ih =>
    intro p i n hi hn
    rw [goP_succ]
    by_cases h0 : n = 0
    · subst h0; rfl
    · rw [if_neg h0, List.flatMap_cons, byteL_map h _ (by show i + min n (64 - i) ≤ 64; omega), ih (p + 1) 0 _ (by omega) (by omega)]
      generalize hm : min n (64 - i) = m
      have e : n = m + (n - m) := by omega
      conv => rhs; rw [e, List.range_add, List.map_append, List.map_map]
      congr 1
      · apply List.map_congr_left
        intro j hj
        have hj2 : j < m := List.mem_range.1 hj
        unfold fl
        rw [show (64 * p + i + j) / 64 = p by omega, show (64 * p + i + j) % 64 = i + j by omega]
      · apply List.map_congr_left
        intro j hj
        have := List.mem_range.1 hj
        show fl S.L S.g (64 * (p + 1) + 0 + j) = fl S.L S.g (64 * p + i + (m + j))
        rw [show 64 * (p + 1) + 0 + j = 64 * p + i + (m + j) by omega]
theorem read_flat {S : PL} (h : Full S.L) (t n : Nat) : readAll S t n = (List.range n).map fun j => fl S.L S.g (t + j) := by
  unfold readAll partsL
  rw [goP_flat h n _ _ _ (Nat.mod_lt _ (by decide)) (Nat.le_refl _)]
  apply List.map_congr_left
  intro j _
  rw [show 64 * (t / 64) + t % 64 = t by omega]

theorem putB_at (l bs : List UInt8) (o r : Nat) (h : o + bs.length ≤ l.length) : (putB l o bs).getD r 0 = if o ≤ r ∧ r < o + bs.length then bs.getD (r - o) 0 else l.getD r 0 := by
  unfold putB
  simp only [List.getD_eq_getElem?_getD]
  by_cases h1 : r < o
  · rw [if_neg (by omega), List.getElem?_append_left (by rw [List.length_take]; omega), List.getElem?_take, if_pos h1]
  · rw [List.getElem?_append_right (by rw [List.length_take]; omega), List.length_take, Nat.min_eq_left (by omega)]
    by_cases h2 : r < o + bs.length
    · rw [if_pos (by omega), List.getElem?_append_left (by omega)]
    · rw [if_neg (by omega), List.getElem?_append_right (by omega), List.getElem?_drop, show o + bs.length + (r - o - bs.length) = r by omega]
/-- What writing does. -/
structure Wrote (i0 : Int) (g : Int → Option Int) (A : Key → Option Int) (L L' : List Pg) (a : Nat) (bs : List UInt8) : Prop where
  users : ∀ f, usersL L' f = usersL L f
  full : Full L'
  flat : ∀ x, fl L' g x = if a ≤ x ∧ x < a + bs.length then bs.getD (x - a) 0 else fl L g x
  other : ∀ k f, A k = some f → k.1 ≠ i0 → (pgAt L' f).bytes = (pgAt L f).bytes
  len : L'.length = L.length
theorem write_len (L : List Pg) (f b : Int) (bs : List UInt8) : (writeL L f b bs).length = L.length := by unfold writeL; split <;> simp
theorem wrote_one {i0 : Int} {g : Int → Option Int} {A : Key → Option Int} {L : List Pg} (hG : Good L A) (hg : ∀ q, g q = A (i0, q)) (hF : Full L) {p i m : Nat} {f : Int} (hf : g (p : Int) = some f) (hu : usersL L f = 1) (bs : List UInt8) (hm : bs.length = m) (him : i + m ≤ 64) :
    Wrote i0 g A L (writeL L f i bs) (64 * p + i) bs := by
  have hb := write_bytes (b := i) (bs := bs) hu (by omega)
  have hk : A (i0, (p : Int)) = some f := by rw [← hg, hf]
  refine ⟨write_users f i bs, fun q => ?_, fun x => ?_, fun k f2 hk2 hne => ?_, write_len _ _ _ _⟩
  · rw [hb]
    split
    · rw [putB_len (by rw [hF f]; omega), hF f]
    · exact hF q
  · unfold fl
    cases hx : g ((x / 64 : Nat) : Int) with
    | none =>
      have hxp : x / 64 ≠ p := fun e => by rw [e, hf] at hx; cases hx
      rw [if_neg (by omega)]
      rfl
    | some f2 =>
      rw [cont_some, cont_some, hb]
      by_cases e : f2 = f
      · rw [if_pos e]
        subst e
        have : (i0, ((x / 64 : Nat) : Int)) = (i0, (p : Int)) := hG.alone hk hu (by rw [← hg, hx])
        have hxp : x / 64 = p := by injection this; omega
        rw [putB_at _ _ _ _ (by rw [hF f2]; omega)]
        by_cases h2 : i ≤ x % 64 ∧ x % 64 < i + bs.length
        · rw [if_pos h2, if_pos (by omega), show x - (64 * p + i) = x % 64 - i by omega]
        · rw [if_neg h2, if_neg (by omega)]
      · rw [if_neg e]
        have hxp : x / 64 ≠ p := fun e2 => by rw [e2, hf] at hx; cases hx; exact e rfl
        rw [if_neg (by omega)]
  · rw [hb, if_neg]
    intro e
    have := hG.alone hk hu (by rw [hk2, e])
    rw [this] at hne
    exact hne rfl
theorem wrote_goP {i0 : Int} {S : PL} {A : Key → Option Int} (hg : ∀ q, S.g q = A (i0, q)) (k : Nat) : ∀ p i n L bs, i < 64 → n ≤ k → bs.length = n → Good L A → Full L → (∀ x ∈ goP k p i n, ∃ f, S.g (x.pg : Int) = some f ∧ usersL L f = 1) →
    Wrote i0 S.g A L ((goP k p i n).foldl (wstep S) (L, bs)).1 (64 * p + i) bs := by
  induction k with
  | zero =>
    intro p i n L bs hi hn hb hG hF hx
    obtain rfl : n = 0 := by omega
    have : bs = [] := List.eq_nil_of_length_eq_zero hb
    subst this
    refine ⟨fun _ => rfl, hF, fun x => ?_, fun _ _ _ _ => rfl, rfl⟩
    show fl L S.g x = _
    rw [if_neg (by simp only [List.length_nil]; omega)]
  | succ k ih =>
    intro p i n L bs hi hn hb hG hF hx
    rw [goP_succ] at hx ⊢
    by_cases h0 : n = 0
    · subst h0
      have : bs = [] := List.eq_nil_of_length_eq_zero hb
      subst this
      refine ⟨fun _ => rfl, hF, fun x => ?_, fun _ _ _ _ => rfl, rfl⟩
      show fl L S.g x = _
      rw [if_neg (by simp only [List.length_nil]; omega)]
    · rw [if_neg h0] at hx ⊢
      generalize hm : min n (64 - i) = m at hx ⊢
      obtain ⟨f, hf, hu⟩ := hx _ List.mem_cons_self
      simp only at hf
      have hfr : frameOf S ⟨p, i, m⟩ = f := by unfold frameOf; rw [hf]; rfl
      have w1 := wrote_one hG hg hF hf hu (bs.take m) (by rw [List.length_take]; omega) (show i + m ≤ 64 by omega)
      rw [List.foldl_cons]
      have e1 : wstep S (L, bs) ⟨p, i, m⟩ = (writeL L f i (bs.take m), bs.drop m) := by unfold wstep; rw [hfr]
      rw [e1]
      have w2 := ih (p + 1) 0 (n - m) (writeL L f i (bs.take m)) (bs.drop m) (by decide) (by omega) (by rw [List.length_drop]; omega) (hG.same w1.users) w1.full (fun x hxm => by
        obtain ⟨f2, a1, a2⟩ := hx x (List.mem_cons_of_mem _ hxm)
        exact ⟨f2, a1, by rw [w1.users]; exact a2⟩)
      refine ⟨fun q => (w2.users q).trans (w1.users q), w2.full, fun x => ?_, fun k f2 hk hne => (w2.other k f2 hk hne).trans (w1.other k f2 hk hne), w2.len.trans w1.len⟩
      rw [w2.flat, w1.flat]
      rw [List.length_drop, List.length_take]
      by_cases c1 : 64 * (p + 1) + 0 ≤ x ∧ x < 64 * (p + 1) + 0 + (bs.length - m)
      · rw [if_pos c1, if_pos (by omega)]
        simp only [List.getD_eq_getElem?_getD, List.getElem?_drop]
        rw [show m + (x - (64 * (p + 1) + 0)) = x - (64 * p + i) by omega]
      · rw [if_neg c1]
        by_cases c2 : 64 * p + i ≤ x ∧ x < 64 * p + i + min m bs.length
        · rw [if_pos c2, if_pos (by omega)]
          simp only [List.getD_eq_getElem?_getD, List.getElem?_take]
          rw [if_pos (by omega)]
        · rw [if_neg c2, if_neg (by omega)]
theorem wrote_all {i0 : Int} {S : PL} {A : Key → Option Int} (hg : ∀ q, S.g q = A (i0, q)) (t : Nat) (bs : List UInt8) (hG : Good S.L A) (hF : Full S.L) (hx : ∀ x ∈ partsL t bs.length, ∃ f, S.g (x.pg : Int) = some f ∧ usersL S.L f = 1) :
    Wrote i0 S.g A S.L (wAll S bs (partsL t bs.length)).1 t bs := by
  have := wrote_goP hg bs.length (t / 64) (t % 64) bs.length S.L bs (Nat.mod_lt _ (by decide)) (Nat.le_refl _) rfl hG hF hx
  rw [show 64 * (t / 64) + t % 64 = t by omega] at this
  exact this
theorem goP_pages (k : Nat) : ∀ p i n, (∀ x ∈ goP k p i n, p ≤ x.pg) ∧ ((goP k p i n).map Pt.pg).Nodup := by
  induction k with
  | zero => intro p i n; simp [goP]
  | succ k ih =>
    intro p i n
    rw [goP_succ]
    split
    · simp
    · obtain ⟨h1, h2⟩ := ih (p + 1) 0 (n - min n (64 - i))
      refine ⟨fun x hx => ?_, ?_⟩
      · rcases List.mem_cons.1 hx with rfl | hx
        · exact Nat.le_refl _
        · have := h1 x hx; omega
      · rw [List.map_cons, List.nodup_cons]
        refine ⟨fun hm => ?_, h2⟩
        obtain ⟨x, hx, e⟩ := List.mem_map.1 hm
        have := h1 x hx
        simp only at e
        omega
theorem parts_nodup (t n : Nat) : ((partsL t n).map Pt.pg).Nodup := (goP_pages n _ _ n).2
end Go.Proofs.Ytdhbhigoboamfaa
