/-
  How often each item stands anywhere. No walk, no conditions.
-/
import Derived.Test.YtpfoleaampcibaaSays2
import Derived.Test.YtpfoleaampcibaaHeap
namespace Go.Proofs.Ytpfoleaampcibaa
open Go.RowKit

/-- The first q queues, one behind the other. -/
def cat (L : Nat → List Nat) : Nat → List Nat
  | 0 => []
  | q + 1 => cat L q ++ L q
theorem cat_succ (L : Nat → List Nat) (q : Nat) : cat L (q + 1) = cat L q ++ L q := rfl
theorem mem_cat {L : Nat → List Nat} {q x : Nat} : x ∈ cat L q ↔ ∃ p, p < q ∧ x ∈ L p := by
  induction q with
  | zero => simp [cat]
  | succ q ih =>
    rw [cat_succ, List.mem_append, ih]
    constructor
    · rintro (⟨p, h1, h2⟩ | h)
      · exact ⟨p, by omega, h2⟩
      · exact ⟨q, by omega, h⟩
    · rintro ⟨p, h1, h2⟩
      by_cases e : p = q
      · subst e; exact .inr h2
      · exact .inl ⟨p, by omega, h2⟩

structure Apart (n k : Nat) (L : Nat → List Nat) : Prop where
  nodup : ∀ q, q < k → (L q).Nodup
  once : ∀ q q' x, q < k → q' < k → x ∈ L q → x ∈ L q' → q = q'
  lt : ∀ q x, q < k → x ∈ L q → x < n

theorem Rep.apart' {r : Raw} {L : Nat → List Nat} (h : Rep r L) : Apart r.items r.queues L :=
  ⟨h.nodup, fun _ _ _ h1 h2 h3 h4 => h.apart h1 h2 h3 h4, fun q x h1 h2 => (h.inn q h1 x h2).1⟩
theorem ListsAt.apart {w : World} {a : Nat} {F : Nat → Prop} {n k : Nat} {L : Nat → List Nat} (h : ListsAt w a F n k L) : Apart n k L := by
  obtain ⟨p, c, r, hm, hr, rfl, rfl, rfl⟩ := h
  exact hr.apart'

theorem Apart.cat_nodup {n k : Nat} {L : Nat → List Nat} (h : Apart n k L) : ∀ q, q ≤ k → (cat L q).Nodup
  | 0, _ => by simp [cat]
  | q + 1, hq => by
    rw [cat_succ, List.nodup_append]
    refine ⟨h.cat_nodup q (by omega), h.nodup q (by omega), fun a ha b hb e => ?_⟩
    subst e
    obtain ⟨p, h1, h2⟩ := mem_cat.1 ha
    have := h.once p q a (by omega) (by omega) h2 hb
    omega
theorem Apart.where_in {n k : Nat} {L : Nat → List Nat} (h : Apart n k L) {q x : Nat} (hq : q < k) (hx : x ∈ L q) : whereAt n k L x = q := by
  unfold whereAt
  have hn := h.lt q x hq hx
  rw [if_pos ⟨by omega, by omega⟩, Int.toNat_natCast]
  exact where_is hq hx (fun q' h1 h2 => h.once q' q x h1 hq h2 hx)
theorem Apart.len {n k : Nat} {L : Nat → List Nat} (h : Apart n k L) {q : Nat} (hq : q ≤ k) : (cat L q).length ≤ n :=
  nodup_len _ _ (h.cat_nodup q hq) (fun x hx => by obtain ⟨p, h1, h2⟩ := mem_cat.1 hx; exact h.lt p x (by omega) h2)
/-- An item stands once where it is told to be in a queue; else nowhere. -/
theorem Apart.count {n k : Nat} {L : Nat → List Nat} (h : Apart n k L) {x : Nat} (hx : x < n) :
    ((cat L k).count x = 1 ∧ 0 ≤ whereAt n k L x) ∨ ((cat L k).count x = 0 ∧ whereAt n k L x = -1) := by
  by_cases hm : x ∈ cat L k
  · left
    have h1 : (cat L k).count x ≤ 1 := List.nodup_iff_count.1 (h.cat_nodup k (Nat.le_refl _)) x
    have h2 : 0 < (cat L k).count x := List.count_pos_iff.2 hm
    obtain ⟨p, h3, h4⟩ := mem_cat.1 hm
    rw [h.where_in h3 h4]
    exact ⟨by omega, by omega⟩
  · right
    refine ⟨List.count_eq_zero.2 hm, ?_⟩
    unfold whereAt
    rw [if_pos ⟨by omega, by omega⟩, Int.toNat_natCast]
    exact where_not (fun q' h1 h2 => hm (mem_cat.2 ⟨q', h1, h2⟩))

/-- The last m of twelve numbers, added up. -/
def rest12 (f : Nat → Nat) : Nat → Nat
  | 0 => 0
  | m + 1 => f (12 - (m + 1)) + rest12 f m
theorem rest12_step (f : Nat → Nat) (j : Nat) (h : j < 12) : rest12 f (12 - j) = f j + rest12 f (12 - (j + 1)) := by
  obtain ⟨m, hm⟩ : ∃ m, 12 - j = m + 1 := ⟨12 - j - 1, by omega⟩
  have e : 12 - (j + 1) = m := by omega
  have e2 : 12 - (m + 1) = j := by omega
  rw [hm, e]
  show f (12 - (m + 1)) + rest12 f m = _
  rw [e2]
theorem rest12_add (f : Nat → Nat) (x : Nat) (hx : x < 12) : ∀ m, m ≤ 12 → rest12 (fun i => f i + if x = i then 1 else 0) m = rest12 f m + if 12 - m ≤ x then 1 else 0
  | 0, _ => by
    rw [if_neg (by omega)]; rfl
  | m + 1, hm => by
    have ih := rest12_add f x hx m (by omega)
    show f (12 - (m + 1)) + (if x = 12 - (m + 1) then 1 else 0) + rest12 (fun i => f i + if x = i then 1 else 0) m = f (12 - (m + 1)) + rest12 f m + if 12 - (m + 1) ≤ x then 1 else 0
    rw [ih]
    by_cases h1 : x = 12 - (m + 1)
    · rw [if_pos h1, if_neg (by omega), if_pos (by omega)]; omega
    · rw [if_neg h1]
      by_cases h2 : 12 - m ≤ x
      · rw [if_pos h2, if_pos (by omega)]; omega
      · rw [if_neg h2, if_neg (by omega)]; omega
theorem rest12_zero : ∀ m, rest12 (fun _ => 0) m = 0
  | 0 => rfl
  | m + 1 => by show 0 + rest12 (fun _ => 0) m = 0; rw [rest12_zero m]
theorem rest12_le (f : Nat → Nat) (h : ∀ i, i < 12 → f i ≤ 1) : ∀ m, m ≤ 12 → rest12 f m ≤ m
  | 0, _ => Nat.le_refl _
  | m + 1, hm => by
    have h1 := rest12_le f h m (by omega)
    have h2 := h (12 - (m + 1)) (by omega)
    show f (12 - (m + 1)) + rest12 f m ≤ m + 1
    omega
theorem rest12_all : ∀ (D : List Nat), (∀ x ∈ D, x < 12) → rest12 (fun i => D.count i) 12 = D.length := by
  intro D
  induction D with
  | nil => intro _; exact rest12_zero 12
  | cons x D ih =>
    intro h
    have hx := h x (by simp)
    have h1 := ih (fun y hy => h y (by simp [hy]))
    have e : (fun i => (x :: D).count i) = fun i => D.count i + if x = i then 1 else 0 := by
      funext i
      rw [List.count_cons]
      simp
    rw [e, rest12_add _ x hx 12 (Nat.le_refl _), h1, if_pos (by omega)]
    rfl

/-- The twelve counts in memory. -/
def Seen (w : World) (B : Nat) (D : List Nat) : Prop := ∃ cs : Array Value, w.heap[B]? = some (.cells cs 45 (0, 0)) ∧ cs.size = 12 ∧ ∀ i, i < 12 → cs[i]? = some (.int .i64 (D.count i : Nat))
theorem Seen.kept {w w' : World} {B : Nat} {D : List Nat} {G : Nat → Prop} (h : Seen w B D) (ht : Turn G w w') (hG : ¬ G B) : Seen w' B D := by
  obtain ⟨cs, h1, h2, h3⟩ := h
  exact ⟨cs, ht.heap h1 hG, h2, h3⟩
theorem Seen.cell {w : World} {B i : Nat} {D : List Nat} (h : Seen w B D) (hi : i < 12) : w.cell? ⟨B, i, none⟩ = some (.int .i64 (D.count i : Nat)) := by
  obtain ⟨cs, h1, h2, h3⟩ := h
  rw [cell_at h1]; exact h3 i hi
theorem Seen.free {w : World} {B : Nat} {D : List Nat} (h : Seen w B D) (i : Nat) : w.frozen? ⟨B, i, none⟩ = false := by
  obtain ⟨cs, h1, h2, h3⟩ := h
  exact free_at h1 i
theorem Seen.set {w : World} {B x : Nat} {D : List Nat} (h : Seen w B D) (hx : x < 12) : Seen (w.setCell ⟨B, x, none⟩ (.int .i64 ((D.count x : Nat) + 1 : Int))) B (D ++ [x]) := by
  obtain ⟨cs, h1, h2, h3⟩ := h
  refine ⟨_, set_at h1 _ _, by simpa using h2, fun i hi => ?_⟩
  rw [List.count_append]
  by_cases e : i = x
  · subst e
    rw [Array.getElem?_setIfInBounds_self_of_lt (by omega)]
    simp
  · rw [Array.getElem?_setIfInBounds_ne (fun h => e h.symm), h3 i hi]
    have : [x].count i = 0 := List.count_eq_zero.2 (by simpa using e)
    rw [this]; simp
theorem Seen.new (w : World) : Seen (w.alloc (.cells #[.int .i64 0, .int .i64 0, .int .i64 0, .int .i64 0, .int .i64 0, .int .i64 0, .int .i64 0, .int .i64 0, .int .i64 0, .int .i64 0, .int .i64 0, .int .i64 0] 45)) w.heap.size [] := by
  refine ⟨_, heap_alloc_new w _, rfl, fun i hi => ?_⟩
  rcases (show i = 0 ∨ i = 1 ∨ i = 2 ∨ i = 3 ∨ i = 4 ∨ i = 5 ∨ i = 6 ∨ i = 7 ∨ i = 8 ∨ i = 9 ∨ i = 10 ∨ i = 11 from by omega) with rfl | rfl | rfl | rfl | rfl | rfl | rfl | rfl | rfl | rfl | rfl | rfl
  all_goals rfl

/-- The lists, and the counts beside them. -/
structure Chk (w wr : World) (a : Nat) (F : Nat → Prop) (L : Nat → List Nat) (B : Nat) (D : List Nat) : Prop where
  lists : ListsAt wr a F 12 3 L
  turn : Turn NoBlock w wr
  low : ∀ k, F k → w.heap.size ≤ k
  base : w.heap.size ≤ B
  far : ∀ k, F k → k ≠ B
  seen : Seen wr B D
theorem Chk.past {w wr wr' : World} {a : Nat} {F : Nat → Prop} {L : Nat → List Nat} {B : Nat} {D : List Nat} (h : Chk w wr a F L B D) (ht : Turn NoBlock wr wr') : Chk w wr' a F L B D :=
  ⟨h.lists.past ht, h.turn.trans ht (fun _ h => .inl h), h.low, h.base, h.far, h.seen.kept ht (fun h => h)⟩
theorem Chk.set {w wr : World} {a : Nat} {F : Nat → Prop} {L : Nat → List Nat} {B : Nat} {D : List Nat} (h : Chk w wr a F L B D) {x : Nat} (hx : x < 12) :
    Chk w (wr.setCell ⟨B, x, none⟩ (.int .i64 ((D.count x : Nat) + 1 : Int))) a F L B (D ++ [x]) := by
  have ht : Turn (fun k => k = B) wr (wr.setCell ⟨B, x, none⟩ (.int .i64 ((D.count x : Nat) + 1 : Int))) := (Turn.refl (fun k => k = B) wr).setCell (p := ⟨B, x, none⟩) (.inl rfl) _
  exact ⟨(lists_own a F 12 3 L).kept _ _ _ h.lists ht (fun k hk e => h.far k hk e), h.turn.trans ht (fun k e => .inr (by rw [e]; exact h.base)), h.low, h.base, h.far, h.seen.set hx⟩

end Go.Proofs.Ytpfoleaampcibaa
