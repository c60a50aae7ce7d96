/-
  RegionBack's and RegionApart's plain data: what a put, a cut and putting back leave at each number. No conditions.
-/
import Derived.Test.YtdddmjdlikjedaaGKey
namespace Go.Proofs.Ytdddmjdlikjedaa
open Go.ChangeShapes Go.WideShapes Go.ChangeAt Go.RowKit

section
variable {l l' l1 li : List Pc} {y x n size : Int} {t u : Int × Int × Int} {k b j : Nat} {p q : Pc}
theorem vw_put : Vw (putL l k p) y t ↔ Vw l y t ∨ Vw [p] y t := by
  unfold Vw
  simp only [mem_put, List.mem_singleton]
  constructor
  · rintro ⟨q, h | h, h2⟩
    · exact .inl ⟨q, h, h2⟩
    · exact .inr ⟨q, h, h2⟩
  · rintro (⟨q, h, h2⟩ | ⟨q, h, h2⟩)
    · exact ⟨q, .inl h, h2⟩
    · exact ⟨q, .inr h, h2⟩
/-- What a region was cut to, and what was put back of it so far. -/
structure BackIs (l1 li : List Pc) (x n size : Int) (j : Nat) (l' : List Pc) : Prop where
  ok1 : GOK size li
  out : ∀ y t, Vw l1 y t → ¬ (x ≤ y ∧ y < x + n)
  ins : ∀ q ∈ li, x ≤ q.at' ∧ q.fin ≤ x + n ∧ q.from' ≤ 4294967296
  vw : ∀ y t, Vw l' y t ↔ Vw l1 y t ∨ Vw (li.take j) y t
theorem BackIs.zero (h1 : GOK size li) (h2 : ∀ y t, Vw l1 y t → ¬ (x ≤ y ∧ y < x + n)) (h3 : ∀ q ∈ li, x ≤ q.at' ∧ q.fin ≤ x + n ∧ q.from' ≤ 4294967296) : BackIs l1 li x n size 0 l1 :=
  ⟨h1, h2, h3, fun y t => by
    constructor
    · exact .inl
    · rintro (h | h)
      · exact h
      · rw [List.take_zero] at h; exact (vw_nil h).elim⟩
theorem BackIs.can (h : BackIs l1 li x n size j l') (ok' : GOK size l') (hp : li[j]? = some p) : isPut p ∧ p.fin ≤ size ∧ ∀ q ∈ l', ¬ Ov p.at' p.len q := by
  have hm := List.mem_of_getElem? hp
  have h1 := h.ok1.each p hm
  have h2 := h.ins p hm
  refine ⟨?_, h1.1.2.2.1, fun q hq ho => ?_⟩
  · unfold isPut isGrid isMul isProt
    omega
  · unfold Ov at ho
    have h5 := ok'.pos hq
    have e : Vw l' (max p.at' q.at') q.key := ⟨q, hq, by omega, by omega, rfl⟩
    rcases (h.vw _ _).1 e with e | ⟨r, hr, a1, a2, _⟩
    · have := h.out _ _ e
      unfold Pc.fin at *
      omega
    · obtain ⟨i, hi, hir⟩ := mem_take_at hr
      have := rise_at h.ok1.rise hi hir hp
      omega
theorem BackIs.step (h : BackIs l1 li x n size j l') (hp : li[j]? = some p) : BackIs l1 li x n size (j + 1) (putL l' k p) := by
  refine ⟨h.ok1, h.out, h.ins, fun y t => ?_⟩
  rw [vw_put, h.vw, List.take_add_one, hp, vw_app]
  constructor
  · rintro ((h | h) | h)
    · exact .inl h
    · exact .inr (.inl h)
    · exact .inr (.inr h)
  · rintro (h | h | h)
    · exact .inl (.inl h)
    · exact .inl (.inr h)
    · exact .inr h
/-- Behind all of them. -/
theorem BackIs.all (h : BackIs l1 li x n size li.length l') {l : List Pc} (h1 : ∀ y t, Vw l1 y t ↔ ¬ (x ≤ y ∧ y < x + n) ∧ Vw l y t) (h2 : ∀ y t, Vw li y t ↔ (x ≤ y ∧ y < x + n) ∧ Vw l y t) : ∀ y t, Vw l' y t ↔ Vw l y t := by
  intro y t
  rw [h.vw, List.take_length, h1, h2]
  constructor
  · rintro (⟨_, h⟩ | ⟨_, h⟩) <;> exact h
  · intro h
    by_cases e : x ≤ y ∧ y < x + n
    · exact .inr ⟨e, h⟩
    · exact .inl ⟨e, h⟩
theorem sum_same (ok : GOK size l) (ok' : GOK size l') (m : Nat) (hm : size ≤ 64 * (m : Int)) (h : ∀ y t, Vw l' y t ↔ Vw l y t) : sumP l' = sumP l := by
  rw [sum_cnt ok m hm, sum_cnt ok' m hm]
  refine cnt_same (fun i _ => ?_)
  have : mpAt l' i = true ↔ mpAt l i = true := by rw [mpAt_iff, mpAt_iff]; simp only [h]
  cases h1 : mpAt l' i <;> cases h2 : mpAt l i <;> simp_all
theorem sum_cut (ok : GOK size l) (ok1 : GOK size l1) (oki : GOK size li) (m : Nat) (hm : size ≤ 64 * (m : Int)) (h1 : ∀ y t, Vw l1 y t ↔ ¬ (x ≤ y ∧ y < x + n) ∧ Vw l y t) (h2 : ∀ y t, Vw li y t ↔ (x ≤ y ∧ y < x + n) ∧ Vw l y t) : sumP l = sumP l1 + sumP li := by
  rw [sum_cnt ok m hm, sum_cnt ok1 m hm, sum_cnt oki m hm]
  refine cnt_add (fun i _ => ?_)
  have a1 : mpAt l1 i = true ↔ ¬ (x ≤ 64 * (i : Int) ∧ 64 * (i : Int) < x + n) ∧ mpAt l i = true := by
    rw [mpAt_iff, mpAt_iff]
    simp only [h1]
    exact ⟨fun ⟨t, h, h'⟩ => ⟨h, t, h'⟩, fun ⟨h, t, h'⟩ => ⟨t, h, h'⟩⟩
  have a2 : mpAt li i = true ↔ (x ≤ 64 * (i : Int) ∧ 64 * (i : Int) < x + n) ∧ mpAt l i = true := by
    rw [mpAt_iff, mpAt_iff]
    simp only [h2]
    exact ⟨fun ⟨t, h, h'⟩ => ⟨h, t, h'⟩, fun ⟨h, t, h'⟩ => ⟨t, h, h'⟩⟩
  by_cases e : x ≤ 64 * (i : Int) ∧ 64 * (i : Int) < x + n
  · cases h3 : mpAt l i <;> cases h4 : mpAt l1 i <;> cases h5 : mpAt li i <;> simp_all
  · cases h3 : mpAt l i <;> cases h4 : mpAt l1 i <;> cases h5 : mpAt li i <;> simp_all
theorem sumP_bd (ok : GOK size l) (m : Nat) (hm : size ≤ 64 * (m : Int)) : 0 ≤ sumP l ∧ sumP l ≤ 64 * (m : Int) := by
  rw [sum_cnt ok m hm]
  have key : ∀ (f : Nat → Bool) (m : Nat), 0 ≤ cnt f m ∧ cnt f m ≤ 64 * (m : Int) := fun f m => by
    induction m with
    | zero => simp [cnt]
    | succ m ih => unfold cnt; split <;> omega
  exact key _ m
end
end Go.Proofs.Ytdddmjdlikjedaa
