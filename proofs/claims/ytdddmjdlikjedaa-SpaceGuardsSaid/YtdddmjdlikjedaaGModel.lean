/-
  The laws' plain data: what a put makes of the pieces.
-/
import Derived.Test.YtdddmjdlikjedaaGPlace
import Derived.Test.YtdddmjdlikjedaaGPutNo
namespace Go.Proofs.Ytdddmjdlikjedaa
open Go.ChangeShapes Go.WideShapes Go.ChangeAt Go.RowKit

theorem mem_take_at {l : List Pc} {k : Nat} {q : Pc} (h : q ∈ l.take k) : ∃ j, j < k ∧ l[j]? = some q := by
  obtain ⟨j, hj⟩ := List.getElem?_of_mem h
  rw [List.getElem?_take] at hj
  by_cases hk : j < k
  · rw [if_pos hk] at hj; exact ⟨j, hk, hj⟩
  · rw [if_neg hk] at hj; cases hj
theorem mem_drop_at {l : List Pc} {k : Nat} {q : Pc} (h : q ∈ l.drop k) : ∃ j, k ≤ j ∧ l[j]? = some q := by
  obtain ⟨j, hj⟩ := List.getElem?_of_mem h
  rw [List.getElem?_drop] at hj
  exact ⟨k + j, by omega, hj⟩
def putL (l : List Pc) (k : Nat) (p : Pc) : List Pc := l.take k ++ [p] ++ l.drop k
theorem mem_put {l : List Pc} {k : Nat} {p q : Pc} : q ∈ putL l k p ↔ q ∈ l ∨ q = p := by
  have h : q ∈ l ↔ q ∈ l.take k ∨ q ∈ l.drop k := by
    rw [← List.mem_append, List.take_append_drop]
  unfold putL
  simp only [List.mem_append, List.mem_singleton, h]
  constructor
  · rintro ((h | h) | h)
    · exact .inl (.inl h)
    · exact .inr h
    · exact .inl (.inr h)
  · rintro ((h | h) | h)
    · exact .inl (.inl h)
    · exact .inr h
    · exact .inl (.inr h)
theorem has_put {l : List Pc} {k : Nat} {p q : Pc} {x : Int} : HasP (putL l k p) x q ↔ HasP l x q ∨ (q = p ∧ p.at' ≤ x ∧ x < p.fin) := by
  unfold HasP
  rw [mem_put]
  constructor
  · rintro ⟨h | rfl, h2⟩
    · exact .inl ⟨h, h2⟩
    · exact .inr ⟨rfl, h2⟩
  · rintro (⟨h, h2⟩ | ⟨rfl, h2⟩)
    · exact ⟨.inl h, h2⟩
    · exact ⟨.inr rfl, h2⟩
theorem put_len (l : List Pc) (k : Nat) (p : Pc) : (putL l k p).length = l.length + 1 := by
  unfold putL
  simp only [List.length_append, List.length_take, List.length_drop, List.length_singleton]
  omega
theorem gok_put {l : List Pc} {size : Int} {p : Pc} {k : Nat} (ok : GOK size l) (hp : isPut p) (hin : p.fin ≤ size) (hs : SegIs l p.at' p.len k k) : GOK size (putL l k p) := by
  have hg := hp.1
  have hf := hp.2.1
  have hf2 := hp.2.2.1
  have hpr := hp.2.2.2
  unfold isGrid isMul at hg
  unfold isMul at hf
  unfold isProt at hpr
  refine ⟨ok.top, fun q hq => ?_, ?_⟩
  · rcases mem_put.1 hq with h | rfl
    · exact ok.each q h
    · exact ⟨⟨hg.1.1, hg.2.2, hin, hg.1.2, hg.2.1.2⟩, hf.1, by omega, hf.2, hpr.1, hpr.2⟩
  · have hb : ∀ q ∈ l.take k, q.fin ≤ p.at' := fun q hq => by
      obtain ⟨j, h1, h2⟩ := mem_take_at hq
      exact hs.from'.low j q h1 h2
    have ha : ∀ q ∈ l.drop k, p.fin ≤ q.at' := fun q hq => by
      obtain ⟨j, h1, h2⟩ := mem_drop_at hq
      have h3 := hs.from'.high j q h1 h2
      have h4 := hs.past ok h1 h2
      unfold Ov at h4
      unfold Pc.fin at *
      omega
    have hab : (l.take k ++ l.drop k).Pairwise (fun p q => p.fin ≤ q.at') := by rw [List.take_append_drop]; exact ok.rise
    rw [List.pairwise_append] at hab
    unfold putL
    rw [List.pairwise_append, List.pairwise_append]
    refine ⟨⟨hab.1, List.pairwise_singleton _ _, fun q hq r hr => ?_⟩, hab.2.1, fun q hq r hr => ?_⟩
    · rw [List.mem_singleton] at hr
      subst hr
      exact hb q hq
    · rcases List.mem_append.1 hq with h | h
      · exact hab.2.2 q h r hr
      · rw [List.mem_singleton] at h
        subst h
        exact ha r hr
/-- Each piece has at least 64 numbers, so there are not many. -/
theorem gok_many {l : List Pc} : ∀ {size lo : Int}, (∀ p ∈ l, lo ≤ p.at' ∧ 0 < p.len ∧ p.fin ≤ size ∧ p.len % 64 = 0) → l.Pairwise (fun p q => p.fin ≤ q.at') → lo ≤ size → 64 * (l.length : Int) ≤ size - lo := by
  induction l with
  | nil => intro size lo _ _ h; simp; omega
  | cons p l ih =>
    intro size lo h hp hl
    have h1 := h p (by simp)
    rw [List.pairwise_cons] at hp
    have h2 := ih (size := size) (lo := p.fin) (fun q hq => by have := h q (by simp [hq]); exact ⟨hp.1 q hq, this.2.1, this.2.2.1, this.2.2.2⟩) hp.2 h1.2.2.1
    rw [List.length_cons]
    unfold Pc.fin at *
    omega
theorem gok_len {l : List Pc} {size : Int} (ok : GOK size l) : 64 * (l.length : Int) ≤ size := by
  have := gok_many (l := l) (size := size) (lo := 0) (fun p hp => by have := ok.each p hp; exact ⟨this.1.1, this.1.2.1, this.1.2.2.1, this.1.2.2.2.2⟩) ok.rise ok.top.1
  omega
end Go.Proofs.Ytdddmjdlikjedaa
