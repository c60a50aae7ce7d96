/-
  Rings of places in memory: what is put in last, and what is taken out. No walk, no conditions.
-/
import Derived.Test.YtabakjimlndhcaaBMap
namespace Go.Proofs.Ytabakjimlndhcaa
open Go.ChangeShapes Go.WideShapes Go.ChangeAt Go.RowKit

def Link (w : World) (a b : Nat) : Prop := w.cell? ⟨a, 3, none⟩ = some (ptr b) ∧ w.cell? ⟨b, 2, none⟩ = some (ptr a)
/-- From a by the places of l to b. -/
def Chain (w : World) : Nat → List Nat → Nat → Prop
  | a, [], b => Link w a b
  | a, p :: l, b => Link w a p ∧ Chain w p l b
section
variable {w w' : World}
theorem chain_app (a : Nat) (l : List Nat) (p : Nat) (m : List Nat) (b : Nat) : Chain w a (l ++ p :: m) b ↔ Chain w a l p ∧ Chain w p m b := by
  induction l generalizing a with
  | nil => exact Iff.rfl
  | cons q l ih =>
    show Link w a q ∧ Chain w q (l ++ p :: m) b ↔ (Link w a q ∧ Chain w q l p) ∧ Chain w p m b
    rw [ih]
    exact and_assoc.symm
theorem Chain.kept {a : Nat} {l : List Nat} {b : Nat} (h : Chain w a l b) (h3 : ∀ q, q = a ∨ q ∈ l → w'.cell? ⟨q, 3, none⟩ = w.cell? ⟨q, 3, none⟩) (h2 : ∀ q, q ∈ l ∨ q = b → w'.cell? ⟨q, 2, none⟩ = w.cell? ⟨q, 2, none⟩) : Chain w' a l b := by
  induction l generalizing a with
  | nil => exact ⟨(h3 a (.inl rfl)).trans h.1, (h2 b (.inr rfl)).trans h.2⟩
  | cons q l ih =>
    exact ⟨⟨(h3 a (.inl rfl)).trans h.1.1, (h2 q (.inl List.mem_cons_self)).trans h.1.2⟩, ih h.2 (fun k hk => h3 k (.inr (hk.elim (fun e => e ▸ List.mem_cons_self) (List.mem_cons_of_mem _)))) (fun k hk => h2 k (hk.imp (List.mem_cons_of_mem _) id))⟩
theorem Chain.front {a : Nat} {l : List Nat} {b : Nat} (h : Chain w a l b) : w.cell? ⟨a, 3, none⟩ = some (ptr ((l.head?).getD b)) := by
  cases l with
  | nil => exact h.1
  | cons q l => exact h.1.1
theorem Chain.back {a : Nat} {l : List Nat} {b : Nat} (h : Chain w a l b) : w.cell? ⟨b, 2, none⟩ = some (ptr ((l.getLast?).getD a)) := by
  rcases List.eq_nil_or_concat l with rfl | ⟨l', q, rfl⟩
  · exact h.2
  · rw [List.concat_eq_append] at h ⊢
    have := ((chain_app _ _ _ _ _).1 h).2
    simpa using this.2
/-- A place is taken out. -/
theorem unlink {r p : Nat} {la lb : List Nat} (h : Chain w r (la ++ p :: lb) r) (hn : (r :: (la ++ p :: lb)).Nodup) :
    ∃ q s, w.cell? ⟨p, 2, none⟩ = some (ptr q) ∧ w.cell? ⟨p, 3, none⟩ = some (ptr s) ∧ (q = r ∨ q ∈ la) ∧ (s = r ∨ s ∈ lb) ∧ (q = s ↔ la ++ lb = []) ∧
      ∀ w', w'.cell? ⟨q, 3, none⟩ = some (ptr s) → w'.cell? ⟨s, 2, none⟩ = some (ptr q) → (∀ k, k ≠ q → w'.cell? ⟨k, 3, none⟩ = w.cell? ⟨k, 3, none⟩) → (∀ k, k ≠ s → w'.cell? ⟨k, 2, none⟩ = w.cell? ⟨k, 2, none⟩) → Chain w' r (la ++ lb) r := by
  obtain ⟨h1, h2⟩ := (chain_app _ _ _ _ _).1 h
  have hr := (List.nodup_cons.1 hn).1
  have hN := (List.nodup_cons.1 hn).2
  obtain ⟨n1, n2, n3⟩ := List.nodup_append.1 hN
  obtain ⟨n4, n5⟩ := List.nodup_cons.1 n2
  have hra : r ∉ la := fun e => hr (List.mem_append_left _ e)
  have hrb : r ∉ lb := fun e => hr (List.mem_append_right _ (List.mem_cons_of_mem _ e))
  have hab : ∀ x, x ∈ la → x ∈ lb → False := fun x ha hb => n3 x ha x (List.mem_cons_of_mem _ hb) rfl
  rcases List.eq_nil_or_concat la with rfl | ⟨la', q, rfl⟩
  · cases lb with
    | nil => exact ⟨r, r, h1.2, h2.1, .inl rfl, .inl rfl, by simp, fun w' e1 e2 _ _ => ⟨e1, e2⟩⟩
    | cons s lb' =>
      have hsr : r ≠ s := fun e => hrb (e ▸ List.mem_cons_self)
      refine ⟨r, s, h1.2, h2.1.1, .inl rfl, .inr List.mem_cons_self, by simp [hsr], fun w' e1 e2 e3 e4 => ⟨⟨e1, e2⟩, h2.2.kept (fun k hk => e3 k ?_) (fun k hk => e4 k ?_)⟩⟩
      · rintro rfl
        exact hk.elim hsr (fun hk => hrb (List.mem_cons_of_mem _ hk))
      · rintro rfl
        exact hk.elim (fun hk => (List.nodup_cons.1 n5).1 hk) (fun e => hsr e.symm)
  · rw [List.concat_eq_append] at *
    obtain ⟨h3, h4⟩ := (chain_app _ _ _ _ _).1 h1
    have hqr : q ≠ r := fun e => hra (by rw [← e]; simp)
    have hql : q ∉ la' := by
      have := (List.nodup_append.1 n1).2.2
      exact fun hh => this q hh q (by simp) rfl
    have hra' : r ∉ la' := fun e => hra (List.mem_append_left _ e)
    cases lb with
    | nil =>
      refine ⟨q, r, h4.2, h2.1, .inr (by simp), .inl rfl, by simp [hqr], fun w' e1 e2 e3 e4 => ?_⟩
      rw [List.append_nil]
      refine (chain_app _ _ _ _ _).2 ⟨h3.kept (fun k hk => e3 k ?_) (fun k hk => e4 k ?_), ⟨e1, e2⟩⟩
      · rintro rfl
        exact hk.elim hqr hql
      · rintro rfl
        exact hk.elim hra' (fun e => hqr e.symm)
    | cons s lb' =>
      have hqs : q ≠ s := fun e => hab q (by simp) (by rw [e]; exact List.mem_cons_self)
      have hsl : s ∉ la' := fun e => hab s (List.mem_append_left _ e) List.mem_cons_self
      refine ⟨q, s, h4.2, h2.1.1, .inr (by simp), .inr List.mem_cons_self, by simp [hqs], fun w' e1 e2 e3 e4 => ?_⟩
      rw [List.append_assoc]
      refine (chain_app _ _ _ _ _).2 ⟨h3.kept (fun k hk => e3 k ?_) (fun k hk => e4 k ?_), ⟨e1, e2⟩, h2.2.kept (fun k hk => e3 k ?_) (fun k hk => e4 k ?_)⟩
      · rintro rfl
        exact hk.elim hqr hql
      · rintro rfl
        exact hk.elim hsl (fun e => hqs e.symm)
      · rintro rfl
        exact hk.elim hqs (fun hk => hab k (by simp) (List.mem_cons_of_mem _ hk))
      · rintro rfl
        exact hk.elim (fun hk => (List.nodup_cons.1 n5).1 hk) (fun e => hrb (e ▸ List.mem_cons_self))
/-- A place is put in, last. -/
theorem linkin {r p : Nat} {l : List Nat} (h : Chain w r l r) (hn : (r :: l).Nodup) (hp : p ≠ r ∧ p ∉ l) :
    ∃ q, w.cell? ⟨r, 2, none⟩ = some (ptr q) ∧ (q = r ∨ q ∈ l) ∧ q = (l.getLast?).getD r ∧
      ∀ w', w'.cell? ⟨q, 3, none⟩ = some (ptr p) → w'.cell? ⟨r, 2, none⟩ = some (ptr p) → w'.cell? ⟨p, 2, none⟩ = some (ptr q) → w'.cell? ⟨p, 3, none⟩ = some (ptr r) → (∀ k, k ≠ q → k ≠ p → w'.cell? ⟨k, 3, none⟩ = w.cell? ⟨k, 3, none⟩) → (∀ k, k ≠ r → k ≠ p → w'.cell? ⟨k, 2, none⟩ = w.cell? ⟨k, 2, none⟩) → Chain w' r (l ++ [p]) r := by
  obtain ⟨hr, n1⟩ := List.nodup_cons.1 hn
  rcases List.eq_nil_or_concat l with rfl | ⟨l', q, rfl⟩
  · exact ⟨r, h.2, .inl rfl, rfl, fun w' e1 e2 e3 e4 _ _ => ⟨⟨e1, e3⟩, e4, e2⟩⟩
  · rw [List.concat_eq_append] at *
    obtain ⟨h3, h4⟩ := (chain_app _ _ _ _ _).1 h
    have hqr : q ≠ r := fun e => hr (by rw [← e]; simp)
    have hql : q ∉ l' := by
      have := (List.nodup_append.1 n1).2.2
      exact fun hh => this q hh q (by simp) rfl
    have hrl : r ∉ l' := fun e => hr (List.mem_append_left _ e)
    have hpl : p ∉ l' := fun e => hp.2 (List.mem_append_left _ e)
    have hpq : p ≠ q := fun e => hp.2 (by rw [e]; simp)
    refine ⟨q, h4.2, .inr (by simp), by simp, fun w' e1 e2 e3 e4 e5 e6 => ?_⟩
    refine (chain_app _ _ _ _ _).2 ⟨(chain_app _ _ _ _ _).2 ⟨h3.kept (fun k hk => e5 k ?_ ?_) (fun k hk => e6 k ?_ ?_), ⟨e1, e3⟩⟩, ⟨e4, e2⟩⟩
    · rintro rfl
      exact hk.elim hqr hql
    · rintro rfl
      exact hk.elim hp.1 hpl
    · rintro rfl
      exact hk.elim hrl (fun e => hqr e.symm)
    · rintro rfl
      exact hk.elim hpl hpq
end
end Go.Proofs.Ytabakjimlndhcaa
