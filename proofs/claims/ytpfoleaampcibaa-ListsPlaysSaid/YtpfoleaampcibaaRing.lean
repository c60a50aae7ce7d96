/-
  Queues as rings of numbers: what is linked to what, and what each call makes of it. No walk, no conditions.
-/
import Derived.Test.YtpfoleaampcibaaHeap
namespace Go.Proofs.Ytpfoleaampcibaa
open Go.RowKit

def upd {α : Type} (f : Nat → α) (i : Nat) (v : α) : Nat → α := fun j => if j = i then v else f j
theorem upd_same {α : Type} (f : Nat → α) (i : Nat) (v : α) : upd f i v i = v := by simp [upd]
theorem upd_other {α : Type} (f : Nat → α) {i j : Nat} (v : α) (h : j ≠ i) : upd f i v j = f j := by simp [upd, h]

theorem nodup_len : ∀ (n : Nat) (l : List Nat), l.Nodup → (∀ x ∈ l, x < n) → l.length ≤ n
  | 0, l, _, h => by
    cases l with
    | nil => simp
    | cons x l => have := h x (by simp); omega
  | n + 1, l, hn, h => by
    by_cases hm : n ∈ l
    · have h1 := nodup_len n (l.erase n) (hn.erase _) (fun x hx => by
        have h2 := h x (List.mem_of_mem_erase hx)
        have h3 : x ≠ n := fun e => by subst e; exact (List.Nodup.not_mem_erase hn) hx
        omega)
      rw [List.length_erase_of_mem hm] at h1
      omega
    · have h1 := nodup_len n l hn (fun x hx => by
        have h2 := h x hx
        have h3 : x ≠ n := fun e => hm (e ▸ hx)
        omega)
      omega

structure Raw where
  items : Nat
  queues : Nat
  Q : Nat → Int
  A : Nat → Nat
  B : Nat → Nat
  C : Nat → Nat

/-- From u over l to v, side by side. -/
def Chain (A B : Nat → Nat) : Nat → List Nat → Nat → Prop
  | u, [], v => B u = v ∧ A v = u
  | u, x :: l, v => B u = x ∧ A x = u ∧ Chain A B x l v

theorem Chain.append {A B : Nat → Nat} {u x v : Nat} {l1 l2 : List Nat} : Chain A B u (l1 ++ x :: l2) v ↔ Chain A B u l1 x ∧ Chain A B x l2 v := by
  induction l1 generalizing u with
  | nil => simp [Chain, and_assoc]
  | cons y l ih => simp [Chain, ih, and_assoc]

theorem Chain.frame {A B : Nat → Nat} {u v p q y z : Nat} {l : List Nat} (h : Chain A B u l v) (hp : p ≠ u ∧ p ∉ l) (hq : q ≠ v ∧ q ∉ l) : Chain (upd A q z) (upd B p y) u l v := by
  induction l generalizing u with
  | nil =>
    obtain ⟨h1, h2⟩ := h
    exact ⟨by rw [upd_other _ _ (Ne.symm hp.1)]; exact h1, by rw [upd_other _ _ (Ne.symm hq.1)]; exact h2⟩
  | cons x l ih =>
    obtain ⟨h1, h2, h3⟩ := h
    simp only [List.mem_cons, not_or] at hp hq
    exact ⟨by rw [upd_other _ _ (Ne.symm hp.1)]; exact h1, by rw [upd_other _ _ (Ne.symm hq.2.1)]; exact h2, ih h3 hp.2 ⟨hq.1, hq.2.2⟩⟩

theorem Chain.last_mem {A B : Nat → Nat} {u v : Nat} {l : List Nat} (h : Chain A B u l v) : A v = u ∧ l = [] ∨ A v ∈ l := by
  induction l generalizing u with
  | nil => exact .inl ⟨h.2, rfl⟩
  | cons x l ih =>
    rcases ih h.2.2 with ⟨h1, h2⟩ | h1
    · right; simp [h1]
    · right; simp [h1]

theorem Chain.first_mem {A B : Nat → Nat} {u v : Nat} {l : List Nat} (h : Chain A B u l v) : B u = v ∧ l = [] ∨ ∃ l', l = B u :: l' := by
  cases l with
  | nil => exact .inl ⟨h.1, rfl⟩
  | cons x l => right; exact ⟨l, by rw [h.1]⟩

theorem Chain.retarget {A B : Nat → Nat} {s t t' : Nat} {l : List Nat} (h : Chain A B s l t) (hs : s ∉ l) (nd : l.Nodup) (ht : t' ∉ l) :
    Chain (upd A t' (A t)) (upd B (A t) t') s l t' := by
  induction l generalizing s with
  | nil =>
    obtain ⟨h1, h2⟩ := h
    exact ⟨by rw [h2, upd_same], by rw [upd_same, h2]⟩
  | cons x l ih =>
    obtain ⟨h1, h2, h3⟩ := h
    simp only [List.mem_cons, not_or, List.nodup_cons] at hs nd ht
    refine ⟨?_, ?_, ih h3 nd.1 nd.2 ht.2⟩
    · rw [upd_other _ _ ?_]
      · exact h1
      · rcases h3.last_mem with ⟨e, _⟩ | e
        · rw [e]; exact hs.1
        · intro e2; rw [← e2] at e; exact hs.2 e
    · rw [upd_other _ _ (Ne.symm ht.1)]; exact h2

/-- What stands at place k of the way from u to v, and what is behind it. -/
theorem Chain.next {A B : Nat → Nat} {u v : Nat} {l : List Nat} (h : Chain A B u l v) (k : Nat) (hk : k ≤ l.length) : B ((u :: l).getD k v) = (l ++ [v]).getD k v := by
  induction l generalizing u k with
  | nil =>
    have : k = 0 := by simpa using hk
    subst this
    simpa using h.1
  | cons x l ih =>
    cases k with
    | zero => simpa using h.1
    | succ k =>
      have := ih h.2.2 k (by simpa using hk)
      simpa using this

def Raw.join (r : Raw) (u v : Nat) : Raw := { r with A := upd r.A v u, B := upd r.B u v }
def Raw.insert (r : Raw) (q u x v : Nat) : Raw := { (r.join u x).join x v with Q := upd r.Q x q, C := upd r.C q (r.C q + 1) }
def Raw.remove (r : Raw) (q x : Nat) : Raw := { r.join (r.A x) (r.B x) with Q := upd r.Q x (-1), C := upd r.C q (r.C q - 1) }
def Raw.empty (r : Raw) (q : Nat) : Raw := { r.join (r.items + q) (r.items + q) with C := upd r.C q 0 }
/-- The items of l belong to queue q. -/
def Raw.tag (r : Raw) (q : Nat) (l : List Nat) : Raw := { r with Q := fun x => if x ∈ l then q else r.Q x }
def Raw.splice (r : Raw) (q g : Nat) (l : List Nat) : Raw :=
  Raw.empty { ((r.tag q l).join (r.A (r.items + q)) (r.B (r.items + g))).join (r.A (r.items + g)) (r.items + q) with C := upd r.C q (r.C q + r.C g) } g

structure Rep (r : Raw) (L : Nat → List Nat) : Prop where
  items : r.items ≤ 65536
  queues : r.queues ≤ 65536
  inn : ∀ q, q < r.queues → ∀ x ∈ L q, x < r.items ∧ r.Q x = q
  out : ∀ x, x < r.items → r.Q x = -1 ∨ ∃ q, q < r.queues ∧ r.Q x = q ∧ x ∈ L q
  nodup : ∀ q, q < r.queues → (L q).Nodup
  chain : ∀ q, q < r.queues → Chain r.A r.B (r.items + q) (L q) (r.items + q)
  count : ∀ q, q < r.queues → r.C q = (L q).length

section
variable {r : Raw} {L : Nat → List Nat}

theorem Rep.head_out (h : Rep r L) {q q' : Nat} (hq : q < r.queues) : r.items + q' ∉ L q := fun hm => by
  have := (h.inn q hq _ hm).1
  omega
theorem Rep.apart (h : Rep r L) {q q' x : Nat} (hq : q < r.queues) (hq' : q' < r.queues) (hx : x ∈ L q) (hx' : x ∈ L q') : q = q' := by
  have h1 := (h.inn q hq x hx).2
  have h2 := (h.inn q' hq' x hx').2
  omega
theorem Rep.free_out (h : Rep r L) {q x : Nat} (hq : q < r.queues) (hx : r.Q x = -1) : x ∉ L q := fun hm => by
  have := (h.inn q hq x hm).2
  omega
theorem Rep.mem_of (h : Rep r L) {q x : Nat} (hx : x < r.items) (hQ : r.Q x = (q : Int)) : x ∈ L q ∧ q < r.queues := by
  rcases h.out x hx with h1 | ⟨q', h1, h2, h3⟩
  · omega
  · have : q' = q := by omega
    subst this
    exact ⟨h3, h1⟩
theorem Rep.len_le (h : Rep r L) {q : Nat} (hq : q < r.queues) : (L q).length ≤ r.items := by
  exact nodup_len _ _ (h.nodup q hq) (fun x hx => (h.inn q hq x hx).1)

theorem Rep.last_cases (h : Rep r L) {q : Nat} (hq : q < r.queues) : r.A (r.items + q) = r.items + q ∧ L q = [] ∨ r.A (r.items + q) ∈ L q := (h.chain q hq).last_mem
theorem Rep.first_cases (h : Rep r L) {q : Nat} (hq : q < r.queues) : r.B (r.items + q) = r.items + q ∧ L q = [] ∨ ∃ l', L q = r.B (r.items + q) :: l' := (h.chain q hq).first_mem

theorem Rep.push (h : Rep r L) {q x : Nat} (hq : q < r.queues) (hx : x < r.items) (hQ : r.Q x = -1) :
    Rep (r.insert q (r.A (r.items + q)) x (r.items + q)) (upd L q (L q ++ [x])) := by
  have hxo : ∀ q', q' < r.queues → x ∉ L q' := fun q' h' => h.free_out h' hQ
  have hlast := h.last_cases hq
  refine ⟨h.items, h.queues, ?_, ?_, ?_, ?_, ?_⟩
  · intro q' hq' y hy
    change q' < r.queues at hq'
    change y < r.items ∧ upd r.Q x q y = q'
    by_cases e : q' = q
    · subst e
      rw [upd_same] at hy
      rcases List.mem_append.1 hy with hy | hy
      · have := h.inn q' hq' y hy
        exact ⟨this.1, by rw [upd_other _ _ (fun e2 : y = x => hxo q' hq' (e2 ▸ hy))]; exact this.2⟩
      · simp at hy; subst hy; exact ⟨hx, upd_same _ _ _⟩
    · rw [upd_other _ _ e] at hy
      have := h.inn q' hq' y hy
      exact ⟨this.1, by rw [upd_other _ _ (fun e2 : y = x => hxo q' hq' (e2 ▸ hy))]; exact this.2⟩
  · intro y hy
    change y < r.items at hy
    change upd r.Q x q y = -1 ∨ ∃ q', q' < r.queues ∧ upd r.Q x q y = q' ∧ y ∈ upd L q (L q ++ [x]) q'
    by_cases e : y = x
    · subst e
      right
      exact ⟨q, hq, upd_same _ _ _, by rw [upd_same]; simp⟩
    · rw [upd_other _ _ e]
      rcases h.out y hy with h1 | ⟨q', h1, h2, h3⟩
      · exact .inl h1
      · refine .inr ⟨q', h1, h2, ?_⟩
        by_cases e' : q' = q
        · subst e'; rw [upd_same]; simp [h3]
        · rw [upd_other _ _ e']; exact h3
  · intro q' hq'
    by_cases e : q' = q
    · subst e
      rw [upd_same]
      rw [List.nodup_append]
      refine ⟨h.nodup q' hq', by simp, ?_⟩
      intro a ha b hb
      simp at hb
      subst hb
      exact fun e => hxo q' hq' (e ▸ ha)
    · rw [upd_other _ _ e]; exact h.nodup q' hq'
  · intro q' hq'
    change q' < r.queues at hq'
    change Chain (upd (upd r.A x (r.A (r.items + q))) (r.items + q) x) (upd (upd r.B (r.A (r.items + q)) x) x (r.items + q)) (r.items + q') (upd L q (L q ++ [x]) q') (r.items + q')
    by_cases e : q' = q
    · subst e
      rw [upd_same, Chain.append]
      have h1 := (h.chain q' hq').retarget (h.head_out hq') (h.nodup q' hq') (hxo q' hq')
      refine ⟨h1.frame ⟨by omega, hxo q' hq'⟩ ⟨by omega, h.head_out hq'⟩, ?_, ?_⟩
      · rw [upd_same]
      · rw [upd_same]
    · rw [upd_other _ _ e]
      have n1 : r.A (r.items + q) ≠ r.items + q' ∧ r.A (r.items + q) ∉ L q' := by
        rcases hlast with ⟨e1, _⟩ | e1
        · rw [e1]; exact ⟨by omega, h.head_out hq'⟩
        · exact ⟨fun e2 => h.head_out hq (e2 ▸ e1), fun e2 => e (h.apart hq' hq e2 e1)⟩
      have n2 : x ≠ r.items + q' ∧ x ∉ L q' := ⟨by omega, hxo q' hq'⟩
      have n3 : r.items + q ≠ r.items + q' ∧ r.items + q ∉ L q' := ⟨by omega, h.head_out hq'⟩
      exact ((h.chain q' hq').frame n1 n2).frame n2 n3
  · intro q' hq'
    change q' < r.queues at hq'
    change upd r.C q (r.C q + 1) q' = _
    by_cases e : q' = q
    · subst e; rw [upd_same, upd_same, h.count q' hq']; simp
    · rw [upd_other _ _ e, upd_other _ _ e]; exact h.count q' hq'

theorem Rep.front (h : Rep r L) {q x : Nat} (hq : q < r.queues) (hx : x < r.items) (hQ : r.Q x = -1) :
    Rep (r.insert q (r.items + q) x (r.B (r.items + q))) (upd L q (x :: L q)) := by
  have hxo : ∀ q', q' < r.queues → x ∉ L q' := fun q' h' => h.free_out h' hQ
  have hfirst := h.first_cases hq
  refine ⟨h.items, h.queues, ?_, ?_, ?_, ?_, ?_⟩
  · intro q' hq' y hy
    change q' < r.queues at hq'
    change y < r.items ∧ upd r.Q x q y = q'
    by_cases e : q' = q
    · subst e
      rw [upd_same] at hy
      rcases List.mem_cons.1 hy with hy | hy
      · subst hy; exact ⟨hx, upd_same _ _ _⟩
      · have := h.inn q' hq' y hy
        exact ⟨this.1, by rw [upd_other _ _ (fun e2 : y = x => hxo q' hq' (e2 ▸ hy))]; exact this.2⟩
    · rw [upd_other _ _ e] at hy
      have := h.inn q' hq' y hy
      exact ⟨this.1, by rw [upd_other _ _ (fun e2 : y = x => hxo q' hq' (e2 ▸ hy))]; exact this.2⟩
  · intro y hy
    change y < r.items at hy
    change upd r.Q x q y = -1 ∨ ∃ q', q' < r.queues ∧ upd r.Q x q y = q' ∧ y ∈ upd L q (x :: L q) q'
    by_cases e : y = x
    · subst e
      right
      exact ⟨q, hq, upd_same _ _ _, by rw [upd_same]; simp⟩
    · rw [upd_other _ _ e]
      rcases h.out y hy with h1 | ⟨q', h1, h2, h3⟩
      · exact .inl h1
      · refine .inr ⟨q', h1, h2, ?_⟩
        by_cases e' : q' = q
        · subst e'; rw [upd_same]; simp [h3]
        · rw [upd_other _ _ e']; exact h3
  · intro q' hq'
    by_cases e : q' = q
    · subst e
      rw [upd_same, List.nodup_cons]
      exact ⟨hxo q' hq', h.nodup q' hq'⟩
    · rw [upd_other _ _ e]; exact h.nodup q' hq'
  · intro q' hq'
    change q' < r.queues at hq'
    change Chain (upd (upd r.A x (r.items + q)) (r.B (r.items + q)) x) (upd (upd r.B (r.items + q) x) x (r.B (r.items + q))) (r.items + q') (upd L q (x :: L q) q') (r.items + q')
    have hne : r.items + q ≠ x := by omega
    by_cases e : q' = q
    · subst e
      rw [upd_same]
      have hc := h.chain q' hq'
      have ho := h.head_out (q' := q') hq'
      have hn := h.nodup q' hq'
      have hx0 := hxo q' hq'
      have hB : r.B (r.items + q') ≠ x := by
        rcases hfirst with ⟨e1, _⟩ | ⟨l', e1⟩
        · rw [e1]; exact hne
        · intro e2; apply hx0; rw [e1, e2]; simp
      refine ⟨?_, ?_, ?_⟩
      · rw [upd_other _ _ hne, upd_same]
      · rw [upd_other _ _ (Ne.symm hB), upd_same]
      · cases hl : L q' with
        | nil =>
          rw [hl] at hc
          refine ⟨by rw [upd_same]; exact hc.1, ?_⟩
          rw [hc.1, upd_same]
        | cons y l =>
          rw [hl] at hc hn ho hx0
          obtain ⟨c1, c2, c3⟩ := hc
          simp only [List.mem_cons, not_or, List.nodup_cons] at ho hn hx0
          refine ⟨by rw [upd_same]; exact c1, by rw [c1, upd_same], ?_⟩
          rw [c1]
          exact (c3.frame ⟨ho.1, ho.2⟩ ⟨Ne.symm hne, hx0.2⟩).frame ⟨hx0.1, hx0.2⟩ ⟨Ne.symm ho.1, hn.1⟩
    · rw [upd_other _ _ e]
      have n1 : r.B (r.items + q) ≠ r.items + q' ∧ r.B (r.items + q) ∉ L q' := by
        rcases hfirst with ⟨e1, _⟩ | ⟨l', e1⟩
        · rw [e1]; exact ⟨by omega, h.head_out hq'⟩
        · have e1' : r.B (r.items + q) ∈ L q := by rw [e1]; simp
          exact ⟨fun e2 => h.head_out hq (e2 ▸ e1'), fun e2 => e (h.apart hq' hq e2 e1')⟩
      have n2 : x ≠ r.items + q' ∧ x ∉ L q' := ⟨by omega, hxo q' hq'⟩
      have n3 : r.items + q ≠ r.items + q' ∧ r.items + q ∉ L q' := ⟨by omega, h.head_out hq'⟩
      exact ((h.chain q' hq').frame n3 n2).frame n2 n1
  · intro q' hq'
    change q' < r.queues at hq'
    change upd r.C q (r.C q + 1) q' = _
    by_cases e : q' = q
    · subst e; rw [upd_same, upd_same, h.count q' hq']; simp
    · rw [upd_other _ _ e, upd_other _ _ e]; exact h.count q' hq'

/-- What stands ahead of an item of a queue, and behind it, is of that queue's ring. -/
theorem Rep.sides (h : Rep r L) {q x : Nat} (hq : q < r.queues) (hx : x ∈ L q) : (r.A x = r.items + q ∨ r.A x ∈ L q) ∧ (r.B x = r.items + q ∨ r.B x ∈ L q) := by
  obtain ⟨l1, l2, e⟩ := List.append_of_mem hx
  have hc := h.chain q hq
  rw [e, Chain.append] at hc
  constructor
  · rcases hc.1.last_mem with ⟨e1, _⟩ | e1
    · exact .inl e1
    · right; rw [e]; simp [e1]
  · rcases hc.2.first_mem with ⟨e1, _⟩ | ⟨l', e1⟩
    · exact .inl e1
    · right; rw [e, e1]; simp

theorem Rep.remove (h : Rep r L) {q x : Nat} (hq : q < r.queues) (hx : x ∈ L q) : Rep (r.remove q x) (upd L q ((L q).erase x)) := by
  have hxi := h.inn q hq x hx
  have hs := h.sides hq hx
  have hxo : ∀ q', q' < r.queues → q' ≠ q → x ∉ L q' := fun q' h' e hm => e (h.apart h' hq hm hx)
  refine ⟨h.items, h.queues, ?_, ?_, ?_, ?_, ?_⟩
  · intro q' hq' y hy
    change q' < r.queues at hq'
    change y < r.items ∧ upd r.Q x (-1) y = q'
    by_cases e : q' = q
    · subst e
      rw [upd_same] at hy
      have hne : y ≠ x := fun e => by subst e; exact (List.Nodup.not_mem_erase (h.nodup q' hq')) hy
      have := h.inn q' hq' y (List.mem_of_mem_erase hy)
      exact ⟨this.1, by rw [upd_other _ _ hne]; exact this.2⟩
    · rw [upd_other _ _ e] at hy
      have := h.inn q' hq' y hy
      exact ⟨this.1, by rw [upd_other _ _ (fun e2 : y = x => hxo q' hq' e (e2 ▸ hy))]; exact this.2⟩
  · intro y hy
    change y < r.items at hy
    change upd r.Q x (-1) y = -1 ∨ ∃ q', q' < r.queues ∧ upd r.Q x (-1) y = q' ∧ y ∈ upd L q ((L q).erase x) q'
    by_cases e : y = x
    · subst e; exact .inl (upd_same _ _ _)
    · rw [upd_other _ _ e]
      rcases h.out y hy with h1 | ⟨q', h1, h2, h3⟩
      · exact .inl h1
      · refine .inr ⟨q', h1, h2, ?_⟩
        by_cases e' : q' = q
        · subst e'; rw [upd_same]; exact (List.mem_erase_of_ne e).2 h3
        · rw [upd_other _ _ e']; exact h3
  · intro q' hq'
    by_cases e : q' = q
    · subst e; rw [upd_same]; exact (h.nodup q' hq').erase _
    · rw [upd_other _ _ e]; exact h.nodup q' hq'
  · intro q' hq'
    change q' < r.queues at hq'
    change Chain (upd r.A (r.B x) (r.A x)) (upd r.B (r.A x) (r.B x)) (r.items + q') (upd L q ((L q).erase x) q') (r.items + q')
    by_cases e : q' = q
    · subst e
      rw [upd_same]
      obtain ⟨l1, l2, el⟩ := List.append_of_mem hx
      have hc := h.chain q' hq'
      have ho := h.head_out (q' := q') hq'
      have hn := h.nodup q' hq'
      rw [el] at hc ho hn ⊢
      rw [Chain.append] at hc
      simp only [List.mem_append, List.mem_cons, not_or] at ho
      rw [List.nodup_append] at hn
      obtain ⟨n1, n2, n3⟩ := hn
      rw [List.nodup_cons] at n2
      have hx1 : x ∉ l1 := fun hm => n3 x hm x (by simp) rfl
      rw [List.erase_append_right _ hx1, List.erase_cons_head]
      obtain ⟨c1, c2⟩ := hc
      have hlast := c1.last_mem
      cases l2 with
      | nil =>
        rw [c2.1, List.append_nil]
        exact c1.retarget ho.1 n1 ho.1
      | cons y l =>
        obtain ⟨d1, d2, d3⟩ := c2
        rw [d1, Chain.append]
        have hy1 : y ∉ l1 := fun hm => n3 y hm y (by simp) rfl
        simp only [List.mem_cons, not_or, List.nodup_cons] at ho n2
        refine ⟨c1.retarget ho.1 n1 hy1, d3.frame ?_ ⟨Ne.symm ho.2.2.1, n2.2.1⟩⟩
        rcases hlast with ⟨e1, _⟩ | e1
        · rw [e1]; exact ⟨ho.2.2.1, ho.2.2.2⟩
        · exact ⟨fun e2 => hy1 (e2 ▸ e1), fun e2 => n3 _ e1 _ (by simp [e2]) rfl⟩
    · rw [upd_other _ _ e]
      have n1 : r.A x ≠ r.items + q' ∧ r.A x ∉ L q' := by
        rcases hs.1 with e1 | e1
        · rw [e1]; exact ⟨by omega, h.head_out hq'⟩
        · exact ⟨fun e2 => h.head_out hq (e2 ▸ e1), fun e2 => e (h.apart hq' hq e2 e1)⟩
      have n2 : r.B x ≠ r.items + q' ∧ r.B x ∉ L q' := by
        rcases hs.2 with e1 | e1
        · rw [e1]; exact ⟨by omega, h.head_out hq'⟩
        · exact ⟨fun e2 => h.head_out hq (e2 ▸ e1), fun e2 => e (h.apart hq' hq e2 e1)⟩
      exact (h.chain q' hq').frame n1 n2
  · intro q' hq'
    change q' < r.queues at hq'
    change upd r.C q (r.C q - 1) q' = _
    by_cases e : q' = q
    · subst e; rw [upd_same, upd_same, h.count q' hq', List.length_erase_of_mem hx]
    · rw [upd_other _ _ e, upd_other _ _ e]; exact h.count q' hq'

theorem Rep.splice (h : Rep r L) {q g : Nat} (hq : q < r.queues) (hg : g < r.queues) (hne : q ≠ g) (hL : L g ≠ []) :
    Rep (r.splice q g (L g)) (upd (upd L q (L q ++ L g)) g []) := by
  obtain ⟨y, l, hl⟩ : ∃ y l, L g = y :: l := by
    cases e : L g with
    | nil => exact absurd e hL
    | cons y l => exact ⟨y, l, rfl⟩
  have hcg := h.chain g hg
  have hcq := h.chain q hq
  have hlq := h.last_cases hq
  have hog := h.head_out (q' := g) hg
  have hoq := h.head_out (q' := q) hg
  have hng := h.nodup g hg
  have hBg : r.B (r.items + g) = y := by rw [hl] at hcg; exact hcg.1
  have hyg : y ∈ L g := by rw [hl]; simp
  have hAg : r.A (r.items + g) ∈ L g := by
    rcases h.last_cases hg with ⟨_, e⟩ | e
    · exact absurd e hL
    · exact e
  have both : ∀ {x : Nat}, x ∈ L q → x ∉ L g := fun hx hx' => hne (h.apart hq hg hx hx')
  refine ⟨h.items, h.queues, ?_, ?_, ?_, ?_, ?_⟩
  · intro q' hq' x hx
    change q' < r.queues at hq'
    change x < r.items ∧ (if x ∈ L g then (q : Int) else r.Q x) = q'
    by_cases e : q' = g
    · subst e; rw [upd_same] at hx; simp at hx
    · rw [upd_other _ _ e] at hx
      by_cases e' : q' = q
      · subst e'
        rw [upd_same] at hx
        rcases List.mem_append.1 hx with hx | hx
        · rw [if_neg (both hx)]; exact h.inn q' hq' x hx
        · rw [if_pos hx]; exact ⟨(h.inn g hg x hx).1, rfl⟩
      · rw [upd_other _ _ e'] at hx
        rw [if_neg (fun hm => e (h.apart hq' hg hx hm))]
        exact h.inn q' hq' x hx
  · intro x hx
    change x < r.items at hx
    change (if x ∈ L g then (q : Int) else r.Q x) = -1 ∨ ∃ q', q' < r.queues ∧ (if x ∈ L g then (q : Int) else r.Q x) = q' ∧ x ∈ upd (upd L q (L q ++ L g)) g [] q'
    by_cases hm : x ∈ L g
    · right
      exact ⟨q, hq, by rw [if_pos hm], by rw [upd_other _ _ hne, upd_same]; simp [hm]⟩
    · rw [if_neg hm]
      rcases h.out x hx with h1 | ⟨q', h1, h2, h3⟩
      · exact .inl h1
      · refine .inr ⟨q', h1, h2, ?_⟩
        have e : q' ≠ g := fun e => hm (e ▸ h3)
        rw [upd_other _ _ e]
        by_cases e' : q' = q
        · subst e'; rw [upd_same]; simp [h3]
        · rw [upd_other _ _ e']; exact h3
  · intro q' hq'
    by_cases e : q' = g
    · subst e; rw [upd_same]; simp
    · rw [upd_other _ _ e]
      by_cases e' : q' = q
      · subst e'
        rw [upd_same, List.nodup_append]
        exact ⟨h.nodup q' hq', hng, fun a ha b hb e => both ha (e ▸ hb)⟩
      · rw [upd_other _ _ e']; exact h.nodup q' hq'
  · intro q' hq'
    change q' < r.queues at hq'
    change Chain (upd (upd (upd r.A (r.B (r.items + g)) (r.A (r.items + q))) (r.items + q) (r.A (r.items + g))) (r.items + g) (r.items + g))
      (upd (upd (upd r.B (r.A (r.items + q)) (r.B (r.items + g))) (r.A (r.items + g)) (r.items + q)) (r.items + g) (r.items + g)) (r.items + q') (upd (upd L q (L q ++ L g)) g [] q') (r.items + q')
    have n1 : ∀ {p : Nat}, p < r.queues → p ≠ q → r.A (r.items + q) ≠ r.items + p ∧ r.A (r.items + q) ∉ L p := fun {p} hp e => by
      rcases hlq with ⟨e1, _⟩ | e1
      · rw [e1]; exact ⟨by omega, h.head_out hp⟩
      · exact ⟨fun e2 => h.head_out hq (e2 ▸ e1), fun e2 => e (h.apart hp hq e2 e1)⟩
    have n2 : ∀ {p x : Nat}, p < r.queues → p ≠ g → x ∈ L g → x ≠ r.items + p ∧ x ∉ L p := fun {p x} hp e hx =>
      ⟨fun e2 => h.head_out hg (e2 ▸ hx), fun e2 => e (h.apart hp hg e2 hx)⟩
    have n3 : ∀ {p p' : Nat}, p < r.queues → p' ≠ p → r.items + p' ≠ r.items + p ∧ r.items + p' ∉ L p := fun {p p'} hp e => ⟨by omega, h.head_out hp⟩
    by_cases e : q' = g
    · subst e
      rw [upd_same]
      exact ⟨upd_same _ _ _, upd_same _ _ _⟩
    · rw [upd_other _ _ e]
      by_cases e' : q' = q
      · subst e'
        rw [upd_same, hl, Chain.append, hBg]
        have hyq := n2 hq e hyg
        have s1 := hcq.retarget (h.head_out hq) (h.nodup q' hq) hyq.2
        have hcl := hcg
        rw [hl] at hcl
        obtain ⟨d1, d2, d3⟩ := hcl
        have hn := hng
        rw [hl, List.nodup_cons] at hn
        have m1 := n1 hg (Ne.symm e)
        rw [hl] at m1 hog hoq
        simp only [List.mem_cons, not_or] at m1 hog hoq
        have s2 : Chain (upd r.A y (r.A (r.items + q'))) (upd r.B (r.A (r.items + q')) y) y l (r.items + g) := d3.frame ⟨m1.2.1, m1.2.2⟩ ⟨Ne.symm hog.1, hn.1⟩
        have hA2 : upd r.A y (r.A (r.items + q')) (r.items + g) = r.A (r.items + g) := upd_other _ _ hog.1
        have s3 := s2.retarget hn.1 hn.2 hoq.2
        rw [hA2] at s3
        have m2 := n2 hq e hAg
        have m4 := n3 (p := q') (p' := g) hq (Ne.symm e)
        refine ⟨(s1.frame m2 ⟨Ne.symm hyq.1, h.head_out hq⟩).frame m4 ⟨hog.1, m4.2⟩, s3.frame hog ⟨by omega, hog.2⟩⟩
      · rw [upd_other _ _ e', hBg]
        exact (((h.chain q' hq').frame (n1 hq' e') (n2 hq' e hyg)).frame (n2 hq' e hAg) (n3 hq' (Ne.symm e'))).frame (n3 hq' (Ne.symm e)) (n3 hq' (Ne.symm e))
  · intro q' hq'
    change q' < r.queues at hq'
    change upd (upd r.C q (r.C q + r.C g)) g 0 q' = _
    by_cases e : q' = g
    · subst e; rw [upd_same, upd_same]; rfl
    · rw [upd_other _ _ e, upd_other _ _ e]
      by_cases e' : q' = q
      · subst e'; rw [upd_same, upd_same, h.count q' hq', h.count g hg]; simp
      · rw [upd_other _ _ e', upd_other _ _ e']; exact h.count q' hq'

end

/-- New lists, as rings. -/
def Raw.fresh (items queues : Nat) : Raw := ⟨items, queues, fun x => if x < items then -1 else 0, fun x => if x < items then 0 else x, fun x => if x < items then 0 else x, fun _ => 0⟩
theorem Rep.fresh {items queues : Nat} (hi : items ≤ 65536) (hq : queues ≤ 65536) : Rep (Raw.fresh items queues) (fun _ => []) := by
  refine ⟨hi, hq, by simp, ?_, by simp, ?_, by simp [Raw.fresh]⟩
  · intro x hx
    left
    exact if_pos hx
  · intro q _
    have : ¬ items + q < items := by omega
    exact ⟨if_neg this, if_neg this⟩

end Go.Proofs.Ytpfoleaampcibaa
