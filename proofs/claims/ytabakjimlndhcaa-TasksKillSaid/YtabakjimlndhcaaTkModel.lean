/-
  A tree of tasks as plain data: what it is to die, in order, and what is so behind it. No walk, no conditions.
-/
import Derived.Test.YtabakjimlndhcaaPVal
namespace Go.Proofs.Ytabakjimlndhcaa

structure Tk where
  kind : Int
  par : Int
  st : Int
  code : Int
  pol : Int
  crit : Int
def Tk.dead (t : Tk) (c : Int) : Tk := { t with st := 2, code := c }
def setT (T : Nat → Tk) (p : Nat) (t : Tk) : Nat → Tk := fun j => if j = p then t else T j
def endT (T : Nat → Tk) (c : Int) (p : Nat) : Nat → Tk := setT T p ((T p).dead c)
/-- The places of those that stand directly below place p. -/
def kidL (T : Nat → Tk) (n p : Nat) : List Nat := (List.range n).filter (fun j => decide ((T j).par = (p : Int) + 1))
def aliveB (t : Tk) : Bool := decide (t.st ≠ 2)
def liveN (T : Nat → Tk) (n : Nat) : Nat := (List.range n).countP (fun j => aliveB (T j))
def liveK (T : Nat → Tk) (n p : Nat) : Nat := (kidL T n p).countP (fun j => aliveB (T j))
/-- What goes through a list, one behind the other. -/
def kids (g : (Nat → Tk) → Nat → (Nat → Tk) × List Nat) : List Nat → (Nat → Tk) → (Nat → Tk) × List Nat
  | [], T => (T, [])
  | q :: l, T => ((kids g l (g T q).1).1, (g T q).2 ++ (kids g l (g T q).1).2)
def ends (c : Int) (g : (Nat → Tk) → Nat → (Nat → Tk) × List Nat) (T : Nat → Tk) (p : Nat) (r : (Nat → Tk) × List Nat) : (Nat → Tk) × List Nat :=
  if (r.1 p).st = 2 then r else
  if (T p).crit = 0 then (endT r.1 c p, r.2 ++ [p]) else
  ((g (endT r.1 c p) ((T p).crit.toNat - 1)).1, r.2 ++ [p] ++ (g (endT r.1 c p) ((T p).crit.toNat - 1)).2)
def dieF (n : Nat) (c : Int) : Nat → (Nat → Tk) → Nat → (Nat → Tk) × List Nat
  | 0, T, _ => (T, [])
  | f + 1, T, p => if (T p).st = 2 then (T, []) else ends c (dieF n c f) T p (kids (dieF n c f) (kidL T n p) T)
def meas (n : Nat) (T : Nat → Tk) (p : Nat) : Nat := liveN T n * (n + 1) + (n - p)
def die (n : Nat) (c : Int) (T : Nat → Tk) (p : Nat) : (Nat → Tk) × List Nat := dieF n c (meas n T p + 1) T p

/-- What holds of a tree's parents and of who is critical to whom. -/
structure DOK (n : Nat) (T : Nat → Tk) : Prop where
  par : ∀ j, j < n → 0 ≤ (T j).par ∧ (T j).par ≤ j
  crit : ∀ j, j < n → 0 ≤ (T j).crit ∧ (T j).crit ≤ n
  down : ∀ j i, j < n → i < n → (T j).par = (i : Int) + 1 → (T i).st = 2 → (T j).st = 2
/-- Some have died one behind the other, each with nothing alive below it. -/
inductive Ends (n : Nat) (c : Int) : (Nat → Tk) → List Nat → (Nat → Tk) → Prop
  | nil (T : Nat → Tk) : Ends n c T [] T
  | cons (T : Nat → Tk) (p : Nat) (o : List Nat) (T' : Nat → Tk) : p < n → (T p).st ≠ 2 → (∀ j, j < n → (T j).par = (p : Int) + 1 → (T j).st = 2) → Ends n c (endT T c p) o T' → Ends n c T (p :: o) T'

section
variable {n p q j : Nat} {c : Int} {T T' T'' : Nat → Tk} {o o' l : List Nat}
theorem setT_same (T : Nat → Tk) (p : Nat) (t : Tk) : setT T p t p = t := by simp [setT]
theorem setT_other (T : Nat → Tk) {p j : Nat} (t : Tk) (h : j ≠ p) : setT T p t j = T j := by simp [setT, h]
theorem endT_same (T : Nat → Tk) (c : Int) (p : Nat) : endT T c p p = (T p).dead c := setT_same _ _ _
theorem endT_other (T : Nat → Tk) (c : Int) {p j : Nat} (h : j ≠ p) : endT T c p j = T j := setT_other _ _ h
theorem endT_par (T : Nat → Tk) (c : Int) (p j : Nat) : (endT T c p j).par = (T j).par ∧ (endT T c p j).crit = (T j).crit ∧ (endT T c p j).kind = (T j).kind ∧ (endT T c p j).pol = (T j).pol := by
  by_cases h : j = p
  · subst h; rw [endT_same]; exact ⟨rfl, rfl, rfl, rfl⟩
  · rw [endT_other _ _ h]; exact ⟨rfl, rfl, rfl, rfl⟩
theorem endT_dead (T : Nat → Tk) (c : Int) (p j : Nat) : (endT T c p j).st = 2 ↔ (j = p ∨ (T j).st = 2) := by
  by_cases h : j = p
  · subst h; rw [endT_same]; simp [Tk.dead]
  · rw [endT_other _ _ h]; simp [h]
theorem mem_kidL : j ∈ kidL T n p ↔ j < n ∧ (T j).par = (p : Int) + 1 := by simp [kidL]
theorem kidL_congr (h : ∀ j, (T' j).par = (T j).par) (n p : Nat) : kidL T' n p = kidL T n p := by
  unfold kidL
  exact List.filter_congr (fun j _ => by rw [h])
theorem live_end (hp : p < n) (ha : (T p).st ≠ 2) (c : Int) : liveN (endT T c p) n + 1 = liveN T n := by
  have key : ∀ l : List Nat, l.Nodup → (l.countP (fun j => aliveB (endT T c p j))) + (if p ∈ l then 1 else 0) = l.countP (fun j => aliveB (T j)) := by
    intro l hl
    induction l with
    | nil => simp
    | cons x l ih =>
      obtain ⟨h1, h2⟩ := List.nodup_cons.1 hl
      have := ih h2
      rw [List.countP_cons, List.countP_cons]
      by_cases hx : x = p
      · subst hx
        rw [if_neg h1] at this
        rw [if_pos List.mem_cons_self]
        have e1 : aliveB (endT T c x x) = false := by rw [endT_same]; rfl
        have e2 : aliveB (T x) = true := by simpa [aliveB] using ha
        rw [e1, e2]
        simp
        omega
      · rw [endT_other _ _ hx]
        have : (p ∈ x :: l) ↔ p ∈ l := by simp [Ne.symm hx]
        simp only [this]
        omega
  have h := key (List.range n) List.nodup_range
  rw [if_pos (List.mem_range.2 hp)] at h
  exact h
theorem live_kid_end (hp : p ∈ kidL T n q) (ha : (T p).st ≠ 2) (c : Int) : liveK (endT T c p) n q + 1 = liveK T n q := by
  have key : ∀ l : List Nat, l.Nodup → (l.countP (fun j => aliveB (endT T c p j))) + (if p ∈ l then 1 else 0) = l.countP (fun j => aliveB (T j)) := by
    intro l hl
    induction l with
    | nil => simp
    | cons x l ih =>
      obtain ⟨h1, h2⟩ := List.nodup_cons.1 hl
      have := ih h2
      rw [List.countP_cons, List.countP_cons]
      by_cases hx : x = p
      · subst hx
        rw [if_neg h1] at this
        rw [if_pos List.mem_cons_self]
        have e1 : aliveB (endT T c x x) = false := by rw [endT_same]; rfl
        have e2 : aliveB (T x) = true := by simpa [aliveB] using ha
        rw [e1, e2]
        simp
        omega
      · rw [endT_other _ _ hx]
        have : (p ∈ x :: l) ↔ p ∈ l := by simp [Ne.symm hx]
        simp only [this]
        omega
  unfold liveK
  rw [kidL_congr (fun j => (endT_par T c p j).1)]
  have h := key (kidL T n q) (List.nodup_range.filter _)
  rwa [if_pos hp] at h
theorem live_kid_other (hp : p ∉ kidL T n q) (c : Int) : liveK (endT T c p) n q = liveK T n q := by
  unfold liveK
  rw [kidL_congr (fun j => (endT_par T c p j).1)]
  exact List.countP_congr (fun j hj => by rw [endT_other T c (fun e => hp (by rw [← e]; exact hj))])
theorem DOK.end (h : DOK n T) (hp : p < n) (hk : ∀ j, j < n → (T j).par = (p : Int) + 1 → (T j).st = 2) : DOK n (endT T c p) := by
  refine ⟨fun j hj => ?_, fun j hj => ?_, fun j i hj hi he hd => ?_⟩
  · rw [(endT_par T c p j).1]; exact h.par j hj
  · rw [(endT_par T c p j).2.1]; exact h.crit j hj
  · rw [(endT_par T c p j).1] at he
    rw [endT_dead] at hd ⊢
    rcases hd with rfl | hd
    · exact .inr (hk j hj he)
    · exact .inr (h.down j i hj hi he hd)
theorem Ends.app (h : Ends n c T o T') : Ends n c T' o' T'' → Ends n c T (o ++ o') T'' := by
  induction h with
  | nil T => exact id
  | cons T p o T' h1 h2 h3 _ ih => exact fun h => .cons _ _ _ _ h1 h2 h3 (ih h)
theorem Ends.one (hp : p < n) (ha : (T p).st ≠ 2) (hk : ∀ j, j < n → (T j).par = (p : Int) + 1 → (T j).st = 2) : Ends n c T [p] (endT T c p) := .cons _ _ _ _ hp ha hk (.nil _)
theorem Ends.ok (h : Ends n c T o T') : DOK n T → DOK n T' := by
  induction h with
  | nil T => exact id
  | cons T p o T' h1 h2 h3 _ ih => exact fun h => ih (h.end h1 h3)
theorem Ends.fields (h : Ends n c T o T') : ∀ j, (T' j).par = (T j).par ∧ (T' j).crit = (T j).crit ∧ (T' j).kind = (T j).kind ∧ (T' j).pol = (T j).pol := by
  induction h with
  | nil T => exact fun j => ⟨rfl, rfl, rfl, rfl⟩
  | cons T p o T' h1 h2 h3 _ ih =>
    intro j
    have a := ih j
    have b := endT_par T c p j
    exact ⟨a.1.trans b.1, a.2.1.trans b.2.1, a.2.2.1.trans b.2.2.1, a.2.2.2.trans b.2.2.2⟩
theorem Ends.kidL (h : Ends n c T o T') (p : Nat) : kidL T' n p = kidL T n p := kidL_congr (fun j => (h.fields j).1) n p
/-- Who died is dead with the code, and was alive; all else is as it was. -/
theorem Ends.what (h : Ends n c T o T') : (∀ j, j ∈ o → j < n ∧ (T j).st ≠ 2 ∧ T' j = (T j).dead c) ∧ (∀ j, j ∉ o → T' j = T j) ∧ o.Nodup := by
  induction h with
  | nil T => exact ⟨fun j hj => (List.not_mem_nil hj).elim, fun _ _ => rfl, List.nodup_nil⟩
  | cons T p o T' h1 h2 h3 hE ih =>
    obtain ⟨a, b, d⟩ := ih
    have hpo : p ∉ o := fun hp => by
      have := (a p hp).2.1
      rw [endT_same] at this
      exact this rfl
    refine ⟨fun j hj => ?_, fun j hj => ?_, List.nodup_cons.2 ⟨hpo, d⟩⟩
    · rcases List.mem_cons.1 hj with rfl | hj
      · rw [b j hpo, endT_same]
        exact ⟨h1, h2, rfl⟩
      · have hne : j ≠ p := fun e => hpo (e ▸ hj)
        have := a j hj
        rwa [endT_other _ _ hne] at this
    · have hne : j ≠ p := fun e => hj (e ▸ List.mem_cons_self)
      rw [b j (fun h => hj (List.mem_cons_of_mem _ h)), endT_other _ _ hne]
theorem Ends.dead (h : Ends n c T o T') (hd : (T j).st = 2) : (T' j).st = 2 := by
  by_cases hj : j ∈ o
  · rw [(h.what.1 j hj).2.2]; rfl
  · rw [h.what.2.1 j hj]; exact hd
theorem Ends.live (h : Ends n c T o T') : liveN T' n + o.length = liveN T n := by
  induction h with
  | nil T => rfl
  | cons T p o T' h1 h2 h3 _ ih =>
    have := live_end h1 h2 c
    simp only [List.length_cons]
    omega
/-- What stands below another that died, too, died ahead of it. -/
theorem Ends.order (h : Ends n c T o T') : ∀ a p b, o = a ++ p :: b → ∀ q, q ∈ b → (T q).par ≠ (p : Int) + 1 := by
  induction h with
  | nil T => intro a p b h; cases a <;> cases h
  | cons T x o T' h1 h2 h3 hE ih =>
    intro a p b he q hq hpar
    cases a with
    | nil =>
      obtain ⟨rfl, rfl⟩ := List.cons.inj he
      have h5 := hE.what.1 q hq
      have h6 := h3 q h5.1 hpar
      exact h5.2.1 ((endT_dead T c x q).2 (.inr h6))
    | cons y a =>
      obtain ⟨rfl, rfl⟩ := List.cons.inj he
      exact ih a p b rfl q hq (by rw [(endT_par T c x q).1]; exact hpar)
end
end Go.Proofs.Ytabakjimlndhcaa
