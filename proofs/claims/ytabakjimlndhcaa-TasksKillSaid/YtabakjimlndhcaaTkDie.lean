/-
  To die by recursion: it ends with all dead that stands below, whatever the fuel, if it is enough; and the list of those that wait to die comes to the same. No walk, no conditions.
-/
import Derived.Test.YtabakjimlndhcaaTkModel
namespace Go.Proofs.Ytabakjimlndhcaa

section
variable {n p q j f f' : Nat} {c : Int} {T T' T'' : Nat → Tk} {o o' l : List Nat}
theorem Ends.live_le (h : Ends n c T o T') : liveN T' n ≤ liveN T n := by have := h.live; omega
theorem live_pos (hp : p < n) (ha : (T p).st ≠ 2) : 1 ≤ liveN T n := by have := live_end (c := 0) hp ha; omega
theorem meas_kid {L : Nat} (hL : liveN T n ≤ L) (hq : p < q) (hqn : q < n) (h : L * (n + 1) + (n - p) < f + 1) : meas n T q < f := by
  unfold meas
  have : liveN T n * (n + 1) ≤ L * (n + 1) := Nat.mul_le_mul_right _ hL
  omega
theorem meas_crit {L : Nat} (hL : liveN T n + 1 ≤ L) (h : L * (n + 1) + (n - p) < f + 1) : meas n T q < f := by
  unfold meas
  have : (liveN T n + 1) * (n + 1) ≤ L * (n + 1) := Nat.mul_le_mul_right _ hL
  rw [Nat.add_mul] at this
  omega
theorem kid_gt (h : DOK n T) (hj : j < n) (he : (T j).par = (p : Int) + 1) : p < j := by have := h.par j hj; omega
/-- Behind enough fuel: some died, and the one that was asked is dead. -/
theorem dieF_ends (n : Nat) (c : Int) : ∀ (f : Nat) (T : Nat → Tk) (p : Nat), DOK n T → p < n → meas n T p < f → Ends n c T (dieF n c f T p).2 (dieF n c f T p).1 ∧ ((dieF n c f T p).1 p).st = 2
  | 0, _, _, _, _, h => absurd h (Nat.not_lt_zero _)
  | f + 1, T, p, hT, hp, hm => by
    have ih := dieF_ends n c f
    rw [dieF]
    by_cases hd : (T p).st = 2
    · rw [if_pos hd]; exact ⟨.nil _, hd⟩
    rw [if_neg hd]
    have hk : ∀ (l : List Nat) (T1 : Nat → Tk), DOK n T1 → liveN T1 n ≤ liveN T n → (∀ q, q ∈ l → p < q ∧ q < n) →
        Ends n c T1 (kids (dieF n c f) l T1).2 (kids (dieF n c f) l T1).1 ∧ ∀ q, q ∈ l → ((kids (dieF n c f) l T1).1 q).st = 2 := by
      intro l
      induction l with
      | nil => exact fun T1 _ _ _ => ⟨.nil _, fun q hq => (List.not_mem_nil hq).elim⟩
      | cons x l ihl =>
        intro T1 h1 h2 h3
        obtain ⟨hx, hxn⟩ := h3 x List.mem_cons_self
        obtain ⟨a, b⟩ := ih T1 x h1 hxn (meas_kid h2 hx hxn hm)
        obtain ⟨a2, b2⟩ := ihl _ (a.ok h1) (Nat.le_trans a.live_le h2) (fun q hq => h3 q (List.mem_cons_of_mem _ hq))
        rw [kids]
        refine ⟨a.app a2, fun q hq => ?_⟩
        rcases List.mem_cons.1 hq with rfl | hq
        · exact a2.dead b
        · exact b2 q hq
    obtain ⟨h1, h2⟩ := hk (kidL T n p) T hT (Nat.le_refl _) (fun q hq => ⟨kid_gt hT (mem_kidL.1 hq).1 (mem_kidL.1 hq).2, (mem_kidL.1 hq).1⟩)
    generalize hr : kids (dieF n c f) (kidL T n p) T = r at h1 h2
    unfold ends
    by_cases hd2 : (r.1 p).st = 2
    · rw [if_pos hd2]; exact ⟨h1, hd2⟩
    rw [if_neg hd2]
    have h3 : Ends n c r.1 [p] (endT r.1 c p) := .one hp hd2 (fun j hj he => h2 j (mem_kidL.2 ⟨hj, by rw [← (h1.fields j).1]; exact he⟩))
    have h4 := h1.app h3
    by_cases hc : (T p).crit = 0
    · rw [if_pos hc]; exact ⟨h4, by show (endT r.1 c p p).st = 2; rw [endT_same]; rfl⟩
    rw [if_neg hc]
    have hcr := hT.crit p hp
    have h5 := h3.live
    obtain ⟨a, b⟩ := ih (endT r.1 c p) ((T p).crit.toNat - 1) (h4.ok hT) (by omega) (meas_crit (L := liveN T n) (by have := h1.live_le; simp at h5; omega) hm)
    refine ⟨h4.app a, a.dead (by rw [endT_same]; rfl)⟩
/-- The fuel does not matter, if it is enough. -/
theorem dieF_same (n : Nat) (c : Int) : ∀ (f f' : Nat) (T : Nat → Tk) (p : Nat), DOK n T → p < n → meas n T p < f → meas n T p < f' → dieF n c f T p = dieF n c f' T p
  | 0, _, _, _, _, _, h, _ => absurd h (Nat.not_lt_zero _)
  | _ + 1, 0, _, _, _, _, _, h => absurd h (Nat.not_lt_zero _)
  | f + 1, f' + 1, T, p, hT, hp, hm, hm' => by
    have ih := dieF_same n c f
    have hk : ∀ (l : List Nat) (T1 : Nat → Tk), DOK n T1 → liveN T1 n ≤ liveN T n → (∀ q, q ∈ l → p < q ∧ q < n) → kids (dieF n c f) l T1 = kids (dieF n c f') l T1 ∧ Ends n c T1 (kids (dieF n c f) l T1).2 (kids (dieF n c f) l T1).1 ∧ ∀ q, q ∈ l → ((kids (dieF n c f) l T1).1 q).st = 2 := by
      intro l
      induction l with
      | nil => exact fun T1 _ _ _ => ⟨rfl, .nil _, fun q hq => (List.not_mem_nil hq).elim⟩
      | cons x l ihl =>
        intro T1 h1 h2 h3
        obtain ⟨hx, hxn⟩ := h3 x List.mem_cons_self
        obtain ⟨a, b⟩ := dieF_ends n c f T1 x h1 hxn (meas_kid h2 hx hxn hm)
        obtain ⟨a1, a2, b2⟩ := ihl _ (a.ok h1) (Nat.le_trans a.live_le h2) (fun q hq => h3 q (List.mem_cons_of_mem _ hq))
        have e := ih f' T1 x h1 hxn (meas_kid h2 hx hxn hm) (meas_kid h2 hx hxn hm')
        refine ⟨?_, ?_, ?_⟩
        · rw [kids, kids, ← e, ← a1]
        · rw [kids]; exact a.app a2
        · rw [kids]
          intro q hq
          rcases List.mem_cons.1 hq with rfl | hq
          · exact a2.dead b
          · exact b2 q hq
    obtain ⟨h0, h1, h2⟩ := hk (kidL T n p) T hT (Nat.le_refl _) (fun q hq => ⟨kid_gt hT (mem_kidL.1 hq).1 (mem_kidL.1 hq).2, (mem_kidL.1 hq).1⟩)
    rw [dieF, dieF]
    by_cases hd : (T p).st = 2
    · rw [if_pos hd, if_pos hd]
    rw [if_neg hd, if_neg hd, ← h0]
    generalize hr : kids (dieF n c f) (kidL T n p) T = r at h1 h2
    unfold ends
    by_cases hd2 : (r.1 p).st = 2
    · rw [if_pos hd2, if_pos hd2]
    rw [if_neg hd2, if_neg hd2]
    by_cases hc : (T p).crit = 0
    · rw [if_pos hc, if_pos hc]
    rw [if_neg hc, if_neg hc]
    have h3 : Ends n c r.1 [p] (endT r.1 c p) := .one hp hd2 (fun j hj he => h2 j (mem_kidL.2 ⟨hj, by rw [← (h1.fields j).1]; exact he⟩))
    have hcr := hT.crit p hp
    have h5 := h3.live
    have hl : liveN (endT r.1 c p) n + 1 ≤ liveN T n := by have := h1.live_le; simp at h5; omega
    rw [ih f' (endT r.1 c p) ((T p).crit.toNat - 1) ((h1.app h3).ok hT) (by omega) (meas_crit hl hm) (meas_crit hl hm')]
theorem die_ends (hT : DOK n T) (hp : p < n) (c : Int) : Ends n c T (die n c T p).2 (die n c T p).1 ∧ ((die n c T p).1 p).st = 2 := dieF_ends n c _ T p hT hp (Nat.lt_succ_self _)
theorem die_dead (h : (T p).st = 2) (n : Nat) (c : Int) : die n c T p = (T, []) := by unfold die; rw [dieF, if_pos h]
/-- What goes through a list by dying. -/
theorem kids_ends (c : Int) : ∀ (l : List Nat) (T : Nat → Tk), DOK n T → (∀ q, q ∈ l → q < n) → Ends n c T (kids (die n c) l T).2 (kids (die n c) l T).1 ∧ ∀ q, q ∈ l → ((kids (die n c) l T).1 q).st = 2
  | [], T, _, _ => ⟨.nil _, fun q hq => (List.not_mem_nil hq).elim⟩
  | x :: l, T, hT, hl => by
    obtain ⟨a, b⟩ := die_ends hT (hl x List.mem_cons_self) c
    obtain ⟨a2, b2⟩ := kids_ends c l _ (a.ok hT) (fun q hq => hl q (List.mem_cons_of_mem _ hq))
    rw [kids]
    refine ⟨a.app a2, fun q hq => ?_⟩
    rcases List.mem_cons.1 hq with rfl | hq
    · exact a2.dead b
    · exact b2 q hq
theorem kids_fuel (c : Int) (L : Nat) (hf : L * (n + 1) + (n - p) < f + 1) : ∀ (l : List Nat) (T : Nat → Tk), DOK n T → liveN T n ≤ L → (∀ q, q ∈ l → p < q ∧ q < n) → kids (dieF n c f) l T = kids (die n c) l T
  | [], _, _, _, _ => rfl
  | x :: l, T, hT, hL, hl => by
    obtain ⟨hx, hxn⟩ := hl x List.mem_cons_self
    have e : dieF n c f T x = die n c T x := dieF_same n c _ _ T x hT hxn (meas_kid hL hx hxn hf) (Nat.lt_succ_self _)
    obtain ⟨a, _⟩ := die_ends hT hxn c
    rw [kids, kids, e, kids_fuel c L hf l _ (a.ok hT) (Nat.le_trans a.live_le hL) (fun q hq => hl q (List.mem_cons_of_mem _ hq))]
theorem die_eq (hT : DOK n T) (hp : p < n) (c : Int) : die n c T p = if (T p).st = 2 then (T, []) else ends c (die n c) T p (kids (die n c) (kidL T n p) T) := by
  have hkl : ∀ q, q ∈ kidL T n p → p < q ∧ q < n := fun q hq => ⟨kid_gt hT (mem_kidL.1 hq).1 (mem_kidL.1 hq).2, (mem_kidL.1 hq).1⟩
  have hm : liveN T n * (n + 1) + (n - p) < meas n T p + 1 := Nat.lt_succ_self _
  conv => lhs; unfold die; rw [dieF]
  rw [kids_fuel c (liveN T n) hm (kidL T n p) T hT (Nat.le_refl _) hkl]
  by_cases hd : (T p).st = 2
  · rw [if_pos hd, if_pos hd]
  rw [if_neg hd, if_neg hd]
  obtain ⟨h1, h2⟩ := kids_ends c (kidL T n p) T hT (fun q hq => (hkl q hq).2)
  generalize kids (die n c) (kidL T n p) T = r at h1 h2
  unfold ends
  by_cases hd2 : (r.1 p).st = 2
  · rw [if_pos hd2, if_pos hd2]
  rw [if_neg hd2, if_neg hd2]
  by_cases hc : (T p).crit = 0
  · rw [if_pos hc, if_pos hc]
  rw [if_neg hc, if_neg hc]
  have h3 : Ends n c r.1 [p] (endT r.1 c p) := .one hp hd2 (fun j hj he => h2 j (mem_kidL.2 ⟨hj, by rw [← (h1.fields j).1]; exact he⟩))
  have hcr := hT.crit p hp
  have h5 := h3.live
  have hl : liveN (endT r.1 c p) n + 1 ≤ liveN T n := by have := h1.live_le; simp at h5; omega
  have e : dieF n c (meas n T p) (endT r.1 c p) ((T p).crit.toNat - 1) = die n c (endT r.1 c p) ((T p).crit.toNat - 1) := dieF_same n c _ _ _ _ ((h1.app h3).ok hT) (by omega) (meas_crit hl hm) (Nat.lt_succ_self _)
  rw [e]
/-- Nothing alive in a list: nothing dies by it. -/
theorem kids_dead (n : Nat) (c : Int) : ∀ (l : List Nat) (T : Nat → Tk), (∀ q, q ∈ l → (T q).st = 2) → kids (die n c) l T = (T, [])
  | [], _, _ => rfl
  | x :: l, T, h => by
    rw [kids, die_dead (h x List.mem_cons_self), kids_dead n c l T (fun q hq => h q (List.mem_cons_of_mem _ hq))]
    rfl
theorem kids_app (g : (Nat → Tk) → Nat → (Nat → Tk) × List Nat) : ∀ (A B : List Nat) (T : Nat → Tk), kids g (A ++ B) T = ((kids g B (kids g A T).1).1, (kids g A T).2 ++ (kids g B (kids g A T).1).2)
  | [], B, T => rfl
  | x :: A, B, T => by
    rw [List.cons_append, kids, kids_app g A B, kids]
    simp
/-- The list of those that wait to die, each ahead of the one behind it. -/
def drain (n : Nat) (c : Int) : List Nat → (Nat → Tk) → List Nat → (Nat → Tk) × List Nat
  | [], T, o => (T, o)
  | p :: W, T, o => drain n c W (die n c T p).1 (o ++ (die n c T p).2)
theorem drain_one (n : Nat) (c : Int) (T : Nat → Tk) (p : Nat) (o : List Nat) : drain n c [p] T o = ((die n c T p).1, o ++ (die n c T p).2) := rfl
theorem drain_dead (n : Nat) (c : Int) (W : List Nat) (T : Nat → Tk) (o : List Nat) (h : (T p).st = 2) : drain n c (p :: W) T o = drain n c W T o := by
  rw [drain, die_dead h]
  simp
/-- The first that is alive below p goes ahead. -/
theorem drain_push (hT : DOK n T) (hp : p < n) (c : Int) (W o : List Nat) {A B : List Nat} (he : kidL T n p = A ++ q :: B) (hA : ∀ j, j ∈ A → (T j).st = 2) : drain n c (p :: W) T o = drain n c (q :: p :: W) T o := by
  by_cases hd : (T p).st = 2
  · have hq := mem_kidL.1 (show q ∈ kidL T n p by rw [he]; simp)
    have := hT.down q p hq.1 hp hq.2 hd
    rw [drain_dead _ _ _ _ _ this]
  have hq := mem_kidL.1 (show q ∈ kidL T n p by rw [he]; simp)
  obtain ⟨hE, hqd⟩ := die_ends hT hq.1 c
  rw [drain, drain, drain]
  generalize hr : die n c T q = r at hE hqd
  have h1 : kids (die n c) (kidL T n p) T = ((kids (die n c) B r.1).1, r.2 ++ (kids (die n c) B r.1).2) := by
    rw [he, kids_app, kids_dead n c A T hA]
    simp only [List.nil_append]
    rw [kids, hr]
  have hk : ∀ j, j ∈ B → j < n ∧ (T j).par = (p : Int) + 1 := fun j hj => mem_kidL.1 (by rw [he]; simp [hj])
  have hr1 := hE.ok hT
  by_cases hd2 : (r.1 p).st = 2
  · have hB : kids (die n c) B r.1 = (r.1, []) := kids_dead n c B r.1 (fun j hj => hr1.down j p (hk j hj).1 hp (by rw [(hE.fields j).1]; exact (hk j hj).2) hd2)
    have : die n c T p = r := by
      rw [die_eq hT hp, if_neg hd, h1, hB]
      unfold ends
      rw [if_pos hd2]
      simp
    rw [this, die_dead hd2]
    simp
  · have h2 : kids (die n c) (kidL r.1 n p) r.1 = kids (die n c) B r.1 := by
      rw [hE.kidL, he, kids_app, kids_dead n c A r.1 (fun j hj => hE.dead (hA j hj))]
      simp only [List.nil_append]
      rw [kids, die_dead hqd]
      simp
    have h3 : die n c T p = ((die n c r.1 p).1, r.2 ++ (die n c r.1 p).2) := by
      rw [die_eq hT hp, if_neg hd, die_eq hr1 hp, if_neg hd2, h1, h2]
      unfold ends
      rw [(hE.fields p).2.1]
      by_cases hd3 : ((kids (die n c) B r.1).1 p).st = 2
      · rw [if_pos hd3, if_pos hd3]
      · rw [if_neg hd3, if_neg hd3]
        by_cases hc : (T p).crit = 0
        · rw [if_pos hc, if_pos hc]; simp
        · rw [if_neg hc, if_neg hc]; simp
    rw [h3]
    simp
/-- One with nothing alive below it dies, and then the job to which it is critical. -/
theorem die_leaf (hT : DOK n T) (hp : p < n) (ha : (T p).st ≠ 2) (hk : ∀ j, j < n → (T j).par = (p : Int) + 1 → (T j).st = 2) (c : Int) :
    die n c T p = if (T p).crit = 0 then (endT T c p, [p]) else ((die n c (endT T c p) ((T p).crit.toNat - 1)).1, p :: (die n c (endT T c p) ((T p).crit.toNat - 1)).2) := by
  rw [die_eq hT hp, if_neg ha, kids_dead n c _ T (fun q hq => hk q (mem_kidL.1 hq).1 (mem_kidL.1 hq).2)]
  unfold ends
  rw [if_neg ha]
  rfl
/-- Whether there is a job that dies with it. -/
def critP (T : Nat → Tk) (p : Nat) : Prop := (T p).crit ≠ 0 ∧ (T ((T p).crit.toNat - 1)).st ≠ 2
theorem drain_leaf (hT : DOK n T) (hp : p < n) (ha : (T p).st ≠ 2) (hk : ∀ j, j < n → (T j).par = (p : Int) + 1 → (T j).st = 2) (c : Int) (W o : List Nat) :
    (critP (endT T c p) p → drain n c (p :: W) T o = drain n c (((T p).crit.toNat - 1) :: W) (endT T c p) (o ++ [p])) ∧ (¬ critP (endT T c p) p → drain n c (p :: W) T o = drain n c W (endT T c p) (o ++ [p])) := by
  have e := die_leaf hT hp ha hk c
  have ec := (endT_par T c p p).2.1
  refine ⟨fun h => ?_, fun h => ?_⟩
  · unfold critP at h
    rw [ec] at h
    rw [drain, e, if_neg h.1, drain]
    simp
  · unfold critP at h
    rw [ec] at h
    rw [drain, e]
    by_cases hc : (T p).crit = 0
    · rw [if_pos hc]
    · rw [if_neg hc, die_dead (show (endT T c p ((T p).crit.toNat - 1)).st = 2 by simpa [hc] using h)]
/-- A measure of the list of those that wait. -/
def topM (n : Nat) (T : Nat → Tk) : List Nat → Nat
  | [] => 0
  | p :: _ => if (T p).st = 2 then 2 * n + 2 else 2 * (n - p)
def workM (n : Nat) (T : Nat → Tk) (W : List Nat) : Nat := liveN T n * (2 * n + 4) + W.length + topM n T W
theorem topM_cons (n : Nat) (T : Nat → Tk) (p : Nat) (W : List Nat) : topM n T (p :: W) = if (T p).st = 2 then 2 * n + 2 else 2 * (n - p) := rfl
theorem topM_le (n : Nat) (T : Nat → Tk) (W : List Nat) : topM n T W ≤ 2 * n + 2 := by
  cases W with
  | nil => exact Nat.zero_le _
  | cons p W => rw [topM_cons]; split <;> omega
theorem workM_push (hqa : (T q).st ≠ 2) (hpa : (T p).st ≠ 2) (hpq : p < q) (hqn : q < n) (W : List Nat) : workM n T (q :: p :: W) < workM n T (p :: W) := by
  unfold workM
  rw [topM_cons, topM_cons, if_neg hqa, if_neg hpa]
  simp only [List.length_cons]
  omega
theorem workM_dead (hp : (T p).st = 2) (W : List Nat) : workM n T W < workM n T (p :: W) := by
  have := topM_le n T W
  unfold workM
  rw [show topM n T (p :: W) = 2 * n + 2 by rw [topM_cons, if_pos hp]]
  simp only [List.length_cons]
  omega
theorem workM_end (hp : p < n) (ha : (T p).st ≠ 2) (c : Int) (W W' : List Nat) (hW : W'.length ≤ W.length + 1) : workM n (endT T c p) W' < workM n T (p :: W) := by
  have h1 := topM_le n (endT T c p) W'
  have h2 := live_end hp ha c
  unfold workM
  rw [← h2, Nat.add_mul]
  simp only [List.length_cons]
  omega
end
end Go.Proofs.Ytabakjimlndhcaa
