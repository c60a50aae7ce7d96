/-
  What a cut leaves at each number, as plain data: a part of a piece keeps its object, its offset and its protection. No conditions.
-/
import Derived.Test.YtdddmjdlikjedaaGRun
namespace Go.Proofs.Ytdddmjdlikjedaa
open Go.ChangeShapes Go.WideShapes Go.ChangeAt Go.RowKit

/-- What stays of a piece when it is cut: its object, where its numbers lie in it, its protection. -/
def Pc.key (p : Pc) : Int × Int × Int := (p.vmo, p.from' - p.at', p.prot)
/-- What is mapped at a number. -/
def Vw (l : List Pc) (y : Int) (t : Int × Int × Int) : Prop := ∃ p ∈ l, p.at' ≤ y ∧ y < p.fin ∧ p.key = t
section
variable {l m : List Pc} {y x n size : Int} {t u : Int × Int × Int} {k b : Nat} {p q : Pc}
theorem vw_nil : ¬ Vw [] y t := by rintro ⟨p, h, _⟩; cases h
theorem vw_app : Vw (l ++ m) y t ↔ Vw l y t ∨ Vw m y t := by
  unfold Vw
  simp only [List.mem_append]
  constructor
  · rintro ⟨p, h | h, h2⟩
    · exact .inl ⟨p, h, h2⟩
    · exact .inr ⟨p, h, h2⟩
  · rintro (⟨p, h, h2⟩ | ⟨p, h, h2⟩)
    · exact ⟨p, .inl h, h2⟩
    · exact ⟨p, .inr h, h2⟩
theorem vw_perm (h : l.Perm m) : Vw l y t ↔ Vw m y t := by unfold Vw; simp only [h.mem_iff]
theorem vw_one : Vw [p] y t ↔ p.at' ≤ y ∧ y < p.fin ∧ p.key = t := by unfold Vw; simp
theorem vw_flat {f : Pc → List Pc} : Vw (l.flatMap f) y t ↔ ∃ p ∈ l, Vw (f p) y t := by
  unfold Vw
  simp only [List.mem_flatMap]
  constructor
  · rintro ⟨p, ⟨q, h1, h2⟩, h3⟩; exact ⟨q, h1, p, h2, h3⟩
  · rintro ⟨q, h1, p, h2, h3⟩; exact ⟨p, ⟨q, h1, h2⟩, h3⟩
theorem vw_map {f : Pc → Pc} : Vw (l.map f) y t ↔ ∃ p ∈ l, Vw [f p] y t := by
  unfold Vw
  simp only [List.mem_map]
  constructor
  · rintro ⟨p, ⟨q, h1, rfl⟩, h3⟩; exact ⟨q, h1, f q, by simp, h3⟩
  · rintro ⟨q, h1, p, h2, h3⟩
    rw [List.mem_singleton] at h2
    subst h2
    exact ⟨f q, ⟨q, h1, rfl⟩, h3⟩
theorem vw_free : Free l y ↔ ∀ t, ¬ Vw l y t := by
  constructor
  · rintro h t ⟨p, h1, h2, h3, _⟩; exact h p ⟨h1, h2, h3⟩
  · rintro h p ⟨h1, h2, h3⟩; exact h _ ⟨p, h1, h2, h3, rfl⟩
theorem HasP.vw (h : HasP l y p) : Vw l y p.key := ⟨p, h.1, h.2.1, h.2.2, rfl⟩
theorem GOK.pos (ok : GOK size l) (h : p ∈ l) : p.at' < p.fin := by
  have := (ok.each p h).1
  unfold Pc.fin at *
  omega
theorem GOK.same (ok : GOK size l) (hp : p ∈ l) (hq : q ∈ l) (h1 : p.at' ≤ y) (h2 : y < p.fin) (h3 : q.at' ≤ y) (h4 : y < q.fin) : p = q := by
  obtain ⟨i, hi⟩ := List.getElem?_of_mem hp
  obtain ⟨j, hj⟩ := List.getElem?_of_mem hq
  rcases Nat.lt_trichotomy i j with h | h | h
  · have := rise_at ok.rise h hi hj; omega
  · subst h
    rw [hi] at hj
    simpa using hj
  · have := rise_at ok.rise h hj hi; omega
theorem vw_uniq (ok : GOK size l) (h1 : Vw l y t) (h2 : Vw l y u) : t = u := by
  obtain ⟨p, a1, a2, a3, rfl⟩ := h1
  obtain ⟨q, b1, b2, b3, rfl⟩ := h2
  rw [ok.same a1 b1 a2 a3 b2 b3]
/-- A part that is not empty. -/
theorem part_key : (partP p x n).key = p.key := by
  unfold Pc.key partP
  simp only [Prod.mk.injEq, true_and, and_true]
  omega
theorem part_at : (partP p x n).at' = max p.at' x := rfl
theorem part_fin : (partP p x n).fin = min p.fin (x + n) := by unfold partP Pc.fin; simp only; omega
theorem vw_part : Vw [partP p x n] y t ↔ (x ≤ y ∧ y < x + n) ∧ (p.at' ≤ y ∧ y < p.fin ∧ p.key = t) := by
  rw [vw_one, part_at, part_fin, part_key]
  constructor
  · rintro ⟨h1, h2, h3⟩; exact ⟨by omega, by omega, by omega, h3⟩
  · rintro ⟨h1, h2, h3, h4⟩; exact ⟨by omega, by omega, h4⟩
theorem vw_out (_h : Ov x n p) : Vw (outP x n p) y t ↔ ¬ (x ≤ y ∧ y < x + n) ∧ (p.at' ≤ y ∧ y < p.fin ∧ p.key = t) := by
  unfold outP
  rw [vw_app]
  have e1 : Vw (if p.at' < x then [partP p p.at' (x - p.at')] else []) y t ↔ y < x ∧ (p.at' ≤ y ∧ y < p.fin ∧ p.key = t) := by
    split
    · rw [vw_part]
      constructor
      · rintro ⟨h1, h2⟩; exact ⟨by omega, h2⟩
      · rintro ⟨h1, h2⟩; exact ⟨by omega, h2⟩
    · constructor
      · exact fun h => (vw_nil h).elim
      · rintro ⟨h1, h2⟩; omega
  have e2 : Vw (if x + n < p.fin then [partP p (x + n) (p.fin - (x + n))] else []) y t ↔ x + n ≤ y ∧ (p.at' ≤ y ∧ y < p.fin ∧ p.key = t) := by
    split
    · rw [vw_part]
      constructor
      · rintro ⟨h1, h2⟩; exact ⟨by omega, h2⟩
      · rintro ⟨h1, h2⟩; exact ⟨by omega, h2⟩
    · constructor
      · exact fun h => (vw_nil h).elim
      · rintro ⟨h1, h2⟩; omega
  rw [e1, e2]
  constructor
  · rintro (⟨h1, h2⟩ | ⟨h1, h2⟩)
    · exact ⟨by omega, h2⟩
    · exact ⟨by omega, h2⟩
  · rintro ⟨h1, h2⟩
    rcases Int.lt_or_le y x with h3 | h3
    · exact .inl ⟨h3, h2⟩
    · exact .inr ⟨by omega, h2⟩
theorem mem_seg (h : p ∈ seg l k b) : ∃ j, k ≤ j ∧ j < b ∧ l[j]? = some p := by
  unfold seg at h
  obtain ⟨j, h1, h2⟩ := mem_drop_at h
  rw [List.getElem?_take] at h2
  split at h2
  · exact ⟨j, h1, by assumption, h2⟩
  · cases h2
theorem SegIs.ovs (h : SegIs l x n k b) (hp : p ∈ seg l k b) : Ov x n p := by
  obtain ⟨j, h1, h2, h3⟩ := mem_seg hp
  exact h.ov j p h1 h2 h3
theorem SegIs.cut3 (h : SegIs l x n k b) : l = l.take k ++ seg l k b ++ l.drop b := by
  have h1 := h.lo
  unfold seg
  have h2 : l.take k = (l.take b).take k := by rw [List.take_take, Nat.min_eq_left h1]
  rw [h2, List.take_append_drop, List.take_append_drop]
theorem SegIs.headV (h : SegIs l x n k b) (hv : Vw (l.take k) y t) : y < x := by
  obtain ⟨p, h1, h2, h3, _⟩ := hv
  obtain ⟨j, a1, a2⟩ := mem_take_at h1
  have := h.from'.low j p a1 a2
  omega
theorem SegIs.tailP (h : SegIs l x n k b) (ok : GOK size l) (hx : 0 ≤ x ∧ 1 ≤ n) (hp : p ∈ l.drop b) : x + n ≤ p.at' := by
  obtain ⟨j, a1, a2⟩ := mem_drop_at hp
  have h3 := h.past ok a1 a2
  have h4 := h.from'.high j p (Nat.le_trans h.lo a1) a2
  unfold Ov at h3
  omega
theorem SegIs.tailV (h : SegIs l x n k b) (ok : GOK size l) (hx : 0 ≤ x ∧ 1 ≤ n) (hv : Vw (l.drop b) y t) : x + n ≤ y := by
  obtain ⟨p, h1, h2, h3, _⟩ := hv
  have := h.tailP ok hx h1
  omega
theorem vw_ins (hs : SegIs l x n k b) (ok : GOK size l) (hx : 0 ≤ x ∧ 1 ≤ n) : Vw (insL l k b x n) y t ↔ (x ≤ y ∧ y < x + n) ∧ Vw l y t := by
  unfold insL
  rw [vw_map]
  constructor
  · rintro ⟨p, h1, h2⟩
    rw [vw_part] at h2
    obtain ⟨j, _, _, h3⟩ := mem_seg h1
    exact ⟨h2.1, p, List.mem_of_getElem? h3, h2.2⟩
  · rintro ⟨h1, h2⟩
    rw [hs.cut3, vw_app, vw_app] at h2
    rcases h2 with (h2 | ⟨p, h2, h3⟩) | h2
    · have := hs.headV h2; omega
    · exact ⟨p, h2, vw_part.2 ⟨h1, h3⟩⟩
    · have := hs.tailV ok hx h2; omega
theorem vw_outs (hs : SegIs l x n k b) : Vw (outL l k b x n) y t ↔ ¬ (x ≤ y ∧ y < x + n) ∧ Vw (seg l k b) y t := by
  unfold outL
  rw [vw_flat]
  constructor
  · rintro ⟨p, h1, h2⟩
    rw [vw_out (hs.ovs h1)] at h2
    exact ⟨h2.1, p, h1, h2.2⟩
  · rintro ⟨h1, p, h2, h3⟩
    exact ⟨p, h2, (vw_out (hs.ovs h2)).2 ⟨h1, h3⟩⟩
/-- What is there behind a cut, whatever stands for the middle. -/
theorem vw_cut (hs : SegIs l x n k b) (ok : GOK size l) (hx : 0 ≤ x ∧ 1 ≤ n) {lo : List Pc} (hp : lo.Perm (outL l k b x n)) : Vw (l.take k ++ lo ++ l.drop b) y t ↔ ¬ (x ≤ y ∧ y < x + n) ∧ Vw l y t := by
  have h3 : Vw l y t ↔ (Vw (l.take k) y t ∨ Vw (seg l k b) y t) ∨ Vw (l.drop b) y t := by
    conv => lhs; rw [hs.cut3, vw_app, vw_app]
  rw [vw_app, vw_app, vw_perm hp, vw_outs hs, h3]
  constructor
  · rintro ((h | h) | h)
    · exact ⟨by have := hs.headV h; omega, .inl (.inl h)⟩
    · exact ⟨h.1, .inl (.inr h.2)⟩
    · exact ⟨by have := hs.tailV ok hx h; omega, .inr h⟩
  · rintro ⟨h1, (h | h) | h⟩
    · exact .inl (.inl h)
    · exact .inl (.inr ⟨h1, h⟩)
    · exact .inr h

/-- What is right of each piece. -/
def PcOK (size : Int) (p : Pc) : Prop := (0 ≤ p.at' ∧ 0 < p.len ∧ p.fin ≤ size ∧ p.at' % 64 = 0 ∧ p.len % 64 = 0) ∧ 0 ≤ p.from' ∧ p.from' - p.at' ≤ 4294967296 ∧ p.from' % 64 = 0 ∧ 0 ≤ p.prot ∧ p.prot ≤ 3
theorem part_ok (h : PcOK size p) (hx : x % 64 = 0 ∧ n % 64 = 0) (hne : max p.at' x < min p.fin (x + n)) : PcOK size (partP p x n) := by
  unfold PcOK at *
  rw [part_fin]
  have h1 : (partP p x n).at' = max p.at' x := rfl
  have h2 : (partP p x n).len = min p.fin (x + n) - max p.at' x := rfl
  have h3 : (partP p x n).from' = p.from' + max p.at' x - p.at' := rfl
  have h4 : (partP p x n).prot = p.prot := rfl
  rw [h1, h2, h3, h4]
  unfold Pc.fin at *
  omega
theorem mem_outP (_h : Ov x n p) (hq : q ∈ outP x n p) : (p.at' < x ∧ q = partP p p.at' (x - p.at')) ∨ (x + n < p.fin ∧ q = partP p (x + n) (p.fin - (x + n))) := by
  unfold outP at hq
  rcases List.mem_append.1 hq with h1 | h1
  · split at h1
    · exact .inl ⟨by assumption, by simpa using h1⟩
    · cases h1
  · split at h1
    · exact .inr ⟨by assumption, by simpa using h1⟩
    · cases h1
theorem outP_in (h : Ov x n p) (hq : q ∈ outP x n p) : p.at' ≤ q.at' ∧ q.fin ≤ p.fin := by
  unfold Ov at h
  rcases mem_outP h hq with ⟨h1, rfl⟩ | ⟨h1, rfl⟩
  · rw [part_at, part_fin]; omega
  · rw [part_at, part_fin]; omega
theorem outP_ok (h : Ov x n p) (hp : PcOK size p) (hx : x % 64 = 0 ∧ n % 64 = 0) (hq : q ∈ outP x n p) : PcOK size q := by
  have h0 := hp
  unfold Ov at h
  unfold PcOK at h0
  rcases mem_outP h hq with ⟨h1, rfl⟩ | ⟨h1, rfl⟩
  · exact part_ok hp (by omega) (by omega)
  · exact part_ok hp (by unfold Pc.fin at *; omega) (by omega)
theorem seg_rise (ok : GOK size l) : (seg l k b).Pairwise (fun p q => p.fin ≤ q.at') := by
  unfold seg
  exact (ok.rise.sublist (List.take_sublist _ _)).sublist (List.drop_sublist _ _)
theorem out_rise (hs : SegIs l x n k b) (ok : GOK size l) : (outL l k b x n).Pairwise (fun p q => p.fin ≤ q.at') := by
  unfold outL
  rw [List.pairwise_flatMap]
  refine ⟨fun p hp => ?_, ?_⟩
  · have h := hs.ovs hp
    unfold Ov at h
    unfold outP
    split <;> split <;> simp [part_at, part_fin]
    omega
  · have h2 := (seg_rise (k := k) (b := b) ok)
    have h3 : (seg l k b).Pairwise (fun p q => p.fin ≤ q.at' ∧ Ov x n p ∧ Ov x n q) := by
      rw [List.pairwise_iff_forall_sublist] at h2 ⊢
      intro a c hac
      exact ⟨h2 hac, hs.ovs (hac.subset (by simp)), hs.ovs (hac.subset (by simp))⟩
    refine h3.imp ?_
    rintro a c ⟨h4, h5, h6⟩ r hr s hs'
    have := outP_in h5 hr
    have := outP_in h6 hs'
    omega
theorem rise_perm {lo lo' : List Pc} (h : lo.Pairwise (fun p q => p.fin ≤ q.at')) (hp : lo'.Perm lo) (hsr : lo'.Pairwise (fun p q => p.at' ≤ q.at')) (hne : ∀ p ∈ lo, p.at' < p.fin) : lo'.Pairwise (fun p q => p.fin ≤ q.at') := by
  have h1 : lo.Pairwise (fun p q => p.fin ≤ q.at' ∨ q.fin ≤ p.at') := h.imp (fun h => .inl h)
  have h2 := h1.perm hp.symm (fun h => h.symm)
  have h3 : lo'.Pairwise (fun p q => (p.fin ≤ q.at' ∨ q.fin ≤ p.at') ∧ p.at' ≤ q.at') := h2.and hsr
  rw [List.pairwise_iff_forall_sublist] at h3 ⊢
  intro a c hac
  have h4 := h3 hac
  have h5 := hne c (hp.mem_iff.1 (hac.subset (by simp)))
  omega
/-- Any list that keeps within the bounds of what it stands for. -/
theorem gok_mid (hs : SegIs l x n k b) (ok : GOK size l) {lo : List Pc} (h1 : ∀ q ∈ lo, PcOK size q) (h2 : lo.Pairwise (fun p q => p.fin ≤ q.at')) (h3 : ∀ q ∈ lo, ∃ p ∈ seg l k b, p.at' ≤ q.at' ∧ q.fin ≤ p.fin) : GOK size (l.take k ++ lo ++ l.drop b) := by
  have hr : (l.take k ++ seg l k b ++ l.drop b).Pairwise (fun p q => p.fin ≤ q.at') := by rw [← hs.cut3]; exact ok.rise
  rw [List.pairwise_append, List.pairwise_append] at hr
  refine ⟨ok.top, fun q hq => ?_, ?_⟩
  · rcases List.mem_append.1 hq with hq | hq
    · rcases List.mem_append.1 hq with hq | hq
      · exact ok.each q (List.mem_of_mem_take hq)
      · exact h1 q hq
    · exact ok.each q (List.mem_of_mem_drop hq)
  · rw [List.pairwise_append, List.pairwise_append]
    refine ⟨⟨hr.1.1, h2, fun p hp q hq => ?_⟩, hr.2.1, fun p hp q hq => ?_⟩
    · obtain ⟨r, a1, a2, a3⟩ := h3 q hq
      have := hr.1.2.2 p hp r a1
      omega
    · rcases List.mem_append.1 hp with hp | hp
      · exact hr.2.2 p (List.mem_append_left _ hp) q hq
      · obtain ⟨r, a1, a2, a3⟩ := h3 p hp
        have := hr.2.2 r (List.mem_append_right _ a1) q hq
        omega
theorem out_mem (hs : SegIs l x n k b) (hq : q ∈ outL l k b x n) : ∃ p ∈ seg l k b, Ov x n p ∧ q ∈ outP x n p := by
  unfold outL at hq
  rw [List.mem_flatMap] at hq
  obtain ⟨p, h1, h2⟩ := hq
  exact ⟨p, h1, hs.ovs h1, h2⟩
theorem seg_ok (ok : GOK size l) (hp : p ∈ seg l k b) : PcOK size p := by
  obtain ⟨j, _, _, h3⟩ := mem_seg hp
  exact ok.each p (List.mem_of_getElem? h3)
theorem gok_cut (hs : SegIs l x n k b) (ok : GOK size l) (hx : isGrid x n) {lo : List Pc} (hp : lo.Perm (outL l k b x n)) (hsr : lo.Pairwise (fun p q => p.at' ≤ q.at')) : GOK size (l.take k ++ lo ++ l.drop b) := by
  have hx' : x % 64 = 0 ∧ n % 64 = 0 := by unfold isGrid isMul at hx; omega
  have h1 : ∀ q ∈ outL l k b x n, PcOK size q := fun q hq => by
    obtain ⟨p, a1, a2, a3⟩ := out_mem hs hq
    exact outP_ok a2 (seg_ok ok a1) hx' a3
  refine gok_mid hs ok (fun q hq => h1 q (hp.mem_iff.1 hq)) (rise_perm (out_rise hs ok) hp hsr (fun q hq => ?_)) (fun q hq => ?_)
  · have := (h1 q hq).1
    unfold Pc.fin at *
    omega
  · obtain ⟨p, a1, a2, a3⟩ := out_mem hs (hp.mem_iff.1 hq)
    exact ⟨p, a1, outP_in a2 a3⟩
theorem ins_mem (hs : SegIs l x n k b) (hq : q ∈ insL l k b x n) : ∃ p ∈ seg l k b, Ov x n p ∧ q = partP p x n := by
  unfold insL at hq
  rw [List.mem_map] at hq
  obtain ⟨p, h1, rfl⟩ := hq
  exact ⟨p, h1, hs.ovs h1, rfl⟩
theorem ins_in (hs : SegIs l x n k b) (ok : GOK size l) (hq : q ∈ insL l k b x n) : x ≤ q.at' ∧ q.at' < q.fin ∧ q.fin ≤ x + n ∧ ∃ p ∈ seg l k b, p.at' ≤ q.at' ∧ q.fin ≤ p.fin ∧ q.key = p.key := by
  obtain ⟨p, a1, a2, rfl⟩ := ins_mem hs hq
  unfold Ov at a2
  rw [part_at, part_fin]
  have h := (seg_ok ok a1).1
  have h' : p.at' < p.fin := by unfold Pc.fin; omega
  exact ⟨by omega, by omega, by omega, p, a1, by omega, by omega, part_key⟩
theorem gok_ins (hs : SegIs l x n k b) (ok : GOK size l) (hx : isGrid x n) : GOK size (insL l k b x n) := by
  have hx' : x % 64 = 0 ∧ n % 64 = 0 := by unfold isGrid isMul at hx; omega
  refine ⟨ok.top, fun q hq => ?_, ?_⟩
  · obtain ⟨p, a1, a2, rfl⟩ := ins_mem hs hq
    have h3 := seg_ok ok a1
    have h4 := h3
    unfold Ov at a2
    unfold PcOK at h4
    exact part_ok h3 hx' (by unfold Pc.fin at *; omega)
  · unfold insL
    rw [List.pairwise_map]
    refine (seg_rise ok).imp ?_
    intro p q h
    rw [part_fin, part_at]
    omega
end

/-- The sum of all numbers, cell by cell of 64. -/
def mpAt (l : List Pc) (i : Nat) : Bool := l.any (fun p => decide (p.at' ≤ 64 * (i : Int) ∧ 64 * (i : Int) < p.fin))
def cnt (f : Nat → Bool) : Nat → Int
  | 0 => 0
  | m + 1 => cnt f m + (if f m then 64 else 0)
theorem mpAt_iff {l : List Pc} {i : Nat} : mpAt l i = true ↔ ∃ t, Vw l (64 * (i : Int)) t := by
  unfold mpAt Vw
  rw [List.any_eq_true]
  constructor
  · rintro ⟨p, h1, h2⟩
    have := of_decide_eq_true h2
    exact ⟨_, p, h1, this.1, this.2, rfl⟩
  · rintro ⟨t, p, h1, h2, h3, _⟩
    exact ⟨p, h1, decide_eq_true ⟨h2, h3⟩⟩
theorem cnt_add {f g h : Nat → Bool} : ∀ {m : Nat}, (∀ i, i < m → f i = (g i || h i) ∧ (g i && h i) = false) → cnt f m = cnt g m + cnt h m
  | 0, _ => rfl
  | m + 1, hd => by
    have h1 := cnt_add (m := m) (fun i hi => hd i (by omega))
    obtain ⟨h2, h3⟩ := hd m (by omega)
    unfold cnt
    rw [h1, h2]
    cases hg : g m <;> cases hh : h m <;> rw [hg, hh] at h3 <;> simp at h3 ⊢ <;> omega
theorem cnt_same {f g : Nat → Bool} : ∀ {m : Nat}, (∀ i, i < m → f i = g i) → cnt f m = cnt g m
  | 0, _ => rfl
  | m + 1, hd => by
    unfold cnt
    rw [cnt_same (m := m) (fun i hi => hd i (by omega)), hd m (by omega)]
theorem cnt_one {p : Pc} (h1 : 0 ≤ p.at' ∧ 0 < p.len ∧ p.at' % 64 = 0 ∧ p.len % 64 = 0) : ∀ m : Nat, cnt (mpAt [p]) m = max 0 (min p.len (64 * (m : Int) - p.at'))
  | 0 => by unfold cnt; omega
  | m + 1 => by
    unfold cnt
    rw [cnt_one h1 m]
    have h2 : mpAt [p] m = decide (p.at' ≤ 64 * (m : Int) ∧ 64 * (m : Int) < p.fin) := by simp [mpAt]
    rw [h2]
    unfold Pc.fin
    by_cases h3 : p.at' ≤ 64 * (m : Int) ∧ 64 * (m : Int) < p.at' + p.len
    · rw [decide_eq_true h3, if_pos rfl]
      omega
    · rw [decide_eq_false h3, if_neg (by simp)]
      omega
theorem gcnt_zero (m : Nat) : cnt (mpAt []) m = 0 := by
  induction m with
  | zero => rfl
  | succ m ih => unfold cnt; rw [ih]; simp [mpAt]
theorem GOK.tail {size : Int} {p : Pc} {l : List Pc} (ok : GOK size (p :: l)) : GOK size l := ⟨ok.top, fun q hq => ok.each q (by simp [hq]), (List.pairwise_cons.1 ok.rise).2⟩
theorem sum_cnt {size : Int} : ∀ {l : List Pc} (_ : GOK size l) (m : Nat) (_ : size ≤ 64 * (m : Int)), sumP l = cnt (mpAt l) m
  | [], _, m, _ => by rw [gcnt_zero]; rfl
  | p :: l, ok, m, hm => by
    have h1 := sum_cnt ok.tail m hm
    have h2 := (ok.each p (by simp)).1
    have h3 : cnt (mpAt (p :: l)) m = cnt (mpAt [p]) m + cnt (mpAt l) m := by
      refine cnt_add (fun i _ => ⟨by simp [mpAt], ?_⟩)
      cases hg : mpAt [p] i with
      | false => rfl
      | true =>
        cases hh : mpAt l i with
        | false => rfl
        | true =>
          exfalso
          obtain ⟨t, q, a1, a2, a3, _⟩ := mpAt_iff.1 hg
          obtain ⟨u, r, b1, b2, b3, _⟩ := mpAt_iff.1 hh
          rw [List.mem_singleton] at a1
          subst a1
          have := (List.pairwise_cons.1 ok.rise).1 r b1
          omega
    have h4 := cnt_one (p := p) ⟨h2.1, h2.2.1, h2.2.2.2.1, h2.2.2.2.2⟩ m
    have h5 : sumP (p :: l) = p.len + sumP l := by simp [sumP]
    rw [h5, h1, h3, h4]
    unfold Pc.fin at *
    omega
end Go.Proofs.Ytdddmjdlikjedaa
