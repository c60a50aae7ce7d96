/-
  RegionApart's plain data: what Protect leaves, and three tables of sixteen numbers beside a region. No conditions.
-/
import Derived.Test.YtdddmjdlikjedaaGBackM
namespace Go.Proofs.Ytdddmjdlikjedaa
open Go.ChangeShapes Go.WideShapes Go.ChangeAt Go.RowKit

section
variable {l l' l1 li : List Pc} {y x n size : Int} {t u : Int × Int × Int} {k b j : Nat} {p q : Pc}
/-- The same piece with another protection. -/
def withP (pr : Int) (p : Pc) : Pc := ⟨p.at', p.len, p.vmo, p.from', pr⟩
def protL (l : List Pc) (k b : Nat) (x n pr : Int) : List Pc := (insL l k b x n).map (withP pr) ++ outL l k b x n
theorem withP_fin (pr : Int) (p : Pc) : (withP pr p).fin = p.fin := rfl
theorem withP_at (pr : Int) (p : Pc) : (withP pr p).at' = p.at' := rfl
theorem rise_perm2 {lo lo' : List Pc} (h : lo.Pairwise (fun p q => p.fin ≤ q.at' ∨ q.fin ≤ p.at')) (hp : lo'.Perm lo) (hsr : lo'.Pairwise (fun p q => p.at' ≤ q.at')) (hne : ∀ p ∈ lo, p.at' < p.fin) : lo'.Pairwise (fun p q => p.fin ≤ q.at') := by
  have h2 := h.perm hp.symm (fun h => h.symm)
  have h3 : lo'.Pairwise (fun p q => (p.fin ≤ q.at' ∨ q.fin ≤ p.at') ∧ p.at' ≤ q.at') := h2.and hsr
  rw [List.pairwise_iff_forall_sublist] at h3 ⊢
  intro a c hac
  have h4 := h3 hac
  have h5 := hne c (hp.mem_iff.1 (hac.subset (by simp)))
  omega
theorem prot_mem {pr : Int} (hq : q ∈ protL l k b x n pr) : (∃ r ∈ insL l k b x n, q = withP pr r) ∨ q ∈ outL l k b x n := by
  unfold protL at hq
  rcases List.mem_append.1 hq with h | h
  · rw [List.mem_map] at h
    obtain ⟨r, h1, rfl⟩ := h
    exact .inl ⟨r, h1, rfl⟩
  · exact .inr h
theorem out_side (hs : SegIs l x n k b) (hq : q ∈ outL l k b x n) : q.fin ≤ x ∨ x + n ≤ q.at' := by
  obtain ⟨p, a1, a2, a3⟩ := out_mem hs hq
  rcases mem_outP a2 a3 with ⟨h1, rfl⟩ | ⟨h1, rfl⟩
  · rw [part_fin]; omega
  · rw [part_at]; omega
theorem gok_prot (hs : SegIs l x n k b) (ok : GOK size l) (hx : isGrid x n) {pr : Int} (hpr : 0 ≤ pr ∧ pr ≤ 3) {lo : List Pc} (hp : lo.Perm (protL l k b x n pr)) (hsr : lo.Pairwise (fun p q => p.at' ≤ q.at')) : GOK size (l.take k ++ lo ++ l.drop b) := by
  have hx' : x % 64 = 0 ∧ n % 64 = 0 := by unfold isGrid isMul at hx; omega
  have oki := gok_ins hs ok hx
  have h1 : ∀ q ∈ protL l k b x n pr, PcOK size q := fun q hq => by
    rcases prot_mem hq with ⟨r, hr, rfl⟩ | hq
    · have := oki.each r hr
      unfold PcOK
      rw [withP_fin, withP_at]
      exact ⟨this.1, this.2.1, this.2.2.1, this.2.2.2.1, hpr.1, hpr.2⟩
    · obtain ⟨p, a1, a2, a3⟩ := out_mem hs hq
      exact outP_ok a2 (seg_ok ok a1) hx' a3
  have h2 : (protL l k b x n pr).Pairwise (fun p q => p.fin ≤ q.at' ∨ q.fin ≤ p.at') := by
    unfold protL
    rw [List.pairwise_append]
    refine ⟨?_, (out_rise hs ok).imp (fun h => .inl h), fun p hp q hq => ?_⟩
    · rw [List.pairwise_map]
      exact oki.rise.imp (fun h => .inl h)
    · rw [List.mem_map] at hp
      obtain ⟨r, hr, rfl⟩ := hp
      have a1 := ins_in hs ok hr
      have a2 := out_side hs hq
      rw [withP_fin, withP_at]
      omega
  refine gok_mid hs ok (fun q hq => h1 q (hp.mem_iff.1 hq)) (rise_perm2 h2 hp hsr (fun q hq => ?_)) (fun q hq => ?_)
  · have := (h1 q hq).1
    unfold Pc.fin at *
    omega
  · rcases prot_mem (hp.mem_iff.1 hq) with ⟨r, hr, rfl⟩ | hq
    · obtain ⟨_, _, _, p, a1, a2, a3, _⟩ := ins_in hs ok hr
      exact ⟨p, a1, a2, a3⟩
    · obtain ⟨p, a1, a2, a3⟩ := out_mem hs hq
      exact ⟨p, a1, outP_in a2 a3⟩
theorem vw_prot (hs : SegIs l x n k b) (ok : GOK size l) (hx : 0 ≤ x ∧ 1 ≤ n) {pr : Int} {lo : List Pc} (hp : lo.Perm (protL l k b x n pr)) :
    Vw (l.take k ++ lo ++ l.drop b) y t ↔ (¬ (x ≤ y ∧ y < x + n) ∧ Vw l y t) ∨ ((x ≤ y ∧ y < x + n) ∧ ∃ u, Vw l y u ∧ t = (u.1, u.2.1, pr)) := by
  have h1 : Vw (l.take k ++ lo ++ l.drop b) y t ↔ Vw (l.take k ++ outL l k b x n ++ l.drop b) y t ∨ Vw ((insL l k b x n).map (withP pr)) y t := by
    rw [vw_app, vw_app, vw_app, vw_app, vw_perm hp]
    unfold protL
    rw [vw_app]
    constructor
    · rintro ((h | h | h) | h)
      · exact .inl (.inl (.inl h))
      · exact .inr h
      · exact .inl (.inl (.inr h))
      · exact .inl (.inr h)
    · rintro (((h | h) | h) | h)
      · exact .inl (.inl h)
      · exact .inl (.inr (.inr h))
      · exact .inr h
      · exact .inl (.inr (.inl h))
  have h2 : Vw ((insL l k b x n).map (withP pr)) y t ↔ ∃ u, Vw (insL l k b x n) y u ∧ t = (u.1, u.2.1, pr) := by
    rw [vw_map]
    constructor
    · rintro ⟨r, hr, h3⟩
      rw [vw_one, withP_at, withP_fin] at h3
      exact ⟨r.key, ⟨r, hr, h3.1, h3.2.1, rfl⟩, h3.2.2.symm⟩
    · rintro ⟨u, ⟨r, hr, h3, h4, rfl⟩, rfl⟩
      exact ⟨r, hr, vw_one.2 ⟨h3, h4, rfl⟩⟩
  rw [h1, vw_cut hs ok hx (List.Perm.refl _), h2]
  simp only [vw_ins hs ok hx]
  constructor
  · rintro (h | ⟨u, ⟨h, h3⟩, h4⟩)
    · exact .inl h
    · exact .inr ⟨h, u, h3, h4⟩
  · rintro (h | ⟨h, u, h3, h4⟩)
    · exact .inl h
    · exact .inr ⟨u, ⟨h, h3⟩, h4⟩

/-- Some places of a table are given anew. -/
def updR (V : Nat → Int) (a m : Nat) (f : Nat → Int) : Nat → Int := fun i => if a ≤ i ∧ i < a + m then f i else V i
/-- Three tables say what is mapped at each cell; W: how an object is told. -/
def ApIs (W : Int → Int) (l : List Pc) (V F P : Nat → Int) : Prop :=
  ∀ k : Nat, k < 16 → (V k = 0 ∧ Free l (64 * (k : Int))) ∨ (V k ≠ 0 ∧ ∃ t, Vw l (64 * (k : Int)) t ∧ V k = W t.1 ∧ F k = t.2.1 + 64 * (k : Int) ∧ P k = t.2.2)
section
variable {W : Int → Int} {V F P : Nat → Int}
theorem ApIs.zero : ApIs W [] (fun _ => 0) (fun _ => 0) (fun _ => 0) := fun k _ => .inl ⟨rfl, fun p hp => by cases hp.1⟩
theorem ApIs.congr {V' F' P' : Nat → Int} (h : ApIs W l V F P) (hV : ∀ k, k < 16 → V' k = V k) (hF : ∀ k, k < 16 → F' k = F k) (hP : ∀ k, k < 16 → P' k = P k) : ApIs W l V' F' P' := fun k hk => by
  rw [hV k hk, hF k hk, hP k hk]
  exact h k hk
theorem ApIs.put (h : ApIs W l V F P) (hW : W p.vmo ≠ 0) (a m : Nat) (ha : p.at' = 64 * (a : Int)) (hm : p.len = 64 * (m : Int)) :
    ApIs W (putL l k p) (updR V a m (fun _ => W p.vmo)) (updR F a m (fun i => p.from' + 64 * ((i : Int) - a))) (updR P a m (fun _ => p.prot)) := by
  intro i hi
  unfold updR
  by_cases e : a ≤ i ∧ i < a + m
  · rw [if_pos e, if_pos e, if_pos e]
    refine .inr ⟨hW, p.key, vw_put.2 (.inr (vw_one.2 ⟨by omega, by unfold Pc.fin; omega, rfl⟩)), rfl, ?_, rfl⟩
    unfold Pc.key
    simp only
    omega
  · rw [if_neg e, if_neg e, if_neg e]
    have h2 : ∀ t, Vw (putL l k p) (64 * (i : Int)) t ↔ Vw l (64 * (i : Int)) t := fun t => by
      rw [vw_put, vw_one]
      constructor
      · rintro (h | ⟨h3, h4, _⟩)
        · exact h
        · unfold Pc.fin at h4; omega
      · exact .inl
    rcases h i hi with ⟨h3, h4⟩ | ⟨h3, t, h4, h5⟩
    · refine .inl ⟨h3, ?_⟩
      rw [vw_free] at h4 ⊢
      exact fun t ht => h4 t ((h2 t).1 ht)
    · exact .inr ⟨h3, t, (h2 t).2 h4, h5⟩
theorem ApIs.cut (h : ApIs W l V F P) (a m : Nat) (hx : x = 64 * (a : Int)) (hn : n = 64 * (m : Int)) (hl : ∀ y t, Vw l' y t ↔ ¬ (x ≤ y ∧ y < x + n) ∧ Vw l y t) : ApIs W l' (updR V a m (fun _ => 0)) F P := by
  intro i hi
  unfold updR
  by_cases e : a ≤ i ∧ i < a + m
  · rw [if_pos e]
    refine .inl ⟨rfl, vw_free.2 (fun t ht => ?_)⟩
    have := ((hl _ _).1 ht).1
    omega
  · rw [if_neg e]
    rcases h i hi with ⟨h3, h4⟩ | ⟨h3, t, h4, h5⟩
    · refine .inl ⟨h3, ?_⟩
      rw [vw_free] at h4 ⊢
      exact fun t ht => h4 t ((hl _ _).1 ht).2
    · exact .inr ⟨h3, t, (hl _ _).2 ⟨by omega, h4⟩, h5⟩
theorem ApIs.prot (h : ApIs W l V F P) (a m : Nat) (hx : x = 64 * (a : Int)) (hn : n = 64 * (m : Int)) {pr : Int} (hl : ∀ y t, Vw l' y t ↔ (¬ (x ≤ y ∧ y < x + n) ∧ Vw l y t) ∨ ((x ≤ y ∧ y < x + n) ∧ ∃ u, Vw l y u ∧ t = (u.1, u.2.1, pr))) : ApIs W l' V F (updR P a m (fun _ => pr)) := by
  intro i hi
  unfold updR
  by_cases e : a ≤ i ∧ i < a + m
  · rw [if_pos e]
    rcases h i hi with ⟨h3, h4⟩ | ⟨h3, t, h4, h5, h6, h7⟩
    · refine .inl ⟨h3, ?_⟩
      rw [vw_free] at h4 ⊢
      intro t ht
      rcases (hl _ _).1 ht with ⟨h5, _⟩ | ⟨_, u, hu, _⟩
      · omega
      · exact h4 u hu
    · exact .inr ⟨h3, _, (hl _ _).2 (.inr ⟨by omega, t, h4, rfl⟩), h5, h6, rfl⟩
  · rw [if_neg e]
    rcases h i hi with ⟨h3, h4⟩ | ⟨h3, t, h4, h5⟩
    · refine .inl ⟨h3, ?_⟩
      rw [vw_free] at h4 ⊢
      intro t ht
      rcases (hl _ _).1 ht with ⟨_, h5⟩ | ⟨h5, _⟩
      · exact h4 t h5
      · omega
    · exact .inr ⟨h3, t, (hl _ _).2 (.inl ⟨by omega, h4⟩), h5⟩
theorem ApIs.clear (h : ApIs W l V F P) (ok : GOK size l) (hno : ∀ q ∈ l, ¬ Ov p.at' p.len q) (hp : isPut p) (a m : Nat) (ha : p.at' = 64 * (a : Int)) (hm : p.len = 64 * (m : Int)) (i : Nat) (hi : i < 16) (h1 : a ≤ i) (h2 : i < a + m) : V i = 0 := by
  rcases h i hi with ⟨h3, h4⟩ | ⟨h3, t, ⟨q, h4, h5, h6, _⟩, _⟩
  · exact h3
  · have := hno q h4
    have h7 := (ok.each q h4).1
    unfold Ov at this
    unfold isPut isGrid isMul at hp
    omega
/-- A cell's last number is mapped as its first one. -/
theorem vw_cell (ok : GOK size l) (i : Nat) : Vw l (64 * (i : Int) + 63) t ↔ Vw l (64 * (i : Int)) t := by
  constructor
  · rintro ⟨p, h1, h2, h3, h4⟩
    have h5 := (ok.each p h1).1
    exact ⟨p, h1, by unfold Pc.fin at *; omega, by omega, h4⟩
  · rintro ⟨p, h1, h2, h3, h4⟩
    have h5 := (ok.each p h1).1
    exact ⟨p, h1, by omega, by unfold Pc.fin at *; omega, h4⟩
theorem ApIs.sum (h : ApIs W l V F P) (ok : GOK size l) (hs : size ≤ 1024) : sumP l = cnt (fun i => decide (V i ≠ 0)) 16 := by
  rw [sum_cnt ok 16 (by omega)]
  refine cnt_same (fun i hi => ?_)
  rcases h i hi with ⟨h3, h4⟩ | ⟨h3, t, h4, _⟩
  · rw [decide_eq_false (by simp [h3])]
    cases e : mpAt l i with
    | false => rfl
    | true =>
      obtain ⟨t, ht⟩ := mpAt_iff.1 e
      exact absurd ht (vw_free.1 h4 t)
  · rw [decide_eq_true h3]
    exact mpAt_iff.2 ⟨t, h4⟩
end
end
end Go.Proofs.Ytdddmjdlikjedaa
