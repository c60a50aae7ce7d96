/-
  What a resize does to what stands in an object; a write that is not within. No conditions but that the set is one that calls can make.
-/
import Derived.Test.YtdhbhigoboamfaaVInv
import Derived.Test.YtdhbhigoboamfaaVResize
namespace Go.Proofs.Ytdhbhigoboamfaa
open Go.ChangeShapes Go.WideShapes Go.ChangeAt Go.RowKit

theorem goP_cnt (k : Nat) : ∀ p i n, i < 64 → (goP k p i n).length * 64 ≤ i + n + 63 := by
  induction k with
  | zero => intro p i n _; simp [goP]
  | succ k ih =>
    intro p i n hi
    rw [goP_succ]
    by_cases h : n = 0
    · rw [if_pos h]; simp
    · rw [if_neg h, List.length_cons]
      have := ih (p + 1) 0 (n - min n (64 - i)) (by decide)
      by_cases h2 : n ≤ 64 - i
      · rw [show n - min n (64 - i) = 0 by omega, goP_nil]
        simp only [List.length_nil]
        omega
      · omega
theorem parts_cnt (t n : Nat) : (partsL t n).length * 64 ≤ t % 64 + n + 63 := goP_cnt n _ _ n (Nat.mod_lt _ (by decide))

theorem full_rel {S : PL} (h : Full S.L) (p : Int) : Full (rel1 S p).L := fun g => by
  unfold rel1
  split
  · exact h g
  · rename_i f hf
    show (pgAt (relL S.L f) g).bytes.length = 64
    unfold relL
    split
    · exact h g
    · split
      · rw [pg_set]
        split
        · rfl
        · exact h g
      · rw [pg_set]
        split
        · exact h _
        · exact h g
structure Relo (i : Int) (S : PL) (A : Key → Option Int) (ks : List Int) (S' : PL) (A' : Key → Option Int) : Prop where
  good : Good S'.L A'
  fam : ∀ q, S'.g q = A' (i, q)
  other : ∀ k : Key, k.1 ≠ i → A' k = A k
  cont : ∀ k, A' k = none ∨ (A' k = A k ∧ cont S'.L (A k) = cont S.L (A k))
  full : Full S'.L
theorem relo_fold {i : Int} (ks : List Int) : ∀ (S : PL) (A : Key → Option Int), Good S.L A → Full S.L → (∀ q, S.g q = A (i, q)) → ∃ A', Relo i S A ks (ks.foldl rel1 S) A' := by
  induction ks with
  | nil => intro S A h hF hg; exact ⟨A, h, hg, fun _ _ => rfl, fun k => .inr ⟨rfl, rfl⟩, hF⟩
  | cons k ks ih =>
    intro S A h hF hg
    cases hk : S.g k with
    | none =>
      obtain ⟨A', r⟩ := ih S A h hF hg
      refine ⟨A', ?_⟩
      have e : (k :: ks).foldl rel1 S = ks.foldl rel1 S := by rw [List.foldl_cons, rel1_none hk]
      rw [e]
      exact ⟨r.good, r.fam, r.other, r.cont, r.full⟩
    | some f =>
      have hA : A (i, k) = some f := by rw [← hg, hk]
      have e1 := rel1_some hk
      have hG1 : Good (rel1 S k).L (updK A (i, k) none) := by rw [e1]; exact h.rel hA
      have hg1 : ∀ q, (rel1 S k).g q = updK A (i, k) none (i, q) := fun q => by
        rw [e1]
        show updI S.g k none q = _
        unfold updI updK
        by_cases e : q = k
        · rw [if_pos e, if_pos (by rw [e])]
        · rw [if_neg e, if_neg (fun h => e (by injection h)), hg]
      obtain ⟨A', r⟩ := ih (rel1 S k) (updK A (i, k) none) hG1 (full_rel hF k) hg1
      refine ⟨A', ⟨r.good, r.fam, fun kk hkk => (r.other kk hkk).trans (updK_ne (fun e => hkk (by rw [e]))), fun kk => ?_, r.full⟩⟩
      rcases r.cont kk with e | ⟨e, ec⟩
      · exact .inl e
      · by_cases hne : kk = (i, k)
        · left; rw [e, hne, updK_same]
        · right
          rw [updK_ne hne] at e ec
          refine ⟨e, ?_⟩
          show cont (ks.foldl rel1 (rel1 S k)).L (A kk) = _
          rw [ec]
          cases ha : A kk with
          | none => rfl
          | some f2 =>
            rw [cont_some, cont_some, e1]
            refine rel_bytes ?_
            by_cases e2 : f2 = f
            · right
              rcases Nat.lt_or_ge 1 (usersL S.L f) with h1 | h1
              · exact h1
              · have h0 := h.pos hA
                exact absurd (h.alone hA (by omega) (by rw [ha, e2])) hne
            · exact .inl e2
theorem Chain.upd2 {O : Int → Option Ob} (h : Chain O) {i : Int} {o o' : Ob} (hO : O i = some o) (h1 : o'.par = o.par) (h2 : o'.depth = o.depth) (h3 : o'.size ≤ 4294967296) (h4 : o'.frm = o.frm) (h5 : 0 < o'.depth → o'.pgs = fun _ => none) : Chain (updI O i (some o')) := by
  have h6 := h.upd (o' := { o' with size := o.size }) hO h1 h2 rfl h4 h5
  refine ⟨fun j x hx hd => ?_, fun j x hx => ?_, fun j x hx hd => ?_⟩
  · have hx' : ∃ x', updI O i (some { o' with size := o.size }) j = some x' ∧ x'.par = x.par ∧ x'.depth = x.depth := by
      unfold updI at hx ⊢
      split at hx
      · rename_i e
        cases hx
        rw [if_pos e]
        exact ⟨_, rfl, rfl, rfl⟩
      · rename_i e
        rw [if_neg e]
        exact ⟨x, hx, rfl, rfl⟩
    obtain ⟨x', a1, a2, a3⟩ := hx'
    obtain ⟨q, b1, b2⟩ := h6.up j x' a1 (by omega)
    rw [a2] at b1
    unfold updI at b1 ⊢
    by_cases e : (x.par : Int) = i
    · rw [if_pos e] at b1 ⊢
      cases b1
      exact ⟨o', rfl, by rw [a3] at b2; exact b2⟩
    · rw [if_neg e] at b1 ⊢
      exact ⟨q, b1, by rw [a3] at b2; exact b2⟩
  · unfold updI at hx
    split at hx
    · cases hx
      refine ⟨h3, ?_, ?_⟩
      · rw [h4]; exact (h.small i o hO).2.1
      · rw [h2]; exact (h.small i o hO).2.2
    · exact h.small j x hx
  · unfold updI at hx
    split at hx
    · cases hx; exact h5 hd
    · exact h.pgs j x hx hd
theorem resize_inv {M : Mod} {j : Int} {o : Ob} (h : Inv8 M) (hF : Full M.L) (hO : M.O j = some o) (hd : o.depth = 0) {U : Nat} (hU : U ≤ 4294967296) (h64 : U % 64 = 0) {S' : PL} {ks : List Int} (hS : S' = ks.foldl rel1 ⟨M.L, o.pgs, o.cnt⟩)
    (hk : ∀ k ∈ ks, ((U / 64 : Nat) : Int) ≤ k ∧ (o.pgs k).isSome = true) (hg : ∀ q, S'.g q = if q ∈ ks then none else o.pgs q) (hn : ∀ q, ((U / 64 : Nat) : Int) ≤ q → S'.g q = none) (hf : Few S'.L) :
    Inv8 (setM M j { o with size := U } S') ∧ Full S'.L ∧ ∀ x, fl S'.L S'.g x = if x < U then fl M.L o.pgs x else 0 := by
  obtain ⟨A', r⟩ := relo_fold (i := j) ks ⟨M.L, o.pgs, o.cnt⟩ (famOf M.O) h.good hF (fun q => (fam_at hO q).symm)
  rw [← hS] at r
  refine ⟨⟨?_, ?_, hf⟩, r.full, fun x => ?_⟩
  · exact r.good.congr (fam_upd (fun q => r.fam q) (fun k hk2 => r.other k hk2))
  · exact h.chain.upd2 hO rfl rfl hU rfl (fun hp => by have : 0 < o.depth := hp; omega)
  · unfold fl
    by_cases hx : x < U
    · rw [if_pos hx]
      have hni : ((x / 64 : Nat) : Int) ∉ ks := fun hm => by
        have := (hk _ hm).1
        omega
      have e : S'.g ((x / 64 : Nat) : Int) = o.pgs ((x / 64 : Nat) : Int) := by rw [hg, if_neg hni]
      rw [e]
      rcases r.cont (j, ((x / 64 : Nat) : Int)) with e2 | ⟨e2, e3⟩
      · rw [← r.fam, e] at e2
        rw [e2]
        rfl
      · rw [fam_at hO] at e3
        rw [e3]
    · rw [if_neg hx, hn _ (by omega), cont_none]
      unfold blank
      rw [List.getD_eq_getElem?_getD, List.getElem?_replicate, if_pos (Nat.mod_lt _ (by decide))]
      rfl
theorem up_mod (n : Int) : upS n % 64 = 0 := by unfold upS; omega

section
variable {w : World} {s : Nat} {r : Rep} {M : Mod}
set_option maxRecDepth 20000 in
theorem write8_out (h : SMem w s r M) {i : Int} {o : Ob} (hi : fit i) (hO : M.O i = some o) (hd : o.drp = false) (t : Int) (ht : fit t) (p : Option Addr) (n c : Nat) (hn : n ≤ 4096) (hs : o.size ≤ 4294967296) (hout : ¬ (0 ≤ t ∧ t + n ≤ (o.size : Int))) :
    Calls Try.prog 17 #[.pointer (some ⟨s, 0, none⟩), .int .i64 i, .int .i64 t, .slice p n c] w fun e w' => e = .returned (.int .i64 (-14)) ∧ w = w' := by
  obtain ⟨a, pb, hA, hB, hcell, hpm⟩ := h.live hO
  have c49 := find_yes h i hi hO hd hA
  have c50 := fun w => within_no t (n : Int) (o.size : Int) w (by omega) ht (by unfold fit; omega) (by unfold fit; omega)
  have d0 := (ocells hcell).c0
  have hn1 : ¬ (4096 : Int) < (n : Int) := by omega
  clear h hi hO hd ht hn hs hout hA hB hcell hpm
  go_enter Try.func17, Try.ntmps17
  go_wp2_with (first
    | (go_at_call 49; (with_reducible refine c49.mono ?_); rintro e w1 ⟨rfl, rfl⟩)
    | (go_at_call 50; (with_reducible refine (c50 _).mono ?_); rintro e w1 ⟨rfl, rfl⟩))
  go_ret
  exact ⟨rfl, rfl⟩
end
end Go.Proofs.Ytdhbhigoboamfaa
