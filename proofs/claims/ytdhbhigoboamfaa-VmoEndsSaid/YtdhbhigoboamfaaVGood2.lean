/-
  Committing pages keeps what stands in all pages, and gives each of them a frame of its own; reading and writing byte by byte. No walk, no conditions.
-/
import Derived.Test.YtdhbhigoboamfaaVGood
import Derived.Test.YtdhbhigoboamfaaVWrite
namespace Go.Proofs.Ytdhbhigoboamfaa
open Go.ChangeShapes Go.WideShapes Go.ChangeAt Go.RowKit

theorem used_set (L : List Pg) (n : Nat) (q p : Pg) (hn : L[n]? = some p) : usedN (L.set n q) + (if p.users ≠ 0 then 1 else 0) = usedN L + (if q.users ≠ 0 then 1 else 0) := by
  induction L generalizing n with
  | nil => simp at hn
  | cons x L ih =>
    cases n with
    | zero =>
      simp at hn
      subst hn
      unfold usedN
      simp only [List.set_cons_zero, List.filter_cons]
      by_cases h1 : q.users = 0
      · by_cases h2 : x.users = 0
        · simp [h1, h2]
        · simp [h1, h2]
      · by_cases h2 : x.users = 0
        · simp [h1, h2]
        · simp [h1, h2]
    | succ n =>
      simp at hn
      have := ih n hn
      unfold usedN at this ⊢
      simp only [List.set_cons_succ, List.filter_cons]
      by_cases h2 : x.users = 0
      · simp [h2]; simpa using this
      · simp [h2]; simp at this; omega
theorem room_low {L : List Pg} (h : 0 < roomN L) : lowOf L < L.length := by
  rcases Nat.lt_or_ge (lowOf L) L.length with h1 | h1
  · exact h1
  · exfalso
    have hall : ∀ p ∈ L, (p.users != 0) = true := fun p hp => by
      have : ¬ ∃ x ∈ L, isFree x = true := by
        rw [← List.findIdx_lt_length]
        exact Nat.not_lt.2 h1
      have h2 : ¬ isFree p = true := fun e => this ⟨p, hp, e⟩
      unfold isFree at h2
      simpa using h2
    have : usedN L = L.length := by
      unfold usedN
      rw [List.filter_eq_self.2 hall]
    unfold roomN at h
    omega
theorem at_low {L : List Pg} (h : lowOf L < L.length) : ∃ p, L[lowOf L]? = some p ∧ p.users = 0 := by
  refine ⟨L[lowOf L], List.getElem?_eq_getElem h, ?_⟩
  have := low_free h
  unfold usersL at this
  rw [pgAt_nat, List.getD_eq_getElem?_getD, List.getElem?_eq_getElem h] at this
  exact this
theorem room_alloc {L : List Pg} (h : lowOf L < L.length) : roomN (allocL L) = roomN L - 1 ∧ (allocL L).length = L.length := by
  obtain ⟨p, hp, h0⟩ := at_low h
  have := used_set L (lowOf L) ⟨1, blank⟩ p hp
  rw [if_neg (by omega), if_pos (by simp)] at this
  unfold allocL roomN
  rw [if_pos h, List.length_set]
  omega
theorem room_own {L : List Pg} {f : Int} (hu : 1 < usersL L f) (h : lowOf L < L.length) : roomN (ownL L f) = roomN L - 1 ∧ (ownL L f).length = L.length := by
  obtain ⟨p, hp, h0⟩ := at_low h
  obtain ⟨r1, r2, r3⟩ := users_range (show usersL L f ≠ 0 by omega)
  have hne : f.toNat ≠ lowOf L := fun e => by have h3 := low_free h; rw [← e, ← r3] at h3; omega
  have e1 := used_set L (lowOf L) ⟨1, (pgAt L f).bytes⟩ p hp
  rw [if_neg (by omega), if_pos (by simp)] at e1
  have hg : (L.set (lowOf L) ⟨1, (pgAt L f).bytes⟩)[f.toNat]? = some L[f.toNat] := by
    rw [List.getElem?_set_ne (fun e => hne e.symm), List.getElem?_eq_getElem r2]
  have e2 := used_set _ f.toNat ⟨usersL L f - 1, (pgAt L f).bytes⟩ _ hg
  have hq : L[f.toNat].users = usersL L f := by
    unfold usersL pgAt
    rw [if_pos ⟨r1, by omega⟩, List.getD_eq_getElem?_getD, List.getElem?_eq_getElem r2]
    rfl
  rw [hq, if_pos (by omega), if_pos (by show usersL L f - 1 ≠ 0; omega)] at e2
  unfold ownL roomN
  rw [if_neg (by omega), if_pos h, List.length_set, List.length_set]
  omega

/-- What committing keeps. -/
structure Kept (i : Int) (L : List Pg) (A : Key → Option Int) (S' : PL) (A' : Key → Option Int) : Prop where
  good : Good S'.L A'
  fam : ∀ p, S'.g p = A' (i, p)
  other : ∀ k : Key, k.1 ≠ i → A' k = A k
  cont : ∀ k, cont S'.L (A' k) = cont L (A k)
  own : ∀ k f, A k = some f → usersL L f = 1 → A' k = some f ∧ usersL S'.L f = 1
  len : S'.L.length = L.length
theorem commit1_good {i : Int} {S : PL} {A : Key → Option Int} (h : Good S.L A) (hg : ∀ p, S.g p = A (i, p)) (p : Nat) (hl : lacks S p = true → 0 < roomN S.L) :
    ∃ A', Kept i S.L A (commit1 S p) A' ∧ (∃ f, A' (i, (p : Int)) = some f ∧ usersL (commit1 S p).L f = 1) ∧ (∀ q : Int, q ≠ (p : Int) → A' (i, q) = A (i, q)) ∧ roomN (commit1 S p).L = roomN S.L - (if lacks S p then 1 else 0) ∧
      (∀ q : Nat, q ≠ p → lacks (commit1 S p) q = true → lacks S q = true) := by
  have hgi := hg (p : Int)
  cases hp : S.g (p : Int) with
  | none =>
    have hla := lacks_none hp
    have hlow := room_low (hl hla)
    obtain ⟨e1, e2⟩ := pg_none hp
    have hc : commit1 S p = ⟨allocL S.L, updI S.g (p : Int) (some (allocV S.L)), S.c + 1⟩ := by unfold commit1; rw [e1, e2, hp]; rfl
    rw [hc]
    have hk : A (i, (p : Int)) = none := by rw [← hgi, hp]
    obtain ⟨r1, r2⟩ := room_alloc hlow
    have hv := alloc_val hlow
    refine ⟨updK A (i, (p : Int)) (some (allocV S.L)), ⟨h.alloc hk hlow, fun q => ?_, fun k hk2 => updK_ne (fun e => hk2 (by rw [e])), fun k => ?_, fun k f hf hu => ?_, r2⟩, ⟨allocV S.L, updK_same _ _ _, by show usersL (allocL S.L) _ = 1; rw [hv, alloc_users hlow, if_pos rfl]⟩, fun q hq => updK_ne (fun e => hq (by injection e)), by rw [hla, if_pos rfl]; exact r1, fun q hq hlq => ?_⟩
    · show updI S.g (p : Int) (some (allocV S.L)) q = _
      unfold updI updK
      by_cases e : q = (p : Int)
      · rw [if_pos e, if_pos (by rw [e])]
      · rw [if_neg e, if_neg (fun h => e (by injection h)), hg q]
    · by_cases e : k = (i, (p : Int))
      · rw [e, updK_same, hk, cont_some, cont_none, hv]
        show (pgAt (allocL S.L) _).bytes = _
        rw [alloc_bytes hlow, if_pos rfl]
      · rw [updK_ne e]
        cases ha : A k with
        | none => rfl
        | some f =>
          rw [cont_some, cont_some]
          show (pgAt (allocL S.L) f).bytes = _
          rw [alloc_bytes hlow, if_neg (fun e => h.free (low_free hlow) k (by rw [ha, e]))]
    · have hne : k ≠ (i, (p : Int)) := fun e => by rw [e, hk] at hf; cases hf
      refine ⟨by rw [updK_ne hne]; exact hf, ?_⟩
      show usersL (allocL S.L) f = 1
      rw [alloc_users hlow]
      split
      · rfl
      · exact hu
    · have hqi : ((q : Nat) : Int) ≠ (p : Int) := by omega
      cases hs : S.g (q : Int) with
      | none => exact lacks_none hs
      | some f =>
        rw [lacks_some hs]
        have : lacks (⟨allocL S.L, updI S.g (p : Int) (some (allocV S.L)), S.c + 1⟩ : PL) q = decide (1 < usersL (allocL S.L) f) := lacks_some (by show updI S.g _ _ _ = _; unfold updI; rw [if_neg hqi]; exact hs)
        rw [this, alloc_users hlow] at hlq
        split at hlq
        · simp at hlq
        · exact hlq
  | some f =>
    obtain ⟨e1, e2⟩ := pg_some hp
    have hk : A (i, (p : Int)) = some f := by rw [← hgi, hp]
    have hpos := h.pos hk
    by_cases hu : 1 < usersL S.L f
    · have hla : lacks S p = true := by rw [lacks_some hp]; exact decide_eq_true hu
      have hlow := room_low (hl hla)
      have hc : commit1 S p = ⟨ownL S.L f, updI S.g (p : Int) (some (ownV S.L f)), S.c⟩ := by unfold commit1; rw [e1, e2, hp]; rfl
      rw [hc]
      obtain ⟨r1, r2⟩ := room_own hu hlow
      have hv := own_val hu hlow
      have hne0 : f ≠ (lowOf S.L : Int) := fun e => by have := low_free hlow; rw [← e] at this; omega
      refine ⟨updK A (i, (p : Int)) (some (ownV S.L f)), ⟨h.own hk hu hlow, fun q => ?_, fun k hk2 => updK_ne (fun e => hk2 (by rw [e])), fun k => ?_, fun k f2 hf hu2 => ?_, r2⟩, ⟨ownV S.L f, updK_same _ _ _, by show usersL (ownL S.L f) _ = 1; rw [hv, own_users hu hlow, if_neg (fun e => hne0 e.symm), if_pos rfl]⟩, fun q hq => updK_ne (fun e => hq (by injection e)), by rw [hla, if_pos rfl]; exact r1, fun q hq hlq => ?_⟩
      · show updI S.g (p : Int) (some (ownV S.L f)) q = _
        unfold updI updK
        by_cases e : q = (p : Int)
        · rw [if_pos e, if_pos (by rw [e])]
        · rw [if_neg e, if_neg (fun h => e (by injection h)), hg q]
      · by_cases e : k = (i, (p : Int))
        · rw [e, updK_same, hk, cont_some, cont_some, hv]
          show (pgAt (ownL S.L f) _).bytes = _
          rw [own_bytes hu hlow, if_pos rfl]
        · rw [updK_ne e]
          cases ha : A k with
          | none => rfl
          | some f2 =>
            rw [cont_some, cont_some]
            show (pgAt (ownL S.L f) f2).bytes = _
            rw [own_bytes hu hlow, if_neg (fun e => h.free (low_free hlow) k (by rw [ha, e]))]
      · have hne : k ≠ (i, (p : Int)) := fun e => by rw [e, hk] at hf; cases hf; omega
        refine ⟨by rw [updK_ne hne]; exact hf, ?_⟩
        show usersL (ownL S.L f) f2 = 1
        rw [own_users hu hlow, if_neg (fun e => by rw [e] at hu2; omega)]
        split
        · rfl
        · exact hu2
      · have hqi : ((q : Nat) : Int) ≠ (p : Int) := by omega
        cases hs : S.g (q : Int) with
        | none => exact lacks_none hs
        | some f2 =>
          rw [lacks_some hs]
          have : lacks (⟨ownL S.L f, updI S.g (p : Int) (some (ownV S.L f)), S.c⟩ : PL) q = decide (1 < usersL (ownL S.L f) f2) := lacks_some (by show updI S.g _ _ _ = _; unfold updI; rw [if_neg hqi]; exact hs)
          rw [this, own_users hu hlow] at hlq
          split at hlq
          · rename_i e
            rw [e]
            exact decide_eq_true hu
          · split at hlq
            · simp at hlq
            · exact hlq
    · have hu1 : usersL S.L f = 1 := by omega
      obtain ⟨o1, o2⟩ := own_one hu1
      have hla : lacks S p = false := by rw [lacks_some hp]; exact decide_eq_false hu
      have hc : commit1 S p = ⟨S.L, updI S.g (p : Int) (some f), S.c⟩ := by unfold commit1; rw [e1, e2, hp, o1, o2]; rfl
      rw [hc]
      have hself : ∀ q, updI S.g (p : Int) (some f) q = S.g q := fun q => by
        unfold updI
        by_cases e : q = (p : Int)
        · rw [if_pos e, e, hp]
        · rw [if_neg e]
      refine ⟨A, ⟨h, fun q => by show updI _ _ _ q = _; rw [hself, hg], fun k _ => rfl, fun k => rfl, fun k f2 hf hu2 => ⟨hf, hu2⟩, rfl⟩, ⟨f, hk, hu1⟩, fun q _ => rfl, by rw [hla]; simp, fun q hq hlq => ?_⟩
      cases hs : S.g (q : Int) with
      | none => exact lacks_none hs
      | some f2 =>
        rw [lacks_some hs]
        have : lacks (⟨S.L, updI S.g (p : Int) (some f), S.c⟩ : PL) q = decide (1 < usersL S.L f2) := lacks_some (by show updI S.g _ _ _ = _; rw [hself]; exact hs)
        rw [this] at hlq
        exact hlq
theorem lackN_mono {S S' : PL} {ps : List Pt} (h : ∀ p ∈ ps, lacks S' p.pg = true → lacks S p.pg = true) : lackN S' ps ≤ lackN S ps := by
  unfold lackN
  induction ps with
  | nil => simp
  | cons p ps ih =>
    have := ih (fun q hq => h q (List.mem_cons_of_mem _ hq))
    have h1 := h p List.mem_cons_self
    rw [List.filter_cons, List.filter_cons]
    by_cases e : lacks S' p.pg = true
    · rw [if_pos e, if_pos (h1 e)]
      simp
      exact this
    · rw [if_neg e]
      split
      · simp; omega
      · exact this
theorem commitAll_good {i : Int} {ps : List Pt} : ∀ {S : PL} {A : Key → Option Int}, Good S.L A → (∀ p, S.g p = A (i, p)) → (ps.map Pt.pg).Nodup → (lackN S ps : Int) ≤ roomN S.L →
    ∃ A', Kept i S.L A (commitAll S ps) A' ∧ (∀ p ∈ ps, ∃ f, A' (i, (p.pg : Int)) = some f ∧ usersL (commitAll S ps).L f = 1) ∧ (∀ q : Int, (∀ p ∈ ps, q ≠ (p.pg : Int)) → A' (i, q) = A (i, q)) ∧ roomN S.L - (ps.length : Int) ≤ roomN (commitAll S ps).L := by
  induction ps with
  | nil => intro S A h hg _ _; exact ⟨A, ⟨h, hg, fun _ _ => rfl, fun _ => rfl, fun _ _ a b => ⟨a, b⟩, rfl⟩, fun p hp => by simp at hp, fun _ _ => rfl, by show roomN S.L - _ ≤ roomN S.L; omega⟩
  | cons p ps ih =>
    intro S A h hg hn hl
    rw [List.map_cons, List.nodup_cons] at hn
    have hlk : (lackN S (p :: ps) : Int) = (if lacks S p.pg then 1 else 0) + (lackN S ps : Int) := by
      unfold lackN
      rw [List.filter_cons]
      split
      · rw [List.length_cons]; omega
      · omega
    obtain ⟨A1, k1, k2, k3, k4, k5⟩ := commit1_good h hg p.pg (fun hla => by rw [hlk, hla, if_pos rfl] at hl; omega)
    have hmono : lackN (commit1 S p.pg) ps ≤ lackN S ps := lackN_mono (fun q hq hla => k5 q.pg (fun e => hn.1 (by rw [← e]; exact List.mem_map.2 ⟨q, hq, rfl⟩)) hla)
    obtain ⟨A2, m1, m2, m3, m4⟩ := ih k1.good k1.fam hn.2 (by rw [k4]; omega)
    have e : commitAll S (p :: ps) = commitAll (commit1 S p.pg) ps := rfl
    rw [e]
    refine ⟨A2, ⟨m1.good, m1.fam, fun k hk => (m1.other k hk).trans (k1.other k hk), fun k => (m1.cont k).trans (k1.cont k), fun k f ha hu => ?_, m1.len.trans k1.len⟩, fun q hq => ?_, fun q hq => ?_, by rw [List.length_cons]; split at k4 <;> omega⟩
    · obtain ⟨a1, a2⟩ := k1.own k f ha hu
      exact m1.own k f a1 a2
    · rcases List.mem_cons.1 hq with rfl | hq
      · obtain ⟨f, a1, a2⟩ := k2
        exact ⟨f, m1.own _ _ a1 a2⟩
      · exact m2 q hq
    · rw [m3 q (fun x hx => hq x (List.mem_cons_of_mem _ hx)), k3 q (hq p List.mem_cons_self)]
end Go.Proofs.Ytdhbhigoboamfaa
