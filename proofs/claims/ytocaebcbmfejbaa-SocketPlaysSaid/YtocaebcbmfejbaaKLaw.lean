/-
  What each call makes of a law's state: a socket of its own, and blocks beside it. No conditions.
-/
import Derived.Test.YtocaebcbmfejbaaKOps
import Derived.Test.YtocaebcbmfejbaaKPutD
import Derived.Test.YtocaebcbmfejbaaKRead
namespace Go.Proofs.Ytocaebcbmfejbaa
open Go.RowKit

/-- Write's status, how many bytes come, and the ends behind it. -/
def wrS (dg : Bool) (room : Nat) (K : Nat → En) (e n : Nat) : Int := if (K e).op = false then -24 else if wayS (K e) (K (oth e)) = 0 then fitS dg room (room - (K (oth e)).b.length) n else wayS (K e) (K (oth e))
def wrN (dg : Bool) (room : Nat) (K : Nat → En) (e n : Nat) : Nat := if wrS dg room K e n = 0 then fitN dg room (room - (K (oth e)).b.length) n else 0
def wrK (dg : Bool) (room : Nat) (K : Nat → En) (e : Nat) (b : List UInt8) : Nat → En := if wrS dg room K e b.length = 0 then updN K (oth e) (wrE dg (K (oth e)) (wrN dg room K e b.length) b) else K
/-- Read's status, its bytes, and the ends behind it. -/
def rdSt (K : Nat → En) (e : Nat) (n : Int) : Int := if (K e).op = false then -24 else if n < 0 then -10 else if (K e).b = [] then rdS (K (oth e)) (K e) else 0
def rdM (K : Nat → En) (e : Nat) (n : Int) : Nat := min n.toNat (firstN (K e))
def rdB (K : Nat → En) (e : Nat) (n : Int) : List UInt8 := if rdSt K e n = 0 then (K e).b.take (rdM K e n) else []
def rdK (K : Nat → En) (e : Nat) (n : Int) (pk : Bool) : Nat → En := if rdSt K e n = 0 ∧ pk = false then updN K e (dropE (K e) (rdM K e n)) else K
def shutS (K : Nat → En) (e : Nat) : Int := if (K e).op = false then -24 else 0
def shutK (K : Nat → En) (e : Nat) (a b : Bool) : Nat → En := if (K e).op = false then K else updN K e (clE (K e) a b)
def closeK (K : Nat → En) (e : Nat) : Nat → En := if (K e).op = false then K else updN K e En.cl
theorem dropE_nil {s : En} {m : Nat} (hp : s.p = []) : dropE s m = { s with b := s.b.drop m } := by
  cases s
  dsimp only at hp
  subst hp
  rfl
theorem dropE_cons {s : En} {m x : Nat} {r : List Nat} (hp : s.p = x :: r) : dropE s m = { s with b := s.b.drop x, p := r } := by
  cases s
  dsimp only at hp
  subst hp
  rfl
theorem rdS_ne (a b : En) : rdS a b ≠ 0 := by
  unfold rdS
  split
  · decide
  · assumption
section
variable {w0 w w' : World} {c room : Nat} {dg : Bool} {K K' : Nat → En} {X : Nat → Prop}
theorem KSt.kp (h : KSt w0 w c dg room K X) (t : Turn NoBlock w w') : KSt w0 w' c dg room K X ∧ Kp X w w' := ⟨h.past t, Kp.of_past t⟩
theorem kst_read {V : Nat → EV} {v : Value} {bs : List UInt8} (ht : Turn NoBlock w0 w) (hf : ∀ k, KFoot c V k → w0.heap.size ≤ k) (hx : ∀ k, X k → k < w.heap.size ∧ ¬ KFoot c V k) (h : RMade w w' c dg room V K' v bs) :
    Byts v bs w' ∧ KSt w0 w' c dg room K' (fun k => X k ∨ Blk v k) ∧ Kp X w w' ∧ ∀ k, Blk v k → w.heap.size ≤ k := by
  obtain ⟨V', h1, h2, h3, h4, h5⟩ := h
  refine ⟨h4, ⟨V', h1, ht.trans h2 (fun k hk => .inr (hf k hk)), fun k hk => ?_, fun k hk => ?_⟩, ⟨_, h2, fun k hk => (hx k hk).2⟩, fun k hk => (h5 k hk).1⟩
  · rcases h3 k hk with h | h
    · exact hf k h
    · have := ht.size; omega
  · rcases hk with hk | hk
    · refine ⟨Nat.lt_of_lt_of_le (hx k hk).1 h2.size, fun hh => ?_⟩
      rcases h3 k hh with h | h
      · exact (hx k hk).2 h
      · have := (hx k hk).1; omega
    · exact ⟨WRow.lt h4 hk, (h5 k hk).2⟩
theorem KSt.write0 (h : KSt w0 w c dg room K X) (vb : Value) (b : List UInt8) (hb : b.length ≤ 1000000) (hr : Rk w vb b) :
    Calls Try.prog 25 #[.pointer (some ⟨c, 0, none⟩), .int .i64 0, vb] w fun x w' => x = .returned (.tuple #[.int .i64 (wrN dg room K 0 b.length : Nat), .int .i64 (wrS dg room K 0 b.length)]) ∧ KSt w0 w' c dg room (wrK dg room K 0 b) X ∧ Kp X w w' := by
  obtain ⟨V, hM, ht, hf, hx⟩ := h
  have hK : KSt w0 w c dg room K X := ⟨V, hM, ht, hf, hx⟩
  have e0 : oth 0 = 1 := rfl
  unfold wrK wrN
  cases ho : (K 0).op with
  | false =>
    have e1 : wrS dg room K 0 b.length = -24 := by unfold wrS; rw [if_pos ho]
    rw [e1, if_neg (by decide), if_neg (by decide)]
    exact (kwrite_shut0 hM ho vb).mono (fun x w' hh => ⟨hh.1, by rw [← hh.2]; exact hK.kp (Turn.refl _ _)⟩)
  | true =>
    have e2 : wrS dg room K 0 b.length = if wayS (K 0) (K 1) = 0 then fitS dg room (room - (K 1).b.length) b.length else wayS (K 0) (K 1) := by unfold wrS; rw [if_neg (by rw [ho]; decide)]; rfl
    by_cases hw : wayS (K 0) (K 1) = 0
    · rw [if_pos hw] at e2
      rw [e2]
      by_cases hs : fitS dg room (room - (K 1).b.length) b.length = 0
      · rw [if_pos hs, if_pos hs, e0, hs]
        cases dg with
        | false => exact (kput0_s hM ho hw vb b hb hr hs).mono (fun x w' hh => ⟨hh.1, kst_made ht hf hx hh.2⟩)
        | true => exact (kput0_d hM ho hw vb b hb hr hs).mono (fun x w' hh => ⟨hh.1, kst_made ht hf hx hh.2⟩)
      · rw [if_neg hs, if_neg hs]
        obtain ⟨p, ca, rfl, -⟩ := hr.sl
        exact (kwrite_no0 hM ho hw p b.length ca (by unfold maxLen; omega) hs).mono (fun x w' hh => ⟨hh.1, hK.kp hh.2⟩)
    · rw [if_neg hw] at e2
      rw [e2, if_neg hw, if_neg hw]
      exact (kwrite_way0 hM ho hw vb).mono (fun x w' hh => ⟨hh.1, hK.kp hh.2⟩)
theorem KSt.read0 (h : KSt w0 w c dg room K X) (n : Int) (pk : Bool) :
    Calls Try.prog 28 #[.pointer (some ⟨c, 0, none⟩), .int .i64 0, .int .i64 n, .bool pk] w fun x w' => ∃ v, x = .returned (.tuple #[v, .int .i64 (rdSt K 0 n)]) ∧ Byts v (rdB K 0 n) w' ∧ KSt w0 w' c dg room (rdK K 0 n pk) (fun k => X k ∨ Blk v k) ∧ Kp X w w' ∧ ∀ k, Blk v k → w.heap.size ≤ k := by
  obtain ⟨V, hM, ht, hf, hx⟩ := h
  have hK : KSt w0 w c dg room K X := ⟨V, hM, ht, hf, hx⟩
  have nothing : ∀ (u : Int), u ≠ 0 → rdSt K 0 n = u → ∀ (x : Ending) (w' : World), (x = .returned (.tuple #[.slice none 0 0, .int .i64 u]) ∧ Turn NoBlock w w') → ∃ v, x = .returned (.tuple #[v, .int .i64 (rdSt K 0 n)]) ∧ Byts v (rdB K 0 n) w' ∧ KSt w0 w' c dg room (rdK K 0 n pk) (fun k => X k ∨ Blk v k) ∧ Kp X w w' ∧ ∀ k, Blk v k → w.heap.size ≤ k := by
    rintro u hu hr x w' ⟨rfl, t⟩
    refine ⟨_, by rw [hr], ?_, ?_, Kp.of_past t, fun k hk => (blk_nil k hk).elim⟩
    · unfold rdB; rw [hr, if_neg hu]; exact byts_nil _
    · unfold rdK; rw [hr, if_neg (fun h => hu h.1)]
      exact (hK.past t).fewer (fun k hk => hk.elim (fun h => h) (fun h => (blk_nil k h).elim))
  cases ho : (K 0).op with
  | false => exact (kread_shut0 hM ho n pk).mono (fun x w' hh => nothing (-24) (by decide) (by unfold rdSt; rw [if_pos ho]) x w' ⟨hh.1, by rw [← hh.2]; exact Turn.refl _ _⟩)
  | true =>
    have e1 : ¬ (K 0).op = false := by rw [ho]; decide
    by_cases hn : n < 0
    · exact (kread_neg0 hM ho n hn pk).mono (fun x w' hh => nothing (-10) (by decide) (by unfold rdSt; rw [if_neg e1, if_pos hn]) x w' ⟨hh.1, by rw [← hh.2]; exact Turn.refl _ _⟩)
    · by_cases hb : (K 0).b = []
      · exact (kread_none0 hM ho hb n (by omega) pk).mono (fun x w' hh => nothing _ (rdS_ne _ _) (by unfold rdSt; rw [if_neg e1, if_neg hn, if_pos hb]; rfl) x w' hh)
      · have hs : rdSt K 0 n = 0 := by unfold rdSt; rw [if_neg e1, if_neg hn, if_neg hb]
        have h0 : 0 < (K 0).b.length := List.length_pos_iff.2 hb
        have hok := hM.ok 0 (by omega)
        have hfl := firstN_le hok
        obtain ⟨k, rfl⟩ : ∃ k : Nat, n = k := ⟨n.toNat, by omega⟩
        have hm : rdM K 0 k = min k (firstN (K 0)) := by unfold rdM; simp
        have hml : rdM K 0 k ≤ (K 0).b.length := by omega
        have hEl : (K 0).b.length ≤ 2000000 := by have := hok.len; have := hM.r2; omega
        have hPl : (K 0).p.length ≤ 2000000 := by have := hok.plen; have := hM.r2; omega
        have EA : EAt w c 2 (K 0) (V 0) := hM.s 0 (by omega)
        have core := kread_core0 hM ho h0 k (firstN (K 0)) (rdM K 0 k) hfl (by omega) (dropE (K 0) (rdM K 0 k)) (dropE_ok hok ho hml h0) (fun W t => by
          unfold firstN
          cases hp : (K 0).p with
          | nil => exact kfirst_b (EA.kept t (fun _ _ h => h)) hp
          | cons x r => exact kfirst_p (EA.kept t (fun _ _ h => h)) hp hPl) (fun W t => by
          cases hp : (K 0).p with
          | nil =>
            have e3 : dropE (K 0) (rdM K 0 k) = { K 0 with b := (K 0).b.drop (rdM K 0 k) } := dropE_nil hp
            rw [e3]
            exact kdrop_b (EA.kept t (fun _ _ h => h)) hp hml h0 hEl
          | cons x r =>
            have e3 : dropE (K 0) (rdM K 0 k) = { K 0 with b := (K 0).b.drop x, p := r } := dropE_cons hp
            have hx1 : firstN (K 0) = x := by unfold firstN; rw [hp]
            have hdg : dg = true := by
              cases dg with
              | true => rfl
              | false => have := hok.no rfl; rw [hp] at this; cases this
            have hsum := hok.sum hdg
            rw [hp] at hsum
            simp at hsum
            have hpos := hok.pos hdg
            rw [hp] at hpos
            rw [e3]
            refine kdrop_p (EA.kept t (fun _ _ h => h)) hp (by omega) (hpos x (by simp)) (fun hz => ?_) hEl hPl _
            have := sum_len (l := r) (fun y hy => hpos y (by simp [hy]))
            exact List.eq_nil_of_length_eq_zero (by omega)) pk
        refine core.mono ?_
        rintro x w' ⟨v, rfl, hR⟩
        obtain ⟨r1, r2, r3, r4⟩ := kst_read ht hf hx hR
        refine ⟨v, by rw [hs], ?_, ?_, r3, r4⟩
        · unfold rdB; rw [if_pos hs]; exact r1
        · unfold rdK
          rw [hs]
          cases pk with
          | true => rw [if_neg (by simp)]; exact r2
          | false => rw [if_pos (by simp)]; exact r2
theorem KSt.shut0 (h : KSt w0 w c dg room K X) (a b : Bool) : Calls Try.prog 30 #[.pointer (some ⟨c, 0, none⟩), .int .i64 0, .bool a, .bool b] w fun x w' => x = .returned (.int .i64 (shutS K 0)) ∧ KSt w0 w' c dg room (shutK K 0 a b) X ∧ Kp X w w' := by
  obtain ⟨V, hM, ht, hf, hx⟩ := h
  have hK : KSt w0 w c dg room K X := ⟨V, hM, ht, hf, hx⟩
  unfold shutS shutK
  cases ho : (K 0).op with
  | false =>
    exact (kshut_no0 hM ho a b).mono (fun x w' hh => ⟨hh.1, by rw [← hh.2]; exact hK.kp (Turn.refl _ _)⟩)
  | true =>
    exact (kshut0 hM ho a b).mono (fun x w' hh => ⟨hh.1, kst_made ht hf hx hh.2⟩)
theorem KSt.close0 (h : KSt w0 w c dg room K X) : Calls Try.prog 31 #[.pointer (some ⟨c, 0, none⟩), .int .i64 0] w fun x w' => x = .returned (.int .i64 (shutS K 0)) ∧ KSt w0 w' c dg room (closeK K 0) X ∧ Kp X w w' := by
  obtain ⟨V, hM, ht, hf, hx⟩ := h
  have hK : KSt w0 w c dg room K X := ⟨V, hM, ht, hf, hx⟩
  unfold shutS closeK
  cases ho : (K 0).op with
  | false =>
    exact (kclose_no0 hM ho).mono (fun x w' hh => ⟨hh.1, by rw [← hh.2]; exact hK.kp (Turn.refl _ _)⟩)
  | true =>
    exact (kclose0 hM ho).mono (fun x w' hh => ⟨hh.1, kst_made ht hf hx hh.2⟩)
theorem KSt.len0 (h : KSt w0 w c dg room K X) : Calls Try.prog 32 #[.pointer (some ⟨c, 0, none⟩), .int .i64 0] w fun x w' => x = .returned (.int .i64 ((K 0).b.length : Nat)) ∧ w = w' := by
  obtain ⟨V, hM, ht, hf, hx⟩ := h
  exact klen0 hM
theorem KSt.pieces0 (h : KSt w0 w c dg room K X) : Calls Try.prog 34 #[.pointer (some ⟨c, 0, none⟩), .int .i64 0] w fun x w' => x = .returned (.int .i64 ((K 0).p.length : Nat)) ∧ w = w' := by
  obtain ⟨V, hM, ht, hf, hx⟩ := h
  exact kpieces0 hM
theorem KSt.open0 (h : KSt w0 w c dg room K X) : Calls Try.prog 35 #[.pointer (some ⟨c, 0, none⟩), .int .i64 0] w fun x w' => x = .returned (.bool (K 0).op) ∧ w = w' := by
  obtain ⟨V, hM, ht, hf, hx⟩ := h
  exact kopen0 hM
theorem KSt.shows0 (h : KSt w0 w c dg room K X) : Calls Try.prog 36 #[.pointer (some ⟨c, 0, none⟩), .int .i64 0] w fun x w' => x = .returned (.int .i64 (shE room (K 0) (K 1))) ∧ Turn NoBlock w w' := by
  obtain ⟨V, hM, ht, hf, hx⟩ := h
  exact kshows0 hM
theorem KSt.write1 (h : KSt w0 w c dg room K X) (vb : Value) (b : List UInt8) (hb : b.length ≤ 1000000) (hr : Rk w vb b) :
    Calls Try.prog 25 #[.pointer (some ⟨c, 0, none⟩), .int .i64 1, vb] w fun x w' => x = .returned (.tuple #[.int .i64 (wrN dg room K 1 b.length : Nat), .int .i64 (wrS dg room K 1 b.length)]) ∧ KSt w0 w' c dg room (wrK dg room K 1 b) X ∧ Kp X w w' := by
  obtain ⟨V, hM, ht, hf, hx⟩ := h
  have hK : KSt w0 w c dg room K X := ⟨V, hM, ht, hf, hx⟩
  have e0 : oth 1 = 0 := rfl
  unfold wrK wrN
  cases ho : (K 1).op with
  | false =>
    have e1 : wrS dg room K 1 b.length = -24 := by unfold wrS; rw [if_pos ho]
    rw [e1, if_neg (by decide), if_neg (by decide)]
    exact (kwrite_shut1 hM ho vb).mono (fun x w' hh => ⟨hh.1, by rw [← hh.2]; exact hK.kp (Turn.refl _ _)⟩)
  | true =>
    have e2 : wrS dg room K 1 b.length = if wayS (K 1) (K 0) = 0 then fitS dg room (room - (K 0).b.length) b.length else wayS (K 1) (K 0) := by unfold wrS; rw [if_neg (by rw [ho]; decide)]; rfl
    by_cases hw : wayS (K 1) (K 0) = 0
    · rw [if_pos hw] at e2
      rw [e2]
      by_cases hs : fitS dg room (room - (K 0).b.length) b.length = 0
      · rw [if_pos hs, if_pos hs, e0, hs]
        cases dg with
        | false => exact (kput1_s hM ho hw vb b hb hr hs).mono (fun x w' hh => ⟨hh.1, kst_made ht hf hx hh.2⟩)
        | true => exact (kput1_d hM ho hw vb b hb hr hs).mono (fun x w' hh => ⟨hh.1, kst_made ht hf hx hh.2⟩)
      · rw [if_neg hs, if_neg hs]
        obtain ⟨p, ca, rfl, -⟩ := hr.sl
        exact (kwrite_no1 hM ho hw p b.length ca (by unfold maxLen; omega) hs).mono (fun x w' hh => ⟨hh.1, hK.kp hh.2⟩)
    · rw [if_neg hw] at e2
      rw [e2, if_neg hw, if_neg hw]
      exact (kwrite_way1 hM ho hw vb).mono (fun x w' hh => ⟨hh.1, hK.kp hh.2⟩)
theorem KSt.read1 (h : KSt w0 w c dg room K X) (n : Int) (pk : Bool) :
    Calls Try.prog 28 #[.pointer (some ⟨c, 0, none⟩), .int .i64 1, .int .i64 n, .bool pk] w fun x w' => ∃ v, x = .returned (.tuple #[v, .int .i64 (rdSt K 1 n)]) ∧ Byts v (rdB K 1 n) w' ∧ KSt w0 w' c dg room (rdK K 1 n pk) (fun k => X k ∨ Blk v k) ∧ Kp X w w' ∧ ∀ k, Blk v k → w.heap.size ≤ k := by
  obtain ⟨V, hM, ht, hf, hx⟩ := h
  have hK : KSt w0 w c dg room K X := ⟨V, hM, ht, hf, hx⟩
  have nothing : ∀ (u : Int), u ≠ 0 → rdSt K 1 n = u → ∀ (x : Ending) (w' : World), (x = .returned (.tuple #[.slice none 0 0, .int .i64 u]) ∧ Turn NoBlock w w') → ∃ v, x = .returned (.tuple #[v, .int .i64 (rdSt K 1 n)]) ∧ Byts v (rdB K 1 n) w' ∧ KSt w0 w' c dg room (rdK K 1 n pk) (fun k => X k ∨ Blk v k) ∧ Kp X w w' ∧ ∀ k, Blk v k → w.heap.size ≤ k := by
    rintro u hu hr x w' ⟨rfl, t⟩
    refine ⟨_, by rw [hr], ?_, ?_, Kp.of_past t, fun k hk => (blk_nil k hk).elim⟩
    · unfold rdB; rw [hr, if_neg hu]; exact byts_nil _
    · unfold rdK; rw [hr, if_neg (fun h => hu h.1)]
      exact (hK.past t).fewer (fun k hk => hk.elim (fun h => h) (fun h => (blk_nil k h).elim))
  cases ho : (K 1).op with
  | false => exact (kread_shut1 hM ho n pk).mono (fun x w' hh => nothing (-24) (by decide) (by unfold rdSt; rw [if_pos ho]) x w' ⟨hh.1, by rw [← hh.2]; exact Turn.refl _ _⟩)
  | true =>
    have e1 : ¬ (K 1).op = false := by rw [ho]; decide
    by_cases hn : n < 0
    · exact (kread_neg1 hM ho n hn pk).mono (fun x w' hh => nothing (-10) (by decide) (by unfold rdSt; rw [if_neg e1, if_pos hn]) x w' ⟨hh.1, by rw [← hh.2]; exact Turn.refl _ _⟩)
    · by_cases hb : (K 1).b = []
      · exact (kread_none1 hM ho hb n (by omega) pk).mono (fun x w' hh => nothing _ (rdS_ne _ _) (by unfold rdSt; rw [if_neg e1, if_neg hn, if_pos hb]; rfl) x w' hh)
      · have hs : rdSt K 1 n = 0 := by unfold rdSt; rw [if_neg e1, if_neg hn, if_neg hb]
        have h0 : 0 < (K 1).b.length := List.length_pos_iff.2 hb
        have hok := hM.ok 1 (by omega)
        have hfl := firstN_le hok
        obtain ⟨k, rfl⟩ : ∃ k : Nat, n = k := ⟨n.toNat, by omega⟩
        have hm : rdM K 1 k = min k (firstN (K 1)) := by unfold rdM; simp
        have hml : rdM K 1 k ≤ (K 1).b.length := by omega
        have hEl : (K 1).b.length ≤ 2000000 := by have := hok.len; have := hM.r2; omega
        have hPl : (K 1).p.length ≤ 2000000 := by have := hok.plen; have := hM.r2; omega
        have EA : EAt w c 7 (K 1) (V 1) := hM.s 1 (by omega)
        have core := kread_core1 hM ho h0 k (firstN (K 1)) (rdM K 1 k) hfl (by omega) (dropE (K 1) (rdM K 1 k)) (dropE_ok hok ho hml h0) (fun W t => by
          unfold firstN
          cases hp : (K 1).p with
          | nil => exact kfirst_b (EA.kept t (fun _ _ h => h)) hp
          | cons x r => exact kfirst_p (EA.kept t (fun _ _ h => h)) hp hPl) (fun W t => by
          cases hp : (K 1).p with
          | nil =>
            have e3 : dropE (K 1) (rdM K 1 k) = { K 1 with b := (K 1).b.drop (rdM K 1 k) } := dropE_nil hp
            rw [e3]
            exact kdrop_b (EA.kept t (fun _ _ h => h)) hp hml h0 hEl
          | cons x r =>
            have e3 : dropE (K 1) (rdM K 1 k) = { K 1 with b := (K 1).b.drop x, p := r } := dropE_cons hp
            have hx1 : firstN (K 1) = x := by unfold firstN; rw [hp]
            have hdg : dg = true := by
              cases dg with
              | true => rfl
              | false => have := hok.no rfl; rw [hp] at this; cases this
            have hsum := hok.sum hdg
            rw [hp] at hsum
            simp at hsum
            have hpos := hok.pos hdg
            rw [hp] at hpos
            rw [e3]
            refine kdrop_p (EA.kept t (fun _ _ h => h)) hp (by omega) (hpos x (by simp)) (fun hz => ?_) hEl hPl _
            have := sum_len (l := r) (fun y hy => hpos y (by simp [hy]))
            exact List.eq_nil_of_length_eq_zero (by omega)) pk
        refine core.mono ?_
        rintro x w' ⟨v, rfl, hR⟩
        obtain ⟨r1, r2, r3, r4⟩ := kst_read ht hf hx hR
        refine ⟨v, by rw [hs], ?_, ?_, r3, r4⟩
        · unfold rdB; rw [if_pos hs]; exact r1
        · unfold rdK
          rw [hs]
          cases pk with
          | true => rw [if_neg (by simp)]; exact r2
          | false => rw [if_pos (by simp)]; exact r2
theorem KSt.shut1 (h : KSt w0 w c dg room K X) (a b : Bool) : Calls Try.prog 30 #[.pointer (some ⟨c, 0, none⟩), .int .i64 1, .bool a, .bool b] w fun x w' => x = .returned (.int .i64 (shutS K 1)) ∧ KSt w0 w' c dg room (shutK K 1 a b) X ∧ Kp X w w' := by
  obtain ⟨V, hM, ht, hf, hx⟩ := h
  have hK : KSt w0 w c dg room K X := ⟨V, hM, ht, hf, hx⟩
  unfold shutS shutK
  cases ho : (K 1).op with
  | false =>
    exact (kshut_no1 hM ho a b).mono (fun x w' hh => ⟨hh.1, by rw [← hh.2]; exact hK.kp (Turn.refl _ _)⟩)
  | true =>
    exact (kshut1 hM ho a b).mono (fun x w' hh => ⟨hh.1, kst_made ht hf hx hh.2⟩)
theorem KSt.close1 (h : KSt w0 w c dg room K X) : Calls Try.prog 31 #[.pointer (some ⟨c, 0, none⟩), .int .i64 1] w fun x w' => x = .returned (.int .i64 (shutS K 1)) ∧ KSt w0 w' c dg room (closeK K 1) X ∧ Kp X w w' := by
  obtain ⟨V, hM, ht, hf, hx⟩ := h
  have hK : KSt w0 w c dg room K X := ⟨V, hM, ht, hf, hx⟩
  unfold shutS closeK
  cases ho : (K 1).op with
  | false =>
    exact (kclose_no1 hM ho).mono (fun x w' hh => ⟨hh.1, by rw [← hh.2]; exact hK.kp (Turn.refl _ _)⟩)
  | true =>
    exact (kclose1 hM ho).mono (fun x w' hh => ⟨hh.1, kst_made ht hf hx hh.2⟩)
theorem KSt.len1 (h : KSt w0 w c dg room K X) : Calls Try.prog 32 #[.pointer (some ⟨c, 0, none⟩), .int .i64 1] w fun x w' => x = .returned (.int .i64 ((K 1).b.length : Nat)) ∧ w = w' := by
  obtain ⟨V, hM, ht, hf, hx⟩ := h
  exact klen1 hM
theorem KSt.pieces1 (h : KSt w0 w c dg room K X) : Calls Try.prog 34 #[.pointer (some ⟨c, 0, none⟩), .int .i64 1] w fun x w' => x = .returned (.int .i64 ((K 1).p.length : Nat)) ∧ w = w' := by
  obtain ⟨V, hM, ht, hf, hx⟩ := h
  exact kpieces1 hM
theorem KSt.open1 (h : KSt w0 w c dg room K X) : Calls Try.prog 35 #[.pointer (some ⟨c, 0, none⟩), .int .i64 1] w fun x w' => x = .returned (.bool (K 1).op) ∧ w = w' := by
  obtain ⟨V, hM, ht, hf, hx⟩ := h
  exact kopen1 hM
theorem KSt.shows1 (h : KSt w0 w c dg room K X) : Calls Try.prog 36 #[.pointer (some ⟨c, 0, none⟩), .int .i64 1] w fun x w' => x = .returned (.int .i64 (shE room (K 1) (K 0))) ∧ Turn NoBlock w w' := by
  obtain ⟨V, hM, ht, hf, hx⟩ := h
  exact kshows1 hM
end
end Go.Proofs.Ytocaebcbmfejbaa
