/-
  The program's socket and the reference's side by side: what Read makes of both. No conditions.
-/
import Derived.Test.YtocaebcbmfejbaaRKLaw
namespace Go.Proofs.Ytocaebcbmfejbaa
open Go.RowKit

theorem ones {l : Pcs} (h : ∀ q ∈ l, q.2.length = 1) : (pb l).length = l.length ∧ ∀ m, pb (l.take m) = (pb l).take m ∧ pb (l.drop m) = (pb l).drop m := by
  induction l with
  | nil => exact ⟨rfl, fun m => by simp [pb]⟩
  | cons q l ih =>
    have h1 := h q (by simp)
    obtain ⟨i1, i2⟩ := ih (fun p hp => h p (by simp [hp]))
    have hc : pb (q :: l) = q.2 ++ pb l := by simp [pb]
    refine ⟨by rw [hc, List.length_append, h1, i1, List.length_cons]; omega, fun m => ?_⟩
    cases m with
    | zero => exact ⟨by simp [pb], rfl⟩
    | succ m =>
      obtain ⟨z, hz⟩ : ∃ z, q.2 = [z] := by
        match hh : q.2, h1 with
        | [y], _ => exact ⟨y, rfl⟩
      have h2 : pb (q :: l.take m) = z :: pb (l.take m) := by simp [pb, hz]
      have h3 : pb (q :: l) = z :: pb l := by simp [pb, hz]
      rw [List.take_succ_cons, List.drop_succ_cons, h2, h3, (i2 m).1, (i2 m).2, List.take_succ_cons, List.drop_succ_cons]
      exact ⟨rfl, rfl⟩
section
variable {w : World} {x room : Nat} {dg : Bool} {C M D : Nat → Bool} {U : Nat → Value} {Q : Nat → Pcs} {K : Nat → En}
theorem rr0 (h : RAt w x dg room C M D U Q) (R : Rel dg room K C M D Q) (hr2 : room ≤ 1048576) (n : Int) (hn : n ≤ 9223372036854775807) (pk : Bool) :
    Calls Try.prog 29 #[.pointer (some ⟨x, 0, none⟩), .int .i64 0, .int .i64 n, .bool pk] w fun y w' => ∃ v, y = .returned (.tuple #[v, .int .i64 (rdSt K 0 n)]) ∧ Byts v (rdB K 0 n) w' ∧ ∃ Q', RMadeQ w w' x dg room C M D U Q (fun _ => False) Q' ∧ Rel dg room (rdK K 0 n pk) C M D Q' := by
  have no : ∀ u : Int, u ≠ 0 → rdSt K 0 n = u → ∀ (y : Ending) (w' : World), (y = .returned (.tuple #[.slice none 0 0, .int .i64 u]) ∧ w = w') → ∃ v, y = .returned (.tuple #[v, .int .i64 (rdSt K 0 n)]) ∧ Byts v (rdB K 0 n) w' ∧ ∃ Q', RMadeQ w w' x dg room C M D U Q (fun _ => False) Q' ∧ Rel dg room (rdK K 0 n pk) C M D Q' := by
    rintro u hu hs y w' ⟨rfl, rfl⟩
    unfold rdB rdK
    rw [hs, if_neg hu, if_neg (fun h => hu h.1)]
    exact ⟨_, rfl, byts_nil _, Q, RMadeQ.refl2 h (Turn.refl _ _), R⟩
  cases ho : (K 0).op with
  | false =>
    have hc : C 0 = true := by rw [R.c 0 (by omega), ho]; rfl
    exact (rread_closed0 h hc n pk).mono (no (-24) (by decide) (by unfold rdSt; rw [if_pos ho]))
  | true =>
    have hc : C 0 = false := by rw [R.c 0 (by omega), ho]; rfl
    have e1 : ¬ (K 0).op = false := by rw [ho]; decide
    by_cases hneg : n < 0
    · exact (rread_neg0 h hc n hneg pk).mono (no (-10) (by decide) (by unfold rdSt; rw [if_neg e1, if_pos hneg]))
    · have hbE := R.b 0 (by omega)
      by_cases hb : (K 0).b = []
      · have hq : Q 0 = [] := by
          have h1 := len_le_pb (R.pos 0 (by omega))
          rw [← hbE, hb] at h1
          exact List.eq_nil_of_length_eq_zero (by simpa using h1)
        have hs2 : rdSt K 0 n = rdS (K 1) (K 0) := by unfold rdSt; rw [if_neg e1, if_neg hneg, if_pos hb]; rfl
        refine (rread_none0 h hc n (by omega) pk hq (rdS (K 1) (K 0)) ?_).mono (no _ (rdS_ne _ _) hs2)
        unfold rdS wayS
        rw [R.c 1 (by omega), R.d 0 (by omega) ho]
        cases hp : (K 1).op with
        | false => left; simp
        | true =>
          rw [R.m 1 (by omega) hp, ho]
          cases (K 0).nr <;> cases (K 1).nw <;> simp
      · have hs : rdSt K 0 n = 0 := by unfold rdSt; rw [if_neg e1, if_neg hneg, if_neg hb]
        obtain ⟨k, rfl⟩ : ∃ k : Nat, n = k := ⟨n.toNat, by omega⟩
        have hm : rdM K 0 k = min k (firstN (K 0)) := by unfold rdM; simp
        have hok := R.ok 0 (by omega)
        have h0 : 0 < (K 0).b.length := List.length_pos_iff.2 hb
        have hql := R.qlen (e := 0) (by omega)
        have hbl := R.blen (e := 0) (by omega)
        have hQ0 : 0 < (Q 0).length := by
          apply Nat.pos_of_ne_zero
          intro hz
          have hz2 := List.eq_nil_of_length_eq_zero hz
          rw [hbE, hz2] at h0
          simp [pb] at h0
        have hkm : k ≤ maxLen := by unfold maxLen; omega
        have fin : ∀ (w' : World) (v : Value) (bs : List UInt8) (l : Pcs) (s : En), Byts v bs w' → RMadeQ w w' x dg room C M D U Q (fun _ => False) (if pk then Q else updN Q 0 l) → rdB K 0 k = bs → dropE (K 0) (rdM K 0 k) = s → Rel dg room (updN K 0 s) C M D (updN Q 0 l) → Byts v (rdB K 0 k) w' ∧ ∃ Q', RMadeQ w w' x dg room C M D U Q (fun _ => False) Q' ∧ Rel dg room (rdK K 0 k pk) C M D Q' := by
          intro w' v bs l s h1 h2 h3 h4 h5
          refine ⟨by rw [h3]; exact h1, _, h2, ?_⟩
          unfold rdK
          rw [hs, h4]
          cases pk with
          | true => simpa using R
          | false => simpa using h5
        have hrb : rdB K 0 k = (K 0).b.take (rdM K 0 k) := by unfold rdB; rw [if_pos hs]
        cases dg with
        | true =>
          obtain ⟨q, r, hq⟩ : ∃ q r, Q 0 = q :: r := by
            cases hh : Q 0 with
            | nil => rw [hh] at hQ0; simp at hQ0
            | cons q r => exact ⟨q, r, rfl⟩
          have hp : (K 0).p = q.2.length :: pl r := by rw [R.p 0 (by omega) rfl, hq]; rfl
          have hf : firstN (K 0) = q.2.length := by unfold firstN; rw [hp]
          have hpb : (K 0).b = q.2 ++ pb r := by rw [hbE, hq]; simp [pb]
          have hqb : q.2.length ≤ room := by rw [hq] at hbl; simp [pb] at hbl; omega
          refine (rread_d0 h hc k hkm pk q r hq (by omega) (by omega) (rdM K 0 k) (by rw [hm, hf])).mono ?_
          rintro y w' ⟨v, rfl, h1, h2⟩
          refine ⟨v, by rw [hs], fin w' v _ r _ h1 h2 ?_ (dropE_cons hp) ?_⟩
          · rw [hrb, hpb, List.take_append_of_le_length (by omega)]
          · have hdo : EOK true room (dropE (K 0) (rdM K 0 k)) := dropE_ok hok ho (by have := firstN_le hok; omega) h0
            rw [dropE_cons hp] at hdo
            refine R.set (by omega) hdo rfl rfl rfl ?_ (fun _ => rfl) (fun h => by cases h) (fun p hp2 => R.pos 0 (by omega) p (by rw [hq]; exact List.mem_cons_of_mem _ hp2))
            show (K 0).b.drop q.2.length = pb r
            rw [hpb, List.drop_left]
        | false =>
          have hp : (K 0).p = [] := hok.no rfl
          obtain ⟨o1, o2⟩ := ones (R.one 0 (by omega) rfl)
          have hf : firstN (K 0) = (Q 0).length := by unfold firstN; rw [hp]; show (K 0).b.length = _; rw [hbE, o1]
          refine (rread_s0 h hc k hkm pk hQ0 (R.one 0 (by omega) rfl) (by omega) (rdM K 0 k) (by rw [hm, hf])).mono ?_
          rintro y w' ⟨v, rfl, h1, h2⟩
          refine ⟨v, by rw [hs], fin w' v _ _ _ h1 h2 ?_ (dropE_nil hp) ?_⟩
          · rw [hrb, hbE, (o2 _).1]
          · have hdo : EOK false room (dropE (K 0) (rdM K 0 k)) := dropE_ok hok ho (by have := firstN_le hok; omega) h0
            rw [dropE_nil hp] at hdo
            refine R.set (by omega) hdo rfl rfl rfl ?_ (fun h => by cases h) (fun _ q hq => R.one 0 (by omega) rfl q (List.mem_of_mem_drop hq)) (fun q hq => R.pos 0 (by omega) q (List.mem_of_mem_drop hq))
            show (K 0).b.drop _ = _
            rw [hbE, (o2 _).2]
theorem rr1 (h : RAt w x dg room C M D U Q) (R : Rel dg room K C M D Q) (hr2 : room ≤ 1048576) (n : Int) (hn : n ≤ 9223372036854775807) (pk : Bool) :
    Calls Try.prog 29 #[.pointer (some ⟨x, 0, none⟩), .int .i64 1, .int .i64 n, .bool pk] w fun y w' => ∃ v, y = .returned (.tuple #[v, .int .i64 (rdSt K 1 n)]) ∧ Byts v (rdB K 1 n) w' ∧ ∃ Q', RMadeQ w w' x dg room C M D U Q (fun _ => False) Q' ∧ Rel dg room (rdK K 1 n pk) C M D Q' := by
  have no : ∀ u : Int, u ≠ 0 → rdSt K 1 n = u → ∀ (y : Ending) (w' : World), (y = .returned (.tuple #[.slice none 0 0, .int .i64 u]) ∧ w = w') → ∃ v, y = .returned (.tuple #[v, .int .i64 (rdSt K 1 n)]) ∧ Byts v (rdB K 1 n) w' ∧ ∃ Q', RMadeQ w w' x dg room C M D U Q (fun _ => False) Q' ∧ Rel dg room (rdK K 1 n pk) C M D Q' := by
    rintro u hu hs y w' ⟨rfl, rfl⟩
    unfold rdB rdK
    rw [hs, if_neg hu, if_neg (fun h => hu h.1)]
    exact ⟨_, rfl, byts_nil _, Q, RMadeQ.refl2 h (Turn.refl _ _), R⟩
  cases ho : (K 1).op with
  | false =>
    have hc : C 1 = true := by rw [R.c 1 (by omega), ho]; rfl
    exact (rread_closed1 h hc n pk).mono (no (-24) (by decide) (by unfold rdSt; rw [if_pos ho]))
  | true =>
    have hc : C 1 = false := by rw [R.c 1 (by omega), ho]; rfl
    have e1 : ¬ (K 1).op = false := by rw [ho]; decide
    by_cases hneg : n < 0
    · exact (rread_neg1 h hc n hneg pk).mono (no (-10) (by decide) (by unfold rdSt; rw [if_neg e1, if_pos hneg]))
    · have hbE := R.b 1 (by omega)
      by_cases hb : (K 1).b = []
      · have hq : Q 1 = [] := by
          have h1 := len_le_pb (R.pos 1 (by omega))
          rw [← hbE, hb] at h1
          exact List.eq_nil_of_length_eq_zero (by simpa using h1)
        have hs2 : rdSt K 1 n = rdS (K 0) (K 1) := by unfold rdSt; rw [if_neg e1, if_neg hneg, if_pos hb]; rfl
        refine (rread_none1 h hc n (by omega) pk hq (rdS (K 0) (K 1)) ?_).mono (no _ (rdS_ne _ _) hs2)
        unfold rdS wayS
        rw [R.c 0 (by omega), R.d 1 (by omega) ho]
        cases hp : (K 0).op with
        | false => left; simp
        | true =>
          rw [R.m 0 (by omega) hp, ho]
          cases (K 1).nr <;> cases (K 0).nw <;> simp
      · have hs : rdSt K 1 n = 0 := by unfold rdSt; rw [if_neg e1, if_neg hneg, if_neg hb]
        obtain ⟨k, rfl⟩ : ∃ k : Nat, n = k := ⟨n.toNat, by omega⟩
        have hm : rdM K 1 k = min k (firstN (K 1)) := by unfold rdM; simp
        have hok := R.ok 1 (by omega)
        have h0 : 0 < (K 1).b.length := List.length_pos_iff.2 hb
        have hql := R.qlen (e := 1) (by omega)
        have hbl := R.blen (e := 1) (by omega)
        have hQ0 : 0 < (Q 1).length := by
          apply Nat.pos_of_ne_zero
          intro hz
          have hz2 := List.eq_nil_of_length_eq_zero hz
          rw [hbE, hz2] at h0
          simp [pb] at h0
        have hkm : k ≤ maxLen := by unfold maxLen; omega
        have fin : ∀ (w' : World) (v : Value) (bs : List UInt8) (l : Pcs) (s : En), Byts v bs w' → RMadeQ w w' x dg room C M D U Q (fun _ => False) (if pk then Q else updN Q 1 l) → rdB K 1 k = bs → dropE (K 1) (rdM K 1 k) = s → Rel dg room (updN K 1 s) C M D (updN Q 1 l) → Byts v (rdB K 1 k) w' ∧ ∃ Q', RMadeQ w w' x dg room C M D U Q (fun _ => False) Q' ∧ Rel dg room (rdK K 1 k pk) C M D Q' := by
          intro w' v bs l s h1 h2 h3 h4 h5
          refine ⟨by rw [h3]; exact h1, _, h2, ?_⟩
          unfold rdK
          rw [hs, h4]
          cases pk with
          | true => simpa using R
          | false => simpa using h5
        have hrb : rdB K 1 k = (K 1).b.take (rdM K 1 k) := by unfold rdB; rw [if_pos hs]
        cases dg with
        | true =>
          obtain ⟨q, r, hq⟩ : ∃ q r, Q 1 = q :: r := by
            cases hh : Q 1 with
            | nil => rw [hh] at hQ0; simp at hQ0
            | cons q r => exact ⟨q, r, rfl⟩
          have hp : (K 1).p = q.2.length :: pl r := by rw [R.p 1 (by omega) rfl, hq]; rfl
          have hf : firstN (K 1) = q.2.length := by unfold firstN; rw [hp]
          have hpb : (K 1).b = q.2 ++ pb r := by rw [hbE, hq]; simp [pb]
          have hqb : q.2.length ≤ room := by rw [hq] at hbl; simp [pb] at hbl; omega
          refine (rread_d1 h hc k hkm pk q r hq (by omega) (by omega) (rdM K 1 k) (by rw [hm, hf])).mono ?_
          rintro y w' ⟨v, rfl, h1, h2⟩
          refine ⟨v, by rw [hs], fin w' v _ r _ h1 h2 ?_ (dropE_cons hp) ?_⟩
          · rw [hrb, hpb, List.take_append_of_le_length (by omega)]
          · have hdo : EOK true room (dropE (K 1) (rdM K 1 k)) := dropE_ok hok ho (by have := firstN_le hok; omega) h0
            rw [dropE_cons hp] at hdo
            refine R.set (by omega) hdo rfl rfl rfl ?_ (fun _ => rfl) (fun h => by cases h) (fun p hp2 => R.pos 1 (by omega) p (by rw [hq]; exact List.mem_cons_of_mem _ hp2))
            show (K 1).b.drop q.2.length = pb r
            rw [hpb, List.drop_left]
        | false =>
          have hp : (K 1).p = [] := hok.no rfl
          obtain ⟨o1, o2⟩ := ones (R.one 1 (by omega) rfl)
          have hf : firstN (K 1) = (Q 1).length := by unfold firstN; rw [hp]; show (K 1).b.length = _; rw [hbE, o1]
          refine (rread_s1 h hc k hkm pk hQ0 (R.one 1 (by omega) rfl) (by omega) (rdM K 1 k) (by rw [hm, hf])).mono ?_
          rintro y w' ⟨v, rfl, h1, h2⟩
          refine ⟨v, by rw [hs], fin w' v _ _ _ h1 h2 ?_ (dropE_nil hp) ?_⟩
          · rw [hrb, hbE, (o2 _).1]
          · have hdo : EOK false room (dropE (K 1) (rdM K 1 k)) := dropE_ok hok ho (by have := firstN_le hok; omega) h0
            rw [dropE_nil hp] at hdo
            refine R.set (by omega) hdo rfl rfl rfl ?_ (fun h => by cases h) (fun _ q hq => R.one 1 (by omega) rfl q (List.mem_of_mem_drop hq)) (fun q hq => R.pos 1 (by omega) q (List.mem_of_mem_drop hq))
            show (K 1).b.drop _ = _
            rw [hbE, (o2 _).2]
end
end Go.Proofs.Ytocaebcbmfejbaa
