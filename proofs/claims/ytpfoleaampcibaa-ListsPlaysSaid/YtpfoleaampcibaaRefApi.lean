/-
  What the calls of the reference's lists answer, whatever the numbers, and what they make of the queues. No conditions but that the lists are such as calls can make.
-/
import Derived.Test.YtpfoleaampcibaaRefCalls2
import Derived.Test.YtpfoleaampcibaaRefSplice
namespace Go.Proofs.Ytpfoleaampcibaa
open Go.ChangeShapes Go.WideShapes Go.ChangeAt Go.RowKit

/-- What a call of the reference leaves. -/
def RefNext (w : World) (x : Nat) (R : Nat → Prop) (n k : Nat) (L : Nat → List Nat) (w' : World) : Prop :=
  ∃ R', RefAt w' x R' n k L ∧ Turn R w w' ∧ ∀ j, R' j → R j ∨ w.heap.size ≤ j
theorem RefNext.same {w : World} {x : Nat} {R : Nat → Prop} {n k : Nat} {L : Nat → List Nat} (h : RefAt w x R n k L) : RefNext w x R n k L w := ⟨R, h, Turn.refl _ _, fun _ h => .inl h⟩

theorem rput_no (f : Nat) (w : World) (x : Nat) (n k : Nat) (L : Nat → List Nat) (q i : Int) (qb : Nat) (vs : Nat → Value) (h : RefMem w x qb n k vs L) (ap : Apart n k L) (hk : k ≤ 65536) (hn : n ≤ 65536) (hp : putS n k L q i ≠ 0) (hf : f = 11 ∨ f = 13) :
    Calls Try.prog f #[.pointer (some ⟨x, 0, none⟩), .int .i64 q, .int .i64 i] w fun e w' => e = .returned (.int .i64 (putS n k L q i)) ∧ w = w' := by
  have cc := rcheck_any w x qb n k vs L q i h ap hk hn
  obtain ⟨s, hs⟩ : ∃ s, putS n k L q i = s := ⟨_, rfl⟩
  rw [hs] at cc hp ⊢
  have hb : (s == 0) = false := by simpa using hp
  clear h ap hs hp
  rcases hf with rfl | rfl
  · go_enter Try.func11, Try.ntmps11
    go_wp2_with (go_at_call 30; (with_reducible refine cc.mono ?_); rintro e w' ⟨rfl, rfl⟩)
    go_ret
    exact ⟨rfl, rfl⟩
  · go_enter Try.func13, Try.ntmps13
    go_wp2_with (go_at_call 30; (with_reducible refine cc.mono ?_); rintro e w' ⟨rfl, rfl⟩)
    go_ret
    exact ⟨rfl, rfl⟩

theorem rpush_any (w : World) (x : Nat) (R : Nat → Prop) (n k : Nat) (L : Nat → List Nat) (q i : Int) (h : RefAt w x R n k L) (ap : Apart n k L) (hk : k ≤ 65536) (hn : n ≤ 65536) :
    Calls Try.prog 11 #[.pointer (some ⟨x, 0, none⟩), .int .i64 q, .int .i64 i] w fun e w' => e = .returned (.int .i64 (putS n k L q i)) ∧ RefNext w x R n k (pushL n k L q i) w' := by
  have h' := h
  obtain ⟨qb, vs, hm, rfl⟩ := h
  unfold pushL
  by_cases hp : putS n k L q i = 0
  · obtain ⟨h1, h2, h3⟩ := putS_ok hp
    obtain ⟨a, rfl, ha⟩ := inQ_nat h1
    obtain ⟨b, rfl, hb⟩ := inQ_nat h2
    rw [hp, if_pos rfl]
    simp only [Int.toNat_natCast] at h3 ⊢
    exact rpush_ok w x qb n k vs L a b hm ap hk hn ha hb h3
  · rw [if_neg hp]
    refine (rput_no 11 w x n k L q i qb vs hm ap hk hn hp (.inl rfl)).mono ?_
    rintro e w' ⟨rfl, rfl⟩
    exact ⟨rfl, .same h'⟩
theorem rfront_any (w : World) (x : Nat) (R : Nat → Prop) (n k : Nat) (L : Nat → List Nat) (q i : Int) (h : RefAt w x R n k L) (ap : Apart n k L) (hk : k ≤ 65536) (hn : n ≤ 65536) :
    Calls Try.prog 13 #[.pointer (some ⟨x, 0, none⟩), .int .i64 q, .int .i64 i] w fun e w' => e = .returned (.int .i64 (putS n k L q i)) ∧ RefNext w x R n k (frontL n k L q i) w' := by
  have h' := h
  obtain ⟨qb, vs, hm, rfl⟩ := h
  unfold frontL
  by_cases hp : putS n k L q i = 0
  · obtain ⟨h1, h2, h3⟩ := putS_ok hp
    obtain ⟨a, rfl, ha⟩ := inQ_nat h1
    obtain ⟨b, rfl, hb⟩ := inQ_nat h2
    rw [hp, if_pos rfl]
    simp only [Int.toNat_natCast] at h3 ⊢
    exact rfront_ok w x qb n k vs L a b hm ap hk hn ha hb h3
  · rw [if_neg hp]
    refine (rput_no 13 w x n k L q i qb vs hm ap hk hn hp (.inr rfl)).mono ?_
    rintro e w' ⟨rfl, rfl⟩
    exact ⟨rfl, .same h'⟩

theorem rremove_any (w : World) (x : Nat) (R : Nat → Prop) (n k : Nat) (L : Nat → List Nat) (i : Int) (h : RefAt w x R n k L) (ap : Apart n k L) (hk : k ≤ 65536) (hn : n ≤ 65536) :
    Calls Try.prog 17 #[.pointer (some ⟨x, 0, none⟩), .int .i64 i] w fun e w' => e = .returned (.int .i64 (remS n k L i)) ∧ RefNext w x R n k (remL n k L i) w' := by
  have h' := h
  obtain ⟨qb, vs, hm, rfl⟩ := h
  unfold remL remS
  by_cases hin : inQ n i
  · obtain ⟨b, rfl, hb⟩ := inQ_nat hin
    rw [if_pos hin]
    simp only [Int.toNat_natCast]
    by_cases hz : whereOf k L b = -1
    · rw [if_pos hz, if_neg (by decide)]
      have cw := rwhere_any w x qb n k vs L b hm ap hk hn
      rw [hz] at cw
      have c1 := hm.c1
      have H : Hid (RefAt w x (RFoot x qb k vs) n k L) := h'
      clear h' hm ap hin hz
      go_enter Try.func17, Try.ntmps17
      go_wp2_with (go_at_call 20; (with_reducible refine cw.mono ?_); rintro e w' ⟨rfl, rfl⟩)
      go_ret
      exact ⟨rfl, .same H.out⟩
    · obtain ⟨p, h1, h2, h3⟩ := where_some hz
      rw [if_neg hz, if_pos rfl, h2]
      simp only [Int.toNat_natCast]
      exact rremove_ok w x qb n k vs L p b hm ap hk hn h1 hb h3
  · rw [if_neg hin, if_neg (by decide)]
    have c1 := hm.c1
    have H : Hid (RefAt w x (RFoot x qb k vs) n k L) := h'
    have hc : i < 0 ∨ (0 ≤ i ∧ (n : Int) ≤ i) := by unfold inQ at hin; omega
    clear h' hm ap hin
    rcases hc with g1 | ⟨g1, g2⟩
    all_goals
      go_enter Try.func17, Try.ntmps17
      go_wp2
      go_ret
      exact ⟨rfl, .same H.out⟩

theorem rpop_any (w : World) (x : Nat) (R : Nat → Prop) (n k : Nat) (L : Nat → List Nat) (q : Int) (h : RefAt w x R n k L) (ap : Apart n k L) (hk : k ≤ 65536) (hn : n ≤ 65536) :
    Calls Try.prog 15 #[.pointer (some ⟨x, 0, none⟩), .int .i64 q] w fun e w' => e = .returned (.tuple #[.int .i64 (popI k L q), .int .i64 (popS k L q)]) ∧ RefNext w x R n k (popL k L q) w' := by
  have h' := h
  obtain ⟨qb, vs, hm, rfl⟩ := h
  unfold popI popL popS listOf
  have c0 := hm.c0
  have H : Hid (RefAt w x (RFoot x qb k vs) n k L) := h'
  by_cases hin : inQ k q
  · obtain ⟨j, rfl, hj⟩ := inQ_nat hin
    rw [if_pos hin, if_pos hin]
    simp only [Int.toNat_natCast]
    obtain ⟨pr, cr, -, c1, hI⟩ := ref_row hm hj
    have hji : (j : Int) < k := by omega
    by_cases hl : L j = []
    · rw [if_pos hl, if_neg (by decide), hl]
      rw [hl] at c1
      simp only [List.length_nil] at c1
      clear h' hm ap hin hl hI
      go_enter Try.func15, Try.ntmps15
      go_wp2
      go_ret2
      exact ⟨rfl, .same H.out⟩
    · rw [if_neg hl, if_pos rfl]
      obtain ⟨y, l, hl⟩ : ∃ y l, L j = y :: l := by
        cases e : L j with
        | nil => exact absurd e hl
        | cons y l => exact ⟨y, l, rfl⟩
      have hym : y ∈ L j := by rw [hl]; simp
      have hyn := ap.lt j y hj hym
      have cr := rremove_ok w x qb n k vs L j y hm ap hk hn hj hyn hym
      rw [hl, List.erase_cons_head] at cr
      obtain ⟨m, hlm⟩ : ∃ m, (L j).length = m := ⟨_, rfl⟩
      have hmp : 0 < m := by rw [← hlm, hl]; simp
      have hm1 : m ≤ 65536 := by
        have := nodup_len n (L j) (ap.nodup j hj) (fun y hy => ap.lt j y hj hy)
        omega
      obtain ⟨g, cc, he, hcc, hcc'⟩ := ints_shape hI (by rw [castL_len]; omega)
      simp only [Value.slice.injEq] at he
      obtain ⟨rfl, hee, rfl⟩ := he
      clear hee
      have k1 := ints_cell hI 0 (by rw [castL_len]; omega)
      rw [castL_getD, hl] at k1
      simp only [List.getD_cons_zero] at k1
      rw [hlm] at c1
      rw [castL_len, hlm] at hcc
      rw [hl]
      simp only [List.headD_cons, List.tail_cons]
      have hne : ((m : Int) == 0) = false := by simp; omega
      clear h' hm ap hin hl hI hym hyn hlm
      go_enter Try.func15, Try.ntmps15
      go_wp2_with (go_at_call 17; (with_reducible refine cr.mono ?_); rintro e w' ⟨rfl, N⟩; have N' : Hid (RefNext w x (RFoot x qb k vs) n k (upd L j l) w') := N; clear N)
      go_ret2
      exact ⟨rfl, N'.out⟩
  · rw [if_neg hin, if_neg hin, if_neg (by decide)]
    have hc : q < 0 ∨ (0 ≤ q ∧ (k : Int) ≤ q) := by unfold inQ at hin; omega
    clear h' hm ap hin
    rcases hc with g1 | ⟨g1, g2⟩
    all_goals
      go_enter Try.func15, Try.ntmps15
      go_wp2
      go_ret2
      exact ⟨rfl, .same H.out⟩

theorem rsplice_any (w : World) (x : Nat) (R : Nat → Prop) (n k : Nat) (L : Nat → List Nat) (q g : Int) (h : RefAt w x R n k L) (ap : Apart n k L) (hn : n ≤ 65536) :
    Calls Try.prog 19 #[.pointer (some ⟨x, 0, none⟩), .int .i64 q, .int .i64 g] w fun e w' => e = .returned (.int .i64 (splS k q g)) ∧ RefNext w x R n k (splL k L q g) w' := by
  have h' := h
  obtain ⟨qb, vs, hm, rfl⟩ := h
  unfold splL splS
  have c0 := hm.c0
  by_cases hb : inQ k q ∧ inQ k g ∧ q ≠ g
  · rw [if_pos hb, if_pos rfl]
    obtain ⟨i, rfl, hi⟩ := inQ_nat hb.1
    obtain ⟨j, rfl, hj⟩ := inQ_nat hb.2.1
    have hne : i ≠ j := fun e => hb.2.2 (by rw [e])
    simp only [Int.toNat_natCast]
    exact rsplice_ok w x qb n k vs L i j hm ap hn hi hj hne
  · rw [if_neg hb, if_neg (by decide)]
    have H : Hid (RefAt w x (RFoot x qb k vs) n k L) := h'
    have hc : q < 0 ∨ (0 ≤ q ∧ (k : Int) ≤ q) ∨ (0 ≤ q ∧ q < k ∧ g < 0) ∨ (0 ≤ q ∧ q < k ∧ 0 ≤ g ∧ (k : Int) ≤ g) ∨ (0 ≤ q ∧ q < k ∧ q = g) := by unfold inQ at hb; omega
    clear h' hm ap hb
    rcases hc with g1 | ⟨g1, g2⟩ | ⟨g1, g2, g3⟩ | ⟨g1, g2, g3, g4⟩ | ⟨g1, g2, rfl⟩
    all_goals
      go_enter Try.func19, Try.ntmps19
      go_wp2
      go_ret
      exact ⟨rfl, .same H.out⟩

end Go.Proofs.Ytpfoleaampcibaa
