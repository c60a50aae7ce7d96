/-
  What Where, Len, First, Push, Front, Remove, Pop of lists answer, and what they make of the queues. No conditions but that the lists are such as calls can make.
-/
import Derived.Test.YtpfoleaampcibaaSmall
import Derived.Test.YtpfoleaampcibaaSays
namespace Go.Proofs.Ytpfoleaampcibaa
open Go.ChangeShapes Go.WideShapes Go.ChangeAt Go.RowKit

theorem where_any (w : World) (a : Nat) (F : Nat → Prop) (n k : Nat) (L : Nat → List Nat) (x : Int) (h : ListsAt w a F n k L) :
    Calls Try.prog 21 #[.pointer (some ⟨a, 0, none⟩), .int .i64 x] w fun e w' => e = .returned (.int .i64 (whereAt n k L x)) ∧ w = w' := by
  obtain ⟨p, c, r, hm, hr, rfl, rfl, rfl⟩ := h
  unfold whereAt
  by_cases hx : 0 ≤ x ∧ x < r.items
  · obtain ⟨j, rfl, hj⟩ := inQ_nat hx
    rw [if_pos hx]
    have c1 := hasi_yes w a p c r j hm (by omega) (by omega)
    have d1 := hm.c1
    have d2 := hm.q (i := j) (by omega)
    obtain ⟨N, hN⟩ : ∃ N, r.items + r.queues = N := ⟨_, rfl⟩
    have hxN : j < N := by omega
    rw [hr.where_of hj] at d2
    simp only [hN] at d1
    obtain ⟨z, hz⟩ : ∃ z, whereOf r.queues L j = z := ⟨_, rfl⟩
    simp only [Int.toNat_natCast]
    rw [hz] at d2 ⊢
    clear hm hr hN hj hx hz
    go_enter Try.func21, Try.ntmps21
    go_wp2_with (go_at_call 32; (with_reducible refine c1.mono ?_); rintro e w' ⟨rfl, rfl⟩)
    go_ret
    exact ⟨rfl, rfl⟩
  · rw [if_neg hx]
    have c1 := hasi_no w a p c r x hm (by omega)
    clear hm hr hx
    go_enter Try.func21, Try.ntmps21
    go_wp2_with (go_at_call 32; (with_reducible refine c1.mono ?_); rintro e w' ⟨rfl, rfl⟩)
    go_ret
    exact ⟨rfl, rfl⟩

theorem len_raw (w : World) (a p c : Nat) (r : Raw) (q : Nat) (hm : Mem w a p c r) (hq : q < r.queues) :
    Calls Try.prog 22 #[.pointer (some ⟨a, 0, none⟩), .int .i64 q] w fun e w' => e = .returned (.int .i64 (r.C q)) ∧ w = w' := by
  have c1 := hasq_yes w a p c r q hm (by omega) (by omega)
  have d1 := hm.c2
  have d2 := hm.n hq
  clear hm
  go_enter Try.func22, Try.ntmps22
  go_wp2_with (go_at_call 31; (with_reducible refine c1.mono ?_); rintro e w' ⟨rfl, rfl⟩)
  go_ret
  exact ⟨rfl, rfl⟩

theorem len_any (w : World) (a : Nat) (F : Nat → Prop) (n k : Nat) (L : Nat → List Nat) (q : Int) (h : ListsAt w a F n k L) :
    Calls Try.prog 22 #[.pointer (some ⟨a, 0, none⟩), .int .i64 q] w fun e w' => e = .returned (.int .i64 (listOf k L q).length) ∧ w = w' := by
  obtain ⟨p, c, r, hm, hr, rfl, rfl, rfl⟩ := h
  unfold listOf
  by_cases hx : inQ r.queues q
  · obtain ⟨j, rfl, hj⟩ := inQ_nat hx
    rw [if_pos hx]
    have := len_raw w a p c r j hm hj
    rw [hr.count j hj] at this
    exact this
  · rw [if_neg hx]
    have c1 := hasq_no w a p c r q hm (inQ_not hx)
    clear hm hr hx
    go_enter Try.func22, Try.ntmps22
    go_wp2_with (go_at_call 31; (with_reducible refine c1.mono ?_); rintro e w' ⟨rfl, rfl⟩)
    go_ret
    exact ⟨rfl, rfl⟩

theorem first_any (w : World) (a : Nat) (F : Nat → Prop) (n k : Nat) (L : Nat → List Nat) (q : Int) (h : ListsAt w a F n k L) :
    Calls Try.prog 23 #[.pointer (some ⟨a, 0, none⟩), .int .i64 q] w fun e w' => e = .returned (.int .i64 (firstOf k L q)) ∧ ∃ d, w' = w.drewN d := by
  have c0 := len_any w a F n k L q h
  unfold firstOf
  cases hl : listOf k L q with
  | nil =>
    rw [hl] at c0
    clear hl h
    go_enter Try.func23, Try.ntmps23
    go_wp2_with (go_at_call 22; (with_reducible refine c0.mono ?_); rintro e w' ⟨rfl, rfl⟩)
    go_ret
    exact ⟨rfl, 0, rfl⟩
  | cons x l =>
    rw [hl] at c0
    obtain ⟨m, hmm⟩ : ∃ m, (x :: l).length = m := ⟨_, rfl⟩
    have hm0 : 0 < m := by rw [← hmm]; simp
    rw [hmm] at c0
    have hq : inQ k q := by
      unfold listOf at hl
      split at hl
      · assumption
      · simp at hl
    unfold listOf at hl
    rw [if_pos hq] at hl
    obtain ⟨p, c, r, hm, hr, rfl, rfl, rfl⟩ := h
    obtain ⟨j, rfl, hj⟩ := inQ_nat hq
    have hb := hr.items
    have hb2 := hr.queues
    obtain ⟨hd, hh⟩ : ∃ hd, r.items + j = hd := ⟨_, rfl⟩
    have c1 := fun w h => head_any w a p c r j hd h hh (by omega)
    have d1 := hm.c1
    have d2 := hm.b (i := hd) (by omega)
    have hch := hr.chain j hj
    simp only [Int.toNat_natCast] at hl
    rw [hl, hh] at hch
    rw [hch.1] at d2
    obtain ⟨N, hN⟩ : ∃ N, r.items + r.queues = N := ⟨_, rfl⟩
    have hxN : hd < N := by omega
    simp only [hN] at d1
    have H : Hid (Mem w a p c r) := hm
    have hne : ((m : Int) == 0) = false := by simp; omega
    clear hm hr hN hj hb hb2 hh hch hl hmm hq
    go_enter Try.func23, Try.ntmps23
    go_wp2_with (go_at_call 22; (with_reducible refine c0.mono ?_); rintro e w' ⟨rfl, rfl⟩)
    go_quiet (first | (go_at_call 28; exact Calls.quiet_of_same ((c1 _ ((Hid.out H).drewN _)).mono (fun _ _ h => ⟨h.1, h.2.symm⟩))))
    go_wp2
    go_ret
    exact ⟨rfl, _, rfl⟩

theorem push_any (w : World) (a : Nat) (F : Nat → Prop) (n k : Nat) (L : Nat → List Nat) (q x : Int) (h : ListsAt w a F n k L) :
    Calls Try.prog 10 #[.pointer (some ⟨a, 0, none⟩), .int .i64 q, .int .i64 x] w fun e w' => e = .returned (.int .i64 (putS n k L q x)) ∧ ListsAt w' a F n k (pushL n k L q x) ∧ Turn F w w' := by
  have h' := h
  obtain ⟨p, c, r, hm, hr, rfl, rfl, rfl⟩ := h
  unfold pushL putS
  by_cases hin : inQ r.queues q ∧ inQ r.items x
  · obtain ⟨j, rfl, hj⟩ := inQ_nat hin.1
    obtain ⟨i, rfl, hi⟩ := inQ_nat hin.2
    rw [if_pos hin]
    simp only [Int.toNat_natCast]
    have hw := hr.where_of hi
    by_cases hq : whereOf r.queues L i = -1
    · rw [if_pos hq, if_pos rfl]
      rw [hq] at hw
      have c1 := free_ok w a p c r j i hm hj hi hw
      obtain ⟨hd, hh⟩ : ∃ hd, r.items + j = hd := ⟨_, rfl⟩
      have hb := hr.items
      have hb2 := hr.queues
      have c2 := head_any w a p c r j hd hm hh (by omega)
      have hA : r.A hd < r.items + r.queues := by
        have := hr.last_cases hj
        rw [hh] at this
        rcases this with ⟨e1, _⟩ | e1
        · omega
        · have := (hr.inn j hj _ e1).1; omega
      have hC : r.C j ≤ 65536 := by rw [hr.count j hj]; have := hr.len_le hj; omega
      have c3 := insert_any w a p c j (r.A hd) i hd r hm hj hA (by omega) (by omega) hC
      have d1 := hm.c1
      have d2 := hm.a' (i := hd) (by omega)
      have hp := hr.push hj hi hw
      rw [hh] at hp
      have HP : Hid (Rep (r.insert j (r.A hd) i hd) (upd L j (L j ++ [i]))) := hp
      obtain ⟨N, hN⟩ : ∃ N, r.items + r.queues = N := ⟨_, rfl⟩
      have hxN : hd < N := by omega
      simp only [hN] at d1
      obtain ⟨u, hu⟩ : ∃ u, r.A hd = u := ⟨_, rfl⟩
      rw [hu] at c3 d2 HP
      clear h' hm hr hw hj hi hq hin hh hb hb2 hA hC hp hN hu
      go_enter Try.func10, Try.ntmps10
      go_wp2_with (first
        | (go_at_call 27; (with_reducible refine c1.mono ?_); rintro e w' ⟨rfl, rfl⟩)
        | (go_at_call 28; (with_reducible refine c2.mono ?_); rintro e w' ⟨rfl, rfl⟩)
        | (go_at_call 29; (with_reducible refine c3.mono ?_); rintro e w1 ⟨rfl, M1, T1⟩; have M1' : Hid (Mem w1 a p c (r.insert j u i hd)) := M1; have T1' : Hid (Turn (Foot a p c) w w1) := T1; clear M1 T1))
      go_ret
      exact ⟨rfl, ⟨p, c, _, M1'.out, HP.out, rfl, rfl, rfl⟩, T1'.out⟩
    · rw [if_neg hq, if_neg (by decide)]
      have c1 := free_held w a p c r j i hm hj hi (by rw [hw]; exact hq)
      have H : Hid (ListsAt w a (Foot a p c) r.items r.queues L) := h'
      clear h' hm hr hw hj hi hq hin
      go_enter Try.func10, Try.ntmps10
      go_wp2_with (go_at_call 27; (with_reducible refine c1.mono ?_); rintro e w' ⟨rfl, rfl⟩)
      go_ret
      exact ⟨rfl, H.out, Turn.refl _ _⟩
  · rw [if_neg hin, if_neg (by decide)]
    have c1 := free_range w a p c r q x hm (by unfold inQ at hin; omega)
    have H : Hid (ListsAt w a (Foot a p c) r.items r.queues L) := h'
    clear h' hm hr hin
    go_enter Try.func10, Try.ntmps10
    go_wp2_with (go_at_call 27; (with_reducible refine c1.mono ?_); rintro e w' ⟨rfl, rfl⟩)
    go_ret
    exact ⟨rfl, H.out, Turn.refl _ _⟩

theorem front_any (w : World) (a : Nat) (F : Nat → Prop) (n k : Nat) (L : Nat → List Nat) (q x : Int) (h : ListsAt w a F n k L) :
    Calls Try.prog 12 #[.pointer (some ⟨a, 0, none⟩), .int .i64 q, .int .i64 x] w fun e w' => e = .returned (.int .i64 (putS n k L q x)) ∧ ListsAt w' a F n k (frontL n k L q x) ∧ Turn F w w' := by
  have h' := h
  obtain ⟨p, c, r, hm, hr, rfl, rfl, rfl⟩ := h
  unfold frontL putS
  by_cases hin : inQ r.queues q ∧ inQ r.items x
  · obtain ⟨j, rfl, hj⟩ := inQ_nat hin.1
    obtain ⟨i, rfl, hi⟩ := inQ_nat hin.2
    rw [if_pos hin]
    simp only [Int.toNat_natCast]
    have hw := hr.where_of hi
    by_cases hq : whereOf r.queues L i = -1
    · rw [if_pos hq, if_pos rfl]
      rw [hq] at hw
      have c1 := free_ok w a p c r j i hm hj hi hw
      obtain ⟨hd, hh⟩ : ∃ hd, r.items + j = hd := ⟨_, rfl⟩
      have hb := hr.items
      have hb2 := hr.queues
      have c2 := head_any w a p c r j hd hm hh (by omega)
      have hA : r.B hd < r.items + r.queues := by
        have := hr.first_cases hj
        rw [hh] at this
        rcases this with ⟨e1, _⟩ | ⟨l', e1⟩
        · omega
        · have := (hr.inn j hj (r.B hd) (by rw [e1]; simp)).1; omega
      have hC : r.C j ≤ 65536 := by rw [hr.count j hj]; have := hr.len_le hj; omega
      have c3 := insert_any w a p c j hd i (r.B hd) r hm hj (by omega) (by omega) hA hC
      have d1 := hm.c1
      have d2 := hm.b (i := hd) (by omega)
      have hp := hr.front hj hi hw
      rw [hh] at hp
      have HP : Hid (Rep (r.insert j hd i (r.B hd)) (upd L j (i :: L j))) := hp
      obtain ⟨N, hN⟩ : ∃ N, r.items + r.queues = N := ⟨_, rfl⟩
      have hxN : hd < N := by omega
      simp only [hN] at d1
      obtain ⟨u, hu⟩ : ∃ u, r.B hd = u := ⟨_, rfl⟩
      rw [hu] at c3 d2 HP
      clear h' hm hr hw hj hi hq hin hh hb hb2 hA hC hp hN hu
      go_enter Try.func12, Try.ntmps12
      go_wp2_with (first
        | (go_at_call 27; (with_reducible refine c1.mono ?_); rintro e w' ⟨rfl, rfl⟩)
        | (go_at_call 28; (with_reducible refine c2.mono ?_); rintro e w' ⟨rfl, rfl⟩)
        | (go_at_call 29; (with_reducible refine c3.mono ?_); rintro e w1 ⟨rfl, M1, T1⟩; have M1' : Hid (Mem w1 a p c (r.insert j hd i u)) := M1; have T1' : Hid (Turn (Foot a p c) w w1) := T1; clear M1 T1))
      go_ret
      exact ⟨rfl, ⟨p, c, _, M1'.out, HP.out, rfl, rfl, rfl⟩, T1'.out⟩
    · rw [if_neg hq, if_neg (by decide)]
      have c1 := free_held w a p c r j i hm hj hi (by rw [hw]; exact hq)
      have H : Hid (ListsAt w a (Foot a p c) r.items r.queues L) := h'
      clear h' hm hr hw hj hi hq hin
      go_enter Try.func12, Try.ntmps12
      go_wp2_with (go_at_call 27; (with_reducible refine c1.mono ?_); rintro e w' ⟨rfl, rfl⟩)
      go_ret
      exact ⟨rfl, H.out, Turn.refl _ _⟩
  · rw [if_neg hin, if_neg (by decide)]
    have c1 := free_range w a p c r q x hm (by unfold inQ at hin; omega)
    have H : Hid (ListsAt w a (Foot a p c) r.items r.queues L) := h'
    clear h' hm hr hin
    go_enter Try.func12, Try.ntmps12
    go_wp2_with (go_at_call 27; (with_reducible refine c1.mono ?_); rintro e w' ⟨rfl, rfl⟩)
    go_ret
    exact ⟨rfl, H.out, Turn.refl _ _⟩

end Go.Proofs.Ytpfoleaampcibaa
