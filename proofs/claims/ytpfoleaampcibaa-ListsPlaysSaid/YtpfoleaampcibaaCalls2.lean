/-
  What Remove and Pop of lists answer, and what they make of the queues. No conditions but that the lists are such as calls can make.
-/
import Derived.Test.YtpfoleaampcibaaCalls1
import Derived.RegionTactic
import Derived.ChangeAlike
namespace Go.Proofs.Ytpfoleaampcibaa
open Go.ChangeShapes Go.WideShapes Go.ChangeAt Go.RowKit

/-- What was drawn between does not matter. -/
theorem setCell_drew' (w : World) (a : Addr) (v : Value) : (w.drew).setCell a v = (w.setCell a v).drew := rfl

theorem remove_held (w : World) (a p c : Nat) (r : Raw) (L : Nat → List Nat) (q x : Nat) (hm : Mem w a p c r) (hr : Rep r L) (hq : q < r.queues) (hx : x ∈ L q) :
    Calls Try.prog 16 #[.pointer (some ⟨a, 0, none⟩), .int .i64 x] w fun e w' => e = .returned (.int .i64 0) ∧ Mem w' a p c (r.remove q x) ∧ Turn (Foot a p c) w w' := by
  have hxi := hr.inn q hq x hx
  have hs := hr.sides hq hx
  have hlen := hr.len_le hq
  have hb := hr.items
  have hin : ∀ y, y ∈ L q → y < r.items + r.queues := fun y hy => by have := (hr.inn q hq y hy).1; omega
  have hA : r.A x < r.items + r.queues := by
    rcases hs.1 with e | e
    · omega
    · exact hin _ e
  have hB : r.B x < r.items + r.queues := by
    rcases hs.2 with e | e
    · omega
    · exact hin _ e
  have hCn := hr.count q hq
  have hC0 : 0 < r.C q := by rw [hCn]; exact List.length_pos_of_mem hx
  have c1 := hasi_yes w a p c r x hm (by omega) (by omega)
  have d1 := hm.c1
  have d2 := hm.q (i := x) (by omega)
  have d3 := hm.a' (i := x) (by omega)
  have d4 := hm.b (i := x) (by omega)
  have m0 : Mem (w.alloc (.cells #[.int .i64 (r.Q x), .int .i64 (r.A x), .int .i64 (r.B x)] 53)) a p c r := hm.kept (G := NoBlock) ((Turn.refl _ _).alloc _) (fun _ _ h => h)
  have c2 := join_any _ a p c (r.A x) (r.B x) r m0 hA hB
  have hlt : ∀ k, Foot a p c k → k < w.heap.size := fun k hk => hm.lt hk
  have HT : Hid (∀ w1, Turn (Foot a p c) (w.alloc (.cells #[.int .i64 (r.Q x), .int .i64 (r.A x), .int .i64 (r.B x)] 53)) w1 → w1.heap[w.heap.size]? = some (.cells #[.int .i64 (r.Q x), .int .i64 (r.A x), .int .i64 (r.B x)] 53 (0, 0))) := fun w1 h1 =>
    h1.heap (heap_alloc_new w _) (fun hk => Nat.lt_irrefl _ (hlt _ hk))
  rw [hxi.2] at c2 d2 HT
  have HL : Hid (∀ k, Foot a p c k → k < w.heap.size) := hlt
  obtain ⟨N, hN⟩ : ∃ N, r.items + r.queues = N := ⟨_, rfl⟩
  have hxN : x < N := by omega
  obtain ⟨n, hn⟩ : ∃ n, r.C q = n + 1 := ⟨r.C q - 1, by omega⟩
  have hne : ((q : Int) == -1) = false := by simp
  have H2 : Hid (∀ w1, Mem w1 a p c (r.join (r.A x) (r.B x)) → (w1.cell? ⟨a, 1, none⟩ = some (.slice (some ⟨p, 0, none⟩) N N) ∧ w1.cell? ⟨p, x * 3, none⟩ = some (.int .i64 q) ∧ w1.frozen? ⟨p, x * 3, none⟩ = false) ∧
      ((w1.setCell ⟨p, x * 3, none⟩ (.int .i64 (-1))).cell? ⟨a, 2, none⟩ = some (.slice (some ⟨c, 0, none⟩) r.queues r.queues) ∧ (w1.setCell ⟨p, x * 3, none⟩ (.int .i64 (-1))).cell? ⟨c, q, none⟩ = some (.int .i64 ((n : Int) + 1)) ∧ (w1.setCell ⟨p, x * 3, none⟩ (.int .i64 (-1))).frozen? ⟨c, q, none⟩ = false) ∧
      Mem ((w1.setCell ⟨p, x * 3, none⟩ (.int .i64 (-1))).setCell ⟨c, q, none⟩ (.int .i64 n)) a p c (r.remove q x)) := fun w1 h1 => by
    have hxq : x < r.items + r.queues := by omega
    have g := h1.setQ hxq (-1)
    have g2 := g.setC (i := q) hq n
    have gq := h1.q hxq
    have gn := g.n hq
    change _ = some (Value.int .i64 (r.Q x)) at gq
    change _ = some (Value.int .i64 (r.C q : Nat)) at gn
    rw [hxi.2] at gq
    rw [hn] at gn
    refine ⟨⟨hN ▸ h1.c1, gq, h1.fp _⟩, ⟨g.c2, gn, g.fc _⟩, ?_⟩
    have e : n = r.C q - 1 := by omega
    rw [e] at g2 ⊢
    exact g2
  simp only [hN] at d1
  have hn1 : n < 65536 := by omega
  clear hm hr hx hs hxi hin hA hB hCn hC0 m0 hN hlen hb hlt
  go_enter Try.func16, Try.ntmps16
  go_wp2_with (first
    | (go_at_call 32; (with_reducible refine c1.mono ?_); rintro e w' ⟨rfl, rfl⟩)
    | (go_at_call 33; (with_reducible refine c2.mono ?_); rintro e w1 ⟨rfl, M1, T1⟩; have hh := (Hid.out HT) w1 T1; have b0 : w1.cell? ⟨w.heap.size, 0, none⟩ = some (.int .i64 q) := (by simpa using cell_at hh 0); have b1 : (w1.setCell ⟨p, x * 3, none⟩ (.int .i64 (-1))).cell? ⟨w.heap.size, 0, none⟩ = some (.int .i64 q) := ((foot_setP _ a p c w1).cell b0 (fun hk => Nat.lt_irrefl _ ((Hid.out HL) _ hk))); have T1' : Hid (Turn (Foot a p c) w (w1.setCell ⟨p, x * 3, none⟩ (.int .i64 (-1)))) := (((Turn.refl _ w).alloc _).then T1).then (foot_setP _ a p c w1); obtain ⟨⟨d5, d6, d7⟩, ⟨d8, d9, d10⟩, M3⟩ := (Hid.out H2) w1 M1; have M3' : Hid (Mem ((w1.setCell ⟨p, x * 3, none⟩ (.int .i64 (-1))).setCell ⟨c, q, none⟩ (.int .i64 n)) a p c (r.remove q x)) := M3; clear M1 T1 M3 hh))
  generalize w1.setCell ⟨p, x * 3, none⟩ (.int .i64 (-1)) = w2 at d8 d9 d10 b1 M3' T1' ⊢
  go_region
  all_goals
    go_wp2
    go_ret
    exact ⟨rfl, M3'.out.drew, (T1'.out.then (foot_setC _ a p c _)).drew⟩

theorem remove_any (w : World) (a : Nat) (F : Nat → Prop) (n k : Nat) (L : Nat → List Nat) (x : Int) (h : ListsAt w a F n k L) :
    Calls Try.prog 16 #[.pointer (some ⟨a, 0, none⟩), .int .i64 x] w fun e w' => e = .returned (.int .i64 (remS n k L x)) ∧ ListsAt w' a F n k (remL n k L x) ∧ Turn F w w' := by
  have h' := h
  obtain ⟨p, c, r, hm, hr, rfl, rfl, rfl⟩ := h
  unfold remL remS
  by_cases hin : inQ r.items x
  · obtain ⟨i, rfl, hi⟩ := inQ_nat hin
    rw [if_pos hin]
    simp only [Int.toNat_natCast]
    have hw := hr.where_of hi
    by_cases hq : whereOf r.queues L i = -1
    · rw [if_pos hq, if_neg (by decide)]
      rw [hq] at hw
      have c1 := hasi_yes w a p c r i hm (by omega) (by omega)
      have d1 := hm.c1
      have d2 := hm.q (i := i) (by omega)
      have d3 := hm.a' (i := i) (by omega)
      have d4 := hm.b (i := i) (by omega)
      rw [hw] at d2
      have H : Hid (ListsAt w a (Foot a p c) r.items r.queues L) := h'
      obtain ⟨N, hN⟩ : ∃ N, r.items + r.queues = N := ⟨_, rfl⟩
      have hxN : i < N := by omega
      simp only [hN] at d1
      clear h' hm hr hw hi hq hin hN
      go_enter Try.func16, Try.ntmps16
      go_wp2_with (go_at_call 32; (with_reducible refine c1.mono ?_); rintro e w' ⟨rfl, rfl⟩)
      go_ret
      exact ⟨rfl, H.out.past ((Turn.refl _ _).alloc _), (Turn.refl _ _).alloc _⟩
    · obtain ⟨q, hqk, hqe, hmem⟩ := where_some hq
      rw [if_neg hq, if_pos rfl, hqe]
      simp only [Int.toNat_natCast]
      refine (remove_held w a p c r L q i hm hr hqk hmem).mono ?_
      rintro e w' ⟨rfl, h1, h2⟩
      exact ⟨rfl, ⟨p, c, _, h1, hr.remove hqk hmem, rfl, rfl, rfl⟩, h2⟩
  · rw [if_neg hin, if_neg (by decide)]
    have c1 := hasi_no w a p c r x hm (inQ_not hin)
    have H : Hid (ListsAt w a (Foot a p c) r.items r.queues L) := h'
    clear h' hm hr hin
    go_enter Try.func16, Try.ntmps16
    go_wp2_with (go_at_call 32; (with_reducible refine c1.mono ?_); rintro e w' ⟨rfl, rfl⟩)
    go_ret
    exact ⟨rfl, H.out, Turn.refl _ _⟩

theorem pop_any (w : World) (a : Nat) (F : Nat → Prop) (n k : Nat) (L : Nat → List Nat) (q : Int) (h : ListsAt w a F n k L) :
    Calls Try.prog 14 #[.pointer (some ⟨a, 0, none⟩), .int .i64 q] w fun e w' => e = .returned (.tuple #[.int .i64 (popI k L q), .int .i64 (popS k L q)]) ∧ ListsAt w' a F n k (popL k L q) ∧ Turn F w w' := by
  have h' := h
  have c3 := first_any w a F n k L q h
  obtain ⟨p, c, r, hm, hr, rfl, rfl, rfl⟩ := h
  unfold popI popL popS
  unfold firstOf listOf at c3
  unfold listOf
  by_cases hin : inQ r.queues q
  · obtain ⟨j, rfl, hj⟩ := inQ_nat hin
    rw [if_pos hin] at c3
    rw [if_pos hin, if_pos hin]
    simp only [Int.toNat_natCast] at c3 ⊢
    have c1 := hasq_yes w a p c r j hm (by omega) (by omega)
    by_cases hl : L j = []
    · rw [if_pos hl, if_neg (by decide), hl]
      rw [hl] at c3
      have H : Hid (ListsAt w a (Foot a p c) r.items r.queues L) := h'
      clear h' hm hr hj hin hl
      go_enter Try.func14, Try.ntmps14
      go_wp2_with (first
        | (go_at_call 31; (with_reducible refine c1.mono ?_); rintro e w' ⟨rfl, rfl⟩)
        | (go_at_call 23; (with_reducible refine c3.mono ?_); rintro e w' ⟨rfl, d, rfl⟩))
      go_ret2
      exact ⟨rfl, H.out.drewN _, (Turn.refl _ _).drewN _⟩
    · rw [if_neg hl, if_pos rfl]
      obtain ⟨x, l, hl⟩ : ∃ x l, L j = x :: l := by
        cases e : L j with
        | nil => exact absurd e hl
        | cons x l => exact ⟨x, l, rfl⟩
      rw [hl] at c3 ⊢
      have hmem : x ∈ L j := by rw [hl]; simp
      have c2 := fun w' (h : Mem w' a p c r) => remove_held w' a p c r L j x h hr hj hmem
      have hne : ((x : Int) == -1) = false := by simp
      have HR : Hid (Rep (r.remove j x) (upd L j l)) := by
        have := hr.remove hj hmem
        rw [hl, List.erase_cons_head] at this
        exact this
      have H : Hid (Mem w a p c r) := hm
      simp only [List.headD_cons, List.tail_cons]
      clear h' hm hr hj hin hl hmem
      go_enter Try.func14, Try.ntmps14
      go_wp2_with (first
        | (go_at_call 31; (with_reducible refine c1.mono ?_); rintro e w' ⟨rfl, rfl⟩)
        | (go_at_call 23; (with_reducible refine c3.mono ?_); rintro e w' ⟨rfl, d, rfl⟩)
        | (go_at_call 16; (with_reducible refine (c2 _ ((Hid.out H).drewN _)).mono ?_); rintro e w1 ⟨rfl, M1, T1⟩; have M1' : Hid (Mem w1 a p c (r.remove j x)) := M1; have T1' : Hid (Turn (Foot a p c) (w.drewN d) w1) := T1; clear M1 T1))
      go_ret2
      exact ⟨rfl, ⟨p, c, _, M1'.out, HR.out, rfl, rfl, rfl⟩, ((Turn.refl _ w).drewN d).then T1'.out⟩
  · rw [if_neg hin, if_neg hin, if_neg (by decide)]
    have c1 := hasq_no w a p c r q hm (inQ_not hin)
    have H : Hid (ListsAt w a (Foot a p c) r.items r.queues L) := h'
    clear h' hm hr hin c3
    go_enter Try.func14, Try.ntmps14
    go_wp2_with (go_at_call 31; (with_reducible refine c1.mono ?_); rintro e w' ⟨rfl, rfl⟩)
    go_ret2
    exact ⟨rfl, H.out, Turn.refl _ _⟩

end Go.Proofs.Ytpfoleaampcibaa
