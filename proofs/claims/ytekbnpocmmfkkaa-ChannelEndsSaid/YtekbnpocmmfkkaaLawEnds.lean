/-
  ChannelEnds' walk.
-/
import Derived.Test.YtekbnpocmmfkkaaLawOrd
import Derived.Test.YtekbnpocmmfkkaaCClose
namespace Go.Proofs.Ytekbnpocmmfkkaa
open Go.ChangeShapes Go.WideShapes Go.ChangeAt Go.RowKit

/-- The end e has written q; and then it is closed. -/
def KE (e : Nat) (b : Bool) (q : List Msg) : Nat → MS := fun i => if i = e then ⟨b, [], []⟩ else if i = 1 - e then ⟨true, q, []⟩ else ⟨true, [], []⟩
theorem ke_new (e : Nat) : (fun _ => ⟨true, [], []⟩ : Nat → MS) = KE e true [] := by
  funext i
  unfold KE
  split
  · rfl
  · split <;> rfl
def Fit3 (q : QM) : Prop := q.m.d.length ≤ 300 ∧ q.m.h.length ≤ 64
structure EW (w0 w : World) (c e : Nat) (ms : List QM) (i : Nat) : Prop where
  st : ∃ N, N ≤ i ∧ CSt w0 w c 100 N (KE e true ((ms.take i).map (·.m))) NoBlock
  fit : ∀ j q, j < i → ms[j]? = some q → Fit3 q
structure ER (w0 w : World) (c e : Nat) (ms : List QM) (k : Nat) : Prop where
  st : ∃ N, N ≤ 100 ∧ CSt w0 w c 100 N (KE e false ((ms.drop k).map (·.m))) NoBlock
  fit : ∀ q ∈ ms, Fit3 q
theorem EW.turn {w0 w : World} {c e i : Nat} {ms : List QM} (h : EW w0 w c e ms i) : Turn NoBlock w0 w := by
  obtain ⟨N, _, hc⟩ := h.st
  exact hc.turn
theorem ER.turn {w0 w : World} {c e i : Nat} {ms : List QM} (h : ER w0 w c e ms i) : Turn NoBlock w0 w := by
  obtain ⟨N, _, hc⟩ := h.st
  exact hc.turn
theorem ER.past {w0 w w' : World} {c e i : Nat} {ms : List QM} (h : ER w0 w c e ms i) (t : Turn NoBlock w w') : ER w0 w' c e ms i := by
  obtain ⟨⟨N, h1, hc⟩, h2⟩ := h
  exact ⟨⟨N, h1, hc.past t⟩, h2⟩
section
variable {w0 w : World} {c : Nat} {ms : List QM}
theorem ends_put0 {W : World} {i : Nat} (h : EW w0 W c 0 ms i) (t : Turn NoBlock W w) (hi : i < 40) {q : QM} (hq : ms[i]? = some q) (hf : Fit3 q) (a b : Value) (ha : Byts a q.m.d w) (hb : Nums b q.m.h w) :
    Calls Try.prog 21 #[.pointer (some ⟨c, 0, none⟩), .int .i64 0, .agg #[.int .i64 q.m.tx, a, b]] w fun e w' => e = .returned (.tuple #[.int .i64 (-1), .int .i64 0]) ∧ EW w0 w' c 0 ms (i + 1) := by
  obtain ⟨⟨N, hN, hc⟩, hfit⟩ := h
  obtain ⟨h1, h2⟩ := List.getElem?_eq_some_iff.1 hq
  refine ((hc.past t).put0 (by omega) rfl rfl q.m ⟨by have := hf.1; omega, hf.2⟩ (fun t ht => by simp [KE] at ht) (by show ((ms.take i).map (·.m)).length < 100; rw [List.length_map, List.length_take]; omega) a b ha.rd hb.rd).mono (fun e w' h => ⟨h.1, ⟨N + 1, by omega, ?_⟩, fun j p hj hp => ?_⟩)
  · rw [List.take_succ_eq_append_getElem h1, h2, List.map_append]
    have e1 : updN (KE 0 true ((ms.take i).map (·.m))) 1 (msAdd (KE 0 true ((ms.take i).map (·.m)) 1) q.m) = KE 0 true ((ms.take i).map (·.m) ++ [q].map (·.m)) := by
      funext j
      unfold updN KE msAdd
      by_cases j0 : j = 0
      · simp [j0]
      · by_cases j1 : j = 1
        · simp [j1]
        · simp [j0, j1]
    rw [← e1]
    exact h.2.1
  · by_cases hji : j < i
    · exact hfit j p hji hp
    · obtain rfl : j = i := by omega
      rw [hq] at hp
      cases hp
      exact hf
theorem ends_close0 (h : EW w0 w c 0 ms ms.length) (hm : ms.length ≤ 40) : Calls Try.prog 24 #[.pointer (some ⟨c, 0, none⟩), .int .i64 0] w fun e w' => ∃ p1 c1 p2 c2, e = .returned (.tuple #[.slice p1 0 c1, .slice p2 0 c2, .int .i64 0]) ∧ ER w0 w' c 0 ms 0 := by
  obtain ⟨⟨N, hN, S, V, hC, hp, ht, hf, hx⟩, hfit⟩ := h
  rw [List.take_length] at hp
  have p0 : (S 0).ms = ⟨true, [], []⟩ := by have := congrFun hp 0; exact this
  have p1 : (S 1).ms = ⟨true, ms.map (·.m), []⟩ := by have := congrFun hp 1; exact this
  unfold Sd.ms at p0 p1
  simp only [MS.mk.injEq, List.map_eq_nil_iff] at p0 p1
  refine (close_open0 hC (by omega) p0.1).mono (fun x w' hh => ?_)
  obtain ⟨vh, vc, rfl, n1, n2, hmd⟩ := hh
  rw [p0.2.1] at n1
  rw [show waitL S 0 = [] from by unfold waitL oth; simp [p0.2.2, p1.2.2]] at n2
  obtain ⟨q1, d1, rfl⟩ := n1.sl
  obtain ⟨q2, d2, rfl⟩ := n2.sl
  refine ⟨q1, d1, q2, d2, rfl, ⟨N, by omega, ?_⟩, fun q hq => ?_⟩
  · have h2 := (cst_made ht hf hx hmd).1
    have e1 : updN (updN (planeOf S) 0 ⟨false, [], []⟩) 1 ⟨(planeOf S 1).op, (planeOf S 1).q, []⟩ = KE 0 false (ms.map (·.m)) := by
      rw [hp]
      funext j
      unfold updN KE
      by_cases j0 : j = 0
      · simp [j0]
      · by_cases j1 : j = 1
        · simp [j1]
        · simp [j0, j1]
    rw [e1] at h2
    exact h2
  · obtain ⟨j, hj, hjq⟩ := List.mem_iff_getElem.1 hq
    exact hfit j q hj (by rw [List.getElem?_eq_getElem hj, hjq])
theorem ends_shows0 {k : Nat} (h : ER w0 w c 0 ms k) : Calls Try.prog 15 #[.pointer (some ⟨c, 0, none⟩), .int .i64 0] w fun e w' => e = .returned (.int .i64 0) ∧ Turn NoBlock w w' := by
  obtain ⟨⟨N, hN, hc⟩, _⟩ := h
  exact (hc.shows0 (by omega)).mono (fun e w' h => ⟨h.1, h.2⟩)
theorem ends_len0 (h : ER w0 w c 0 ms 0) : Calls Try.prog 13 #[.pointer (some ⟨c, 0, none⟩), .int .i64 1] w fun e w' => e = .returned (.int .i64 (ms.length : Nat)) ∧ Turn NoBlock w w' := by
  obtain ⟨⟨N, hN, hc⟩, _⟩ := h
  have h1 := hc.len (by omega) (e := 1) (by omega)
  have e1 : ((KE 0 false ((ms.drop 0).map (·.m))) 1).q.length = ms.length := by show ((ms.drop 0).map (·.m)).length = _; simp
  rw [e1] at h1
  exact h1
theorem ends_peer0 {k : Nat} (h : ER w0 w c 0 ms k) : Calls Try.prog 21 #[.pointer (some ⟨c, 0, none⟩), .int .i64 1, .agg #[.int .i64 0, .slice none 0 0, .slice none 0 0]] w fun e w' => e = .returned (.tuple #[.int .i64 0, .int .i64 (-24)]) ∧ Turn NoBlock w w' := by
  obtain ⟨⟨N, hN, S, V, hC, hp, ht, hf, hx⟩, _⟩ := h
  have p0 : (S 0).op = false := by have := congrArg MS.op (congrFun hp 0); exact this
  have p1 : (S 1).op = true := by have := congrArg MS.op (congrFun hp 1); exact this
  exact write_peer1 hC p1 p0 0 0 0 ⟨by omega, by omega⟩ _ _ ⟨_, _, rfl⟩ ⟨_, _, rfl⟩
theorem ends_shut0 {k : Nat} (h : ER w0 w c 0 ms k) : Calls Try.prog 21 #[.pointer (some ⟨c, 0, none⟩), .int .i64 0, .agg #[.int .i64 0, .slice none 0 0, .slice none 0 0]] w fun e w' => e = .returned (.tuple #[.int .i64 0, .int .i64 (-24)]) ∧ Turn NoBlock w w' := by
  obtain ⟨⟨N, hN, S, V, hC, hp, ht, hf, hx⟩, _⟩ := h
  have p0 : (S 0).op = false := by have := congrArg MS.op (congrFun hp 0); exact this
  exact write_shut hC (e := 0) (by omega) p0 0 _ _ ⟨_, _, _, rfl⟩ ⟨_, _, _, rfl⟩
theorem ends_take0 {k : Nat} (h : ER w0 w c 0 ms k) {q : QM} (hq : ms[k]? = some q) (cs : Array Value) (ty : TypeId) :
    Calls Try.prog 22 #[.pointer (some ⟨c, 0, none⟩), .int .i64 1, .int .i64 300, .int .i64 64] (w.alloc (.cells cs ty)) fun e w' => ∃ pa ca pb cb, e = .returned (.tuple #[.agg #[.int .i64 q.m.tx, .slice pa q.m.d.length ca, .slice pb q.m.h.length cb], .int .i64 0]) ∧ ER w0 w' c 0 ms (k + 1) ∧ w'.heap[w.heap.size]? = some (.cells cs ty (0, 0)) ∧ Byts (.slice pa q.m.d.length ca) q.m.d w' ∧ Nums (.slice pb q.m.h.length cb) q.m.h w' := by
  obtain ⟨⟨N, hN, hc⟩, hfit⟩ := h
  obtain ⟨h1, h2⟩ := List.getElem?_eq_some_iff.1 hq
  rw [List.drop_eq_getElem_cons h1, h2, List.map_cons] at hc
  have hfq := hfit q (List.mem_of_getElem? hq)
  have hc2 : CSt w0 (w.alloc (.cells cs ty)) c 100 N (KE 0 false (q.m :: (ms.drop (k + 1)).map (·.m))) (fun j => j = w.heap.size) := hc.more ((Turn.refl NoBlock w).alloc _) (fun j hj => .inr ⟨by omega, by subst hj; simp⟩) (fun k hk => hk.elim)
  refine (hc2.take1 (by omega) rfl 300 64 (by omega) (by omega) q.m _ rfl (by have := hfq.1; omega) (by have := hfq.2; omega)).mono (fun e w' hh => ?_)
  obtain ⟨⟨m', va, vb⟩, rfl, hm, hok, hcs, hk, -⟩ := hh
  dsimp only at hm
  subst hm
  obtain ⟨pa, ca, hva⟩ := hok.d.sl
  obtain ⟨pb, cb, hvb⟩ := hok.h.sl
  have o1 := hok.d
  have o2 := hok.h
  dsimp only at hva hvb o1 o2
  subst hva hvb
  refine ⟨pa, ca, pb, cb, rfl, ⟨⟨N, hN, ?_⟩, hfit⟩, hk.heap (heap_alloc_new w _) rfl, o1, o2⟩
  have e1 : updN (KE 0 false (q.m :: (ms.drop (k + 1)).map (·.m))) 1 ⟨(KE 0 false (q.m :: (ms.drop (k + 1)).map (·.m)) 1).op, (ms.drop (k + 1)).map (·.m), (KE 0 false (q.m :: (ms.drop (k + 1)).map (·.m)) 1).ws⟩ = KE 0 false ((ms.drop (k + 1)).map (·.m)) := by
    funext j
    unfold updN KE
    by_cases j0 : j = 0
    · simp [j0]
    · by_cases j1 : j = 1
      · simp [j1]
      · simp [j0, j1]
  rw [e1] at hcs
  exact hcs.fewer (fun k hk => hk.elim)
theorem ends_none0 (h : ER w0 w c 0 ms ms.length) : Calls Try.prog 22 #[.pointer (some ⟨c, 0, none⟩), .int .i64 1, .int .i64 300, .int .i64 64] w fun e w' => e = .returned (.tuple #[.agg #[.int .i64 0, .slice none 0 0, .slice none 0 0], .int .i64 (-24)]) ∧ Turn NoBlock w w' := by
  obtain ⟨⟨N, hN, hc⟩, _⟩ := h
  rw [List.drop_of_length_le (Nat.le_refl _), List.map_nil] at hc
  exact hc.none1 (by omega) rfl 300 64 (by omega) (by omega) rfl
theorem ends_peers0 (h : ER w0 w c 0 ms ms.length) : Calls Try.prog 15 #[.pointer (some ⟨c, 0, none⟩), .int .i64 1] w fun e w' => e = .returned (.int .i64 4) ∧ Turn NoBlock w w' := by
  obtain ⟨⟨N, hN, hc⟩, _⟩ := h
  rw [List.drop_of_length_le (Nat.le_refl _), List.map_nil] at hc
  exact (hc.shows1 (by omega)).mono (fun e w' h => ⟨h.1, h.2⟩)
theorem ends_put1 {W : World} {i : Nat} (h : EW w0 W c 1 ms i) (t : Turn NoBlock W w) (hi : i < 40) {q : QM} (hq : ms[i]? = some q) (hf : Fit3 q) (a b : Value) (ha : Byts a q.m.d w) (hb : Nums b q.m.h w) :
    Calls Try.prog 21 #[.pointer (some ⟨c, 0, none⟩), .int .i64 1, .agg #[.int .i64 q.m.tx, a, b]] w fun e w' => e = .returned (.tuple #[.int .i64 (-1), .int .i64 0]) ∧ EW w0 w' c 1 ms (i + 1) := by
  obtain ⟨⟨N, hN, hc⟩, hfit⟩ := h
  obtain ⟨h1, h2⟩ := List.getElem?_eq_some_iff.1 hq
  refine ((hc.past t).put1 (by omega) rfl rfl q.m ⟨by have := hf.1; omega, hf.2⟩ (fun t ht => by simp [KE] at ht) (by show ((ms.take i).map (·.m)).length < 100; rw [List.length_map, List.length_take]; omega) a b ha.rd hb.rd).mono (fun e w' h => ⟨h.1, ⟨N + 1, by omega, ?_⟩, fun j p hj hp => ?_⟩)
  · rw [List.take_succ_eq_append_getElem h1, h2, List.map_append]
    have e1 : updN (KE 1 true ((ms.take i).map (·.m))) 0 (msAdd (KE 1 true ((ms.take i).map (·.m)) 0) q.m) = KE 1 true ((ms.take i).map (·.m) ++ [q].map (·.m)) := by
      funext j
      unfold updN KE msAdd
      by_cases j0 : j = 0
      · simp [j0]
      · by_cases j1 : j = 1
        · simp [j1]
        · simp [j0, j1]
    rw [← e1]
    exact h.2.1
  · by_cases hji : j < i
    · exact hfit j p hji hp
    · obtain rfl : j = i := by omega
      rw [hq] at hp
      cases hp
      exact hf
theorem ends_close1 (h : EW w0 w c 1 ms ms.length) (hm : ms.length ≤ 40) : Calls Try.prog 24 #[.pointer (some ⟨c, 0, none⟩), .int .i64 1] w fun e w' => ∃ p1 c1 p2 c2, e = .returned (.tuple #[.slice p1 0 c1, .slice p2 0 c2, .int .i64 0]) ∧ ER w0 w' c 1 ms 0 := by
  obtain ⟨⟨N, hN, S, V, hC, hp, ht, hf, hx⟩, hfit⟩ := h
  rw [List.take_length] at hp
  have p0 : (S 1).ms = ⟨true, [], []⟩ := by have := congrFun hp 1; exact this
  have p1 : (S 0).ms = ⟨true, ms.map (·.m), []⟩ := by have := congrFun hp 0; exact this
  unfold Sd.ms at p0 p1
  simp only [MS.mk.injEq, List.map_eq_nil_iff] at p0 p1
  refine (close_open1 hC (by omega) p0.1).mono (fun x w' hh => ?_)
  obtain ⟨vh, vc, rfl, n1, n2, hmd⟩ := hh
  rw [p0.2.1] at n1
  rw [show waitL S 1 = [] from by unfold waitL oth; simp [p0.2.2, p1.2.2]] at n2
  obtain ⟨q1, d1, rfl⟩ := n1.sl
  obtain ⟨q2, d2, rfl⟩ := n2.sl
  refine ⟨q1, d1, q2, d2, rfl, ⟨N, by omega, ?_⟩, fun q hq => ?_⟩
  · have h2 := (cst_made ht hf hx hmd).1
    have e1 : updN (updN (planeOf S) 1 ⟨false, [], []⟩) 0 ⟨(planeOf S 0).op, (planeOf S 0).q, []⟩ = KE 1 false (ms.map (·.m)) := by
      rw [hp]
      funext j
      unfold updN KE
      by_cases j0 : j = 0
      · simp [j0]
      · by_cases j1 : j = 1
        · simp [j1]
        · simp [j0, j1]
    rw [e1] at h2
    exact h2
  · obtain ⟨j, hj, hjq⟩ := List.mem_iff_getElem.1 hq
    exact hfit j q hj (by rw [List.getElem?_eq_getElem hj, hjq])
theorem ends_shows1 {k : Nat} (h : ER w0 w c 1 ms k) : Calls Try.prog 15 #[.pointer (some ⟨c, 0, none⟩), .int .i64 1] w fun e w' => e = .returned (.int .i64 0) ∧ Turn NoBlock w w' := by
  obtain ⟨⟨N, hN, hc⟩, _⟩ := h
  exact (hc.shows1 (by omega)).mono (fun e w' h => ⟨h.1, h.2⟩)
theorem ends_len1 (h : ER w0 w c 1 ms 0) : Calls Try.prog 13 #[.pointer (some ⟨c, 0, none⟩), .int .i64 0] w fun e w' => e = .returned (.int .i64 (ms.length : Nat)) ∧ Turn NoBlock w w' := by
  obtain ⟨⟨N, hN, hc⟩, _⟩ := h
  have h1 := hc.len (by omega) (e := 0) (by omega)
  have e1 : ((KE 1 false ((ms.drop 0).map (·.m))) 0).q.length = ms.length := by show ((ms.drop 0).map (·.m)).length = _; simp
  rw [e1] at h1
  exact h1
theorem ends_peer1 {k : Nat} (h : ER w0 w c 1 ms k) : Calls Try.prog 21 #[.pointer (some ⟨c, 0, none⟩), .int .i64 0, .agg #[.int .i64 0, .slice none 0 0, .slice none 0 0]] w fun e w' => e = .returned (.tuple #[.int .i64 0, .int .i64 (-24)]) ∧ Turn NoBlock w w' := by
  obtain ⟨⟨N, hN, S, V, hC, hp, ht, hf, hx⟩, _⟩ := h
  have p0 : (S 1).op = false := by have := congrArg MS.op (congrFun hp 1); exact this
  have p1 : (S 0).op = true := by have := congrArg MS.op (congrFun hp 0); exact this
  exact write_peer0 hC p1 p0 0 0 0 ⟨by omega, by omega⟩ _ _ ⟨_, _, rfl⟩ ⟨_, _, rfl⟩
theorem ends_shut1 {k : Nat} (h : ER w0 w c 1 ms k) : Calls Try.prog 21 #[.pointer (some ⟨c, 0, none⟩), .int .i64 1, .agg #[.int .i64 0, .slice none 0 0, .slice none 0 0]] w fun e w' => e = .returned (.tuple #[.int .i64 0, .int .i64 (-24)]) ∧ Turn NoBlock w w' := by
  obtain ⟨⟨N, hN, S, V, hC, hp, ht, hf, hx⟩, _⟩ := h
  have p0 : (S 1).op = false := by have := congrArg MS.op (congrFun hp 1); exact this
  exact write_shut hC (e := 1) (by omega) p0 0 _ _ ⟨_, _, _, rfl⟩ ⟨_, _, _, rfl⟩
theorem ends_take1 {k : Nat} (h : ER w0 w c 1 ms k) {q : QM} (hq : ms[k]? = some q) (cs : Array Value) (ty : TypeId) :
    Calls Try.prog 22 #[.pointer (some ⟨c, 0, none⟩), .int .i64 0, .int .i64 300, .int .i64 64] (w.alloc (.cells cs ty)) fun e w' => ∃ pa ca pb cb, e = .returned (.tuple #[.agg #[.int .i64 q.m.tx, .slice pa q.m.d.length ca, .slice pb q.m.h.length cb], .int .i64 0]) ∧ ER w0 w' c 1 ms (k + 1) ∧ w'.heap[w.heap.size]? = some (.cells cs ty (0, 0)) ∧ Byts (.slice pa q.m.d.length ca) q.m.d w' ∧ Nums (.slice pb q.m.h.length cb) q.m.h w' := by
  obtain ⟨⟨N, hN, hc⟩, hfit⟩ := h
  obtain ⟨h1, h2⟩ := List.getElem?_eq_some_iff.1 hq
  rw [List.drop_eq_getElem_cons h1, h2, List.map_cons] at hc
  have hfq := hfit q (List.mem_of_getElem? hq)
  have hc2 : CSt w0 (w.alloc (.cells cs ty)) c 100 N (KE 1 false (q.m :: (ms.drop (k + 1)).map (·.m))) (fun j => j = w.heap.size) := hc.more ((Turn.refl NoBlock w).alloc _) (fun j hj => .inr ⟨by omega, by subst hj; simp⟩) (fun k hk => hk.elim)
  refine (hc2.take0 (by omega) rfl 300 64 (by omega) (by omega) q.m _ rfl (by have := hfq.1; omega) (by have := hfq.2; omega)).mono (fun e w' hh => ?_)
  obtain ⟨⟨m', va, vb⟩, rfl, hm, hok, hcs, hk, -⟩ := hh
  dsimp only at hm
  subst hm
  obtain ⟨pa, ca, hva⟩ := hok.d.sl
  obtain ⟨pb, cb, hvb⟩ := hok.h.sl
  have o1 := hok.d
  have o2 := hok.h
  dsimp only at hva hvb o1 o2
  subst hva hvb
  refine ⟨pa, ca, pb, cb, rfl, ⟨⟨N, hN, ?_⟩, hfit⟩, hk.heap (heap_alloc_new w _) rfl, o1, o2⟩
  have e1 : updN (KE 1 false (q.m :: (ms.drop (k + 1)).map (·.m))) 0 ⟨(KE 1 false (q.m :: (ms.drop (k + 1)).map (·.m)) 0).op, (ms.drop (k + 1)).map (·.m), (KE 1 false (q.m :: (ms.drop (k + 1)).map (·.m)) 0).ws⟩ = KE 1 false ((ms.drop (k + 1)).map (·.m)) := by
    funext j
    unfold updN KE
    by_cases j0 : j = 0
    · simp [j0]
    · by_cases j1 : j = 1
      · simp [j1]
      · simp [j0, j1]
  rw [e1] at hcs
  exact hcs.fewer (fun k hk => hk.elim)
theorem ends_none1 (h : ER w0 w c 1 ms ms.length) : Calls Try.prog 22 #[.pointer (some ⟨c, 0, none⟩), .int .i64 0, .int .i64 300, .int .i64 64] w fun e w' => e = .returned (.tuple #[.agg #[.int .i64 0, .slice none 0 0, .slice none 0 0], .int .i64 (-24)]) ∧ Turn NoBlock w w' := by
  obtain ⟨⟨N, hN, hc⟩, _⟩ := h
  rw [List.drop_of_length_le (Nat.le_refl _), List.map_nil] at hc
  exact hc.none0 (by omega) rfl 300 64 (by omega) (by omega) rfl
theorem ends_peers1 (h : ER w0 w c 1 ms ms.length) : Calls Try.prog 15 #[.pointer (some ⟨c, 0, none⟩), .int .i64 0] w fun e w' => e = .returned (.int .i64 4) ∧ Turn NoBlock w w' := by
  obtain ⟨⟨N, hN, hc⟩, _⟩ := h
  rw [List.drop_of_length_le (Nat.le_refl _), List.map_nil] at hc
  exact (hc.shows0 (by omega)).mono (fun e w' h => ⟨h.1, h.2⟩)
end
end Go.Proofs.Ytekbnpocmmfkkaa
