/-
  TimerOnce: what is still wanted, as plain data and in memory. No walk, no conditions.
-/
import Derived.Test.YtcbphfpfdfgehaaTView
namespace Go.Proofs.Ytcbphfpfdfgehaa
open Go.ChangeShapes Go.WideShapes Go.ChangeAt Go.RowKit

def nn (x : Int) : Bool := decide (0 ≤ x)
theorem countP_set {l : List Int} {i : Nat} {x : Int} (h : l[i]? = some x) (hx : 0 ≤ x) : (l.set i (-1)).countP nn + 1 = l.countP nn := by
  induction l generalizing i with
  | nil => simp at h
  | cons a r ih =>
    cases i with
    | zero =>
      simp only [List.getElem?_cons_zero, Option.some.injEq] at h
      subst h
      rw [List.set_cons_zero, List.countP_cons, List.countP_cons]
      have e1 : nn (-1) = false := rfl
      have e2 : nn a = true := by unfold nn; simpa using hx
      rw [e1, e2]
      simp
    | succ i =>
      simp only [List.getElem?_cons_succ] at h
      have := ih h
      rw [List.set_cons_succ, List.countP_cons, List.countP_cons]
      omega
/-- What is wanted of the first m keys is what stands in L. -/
structure WR (L : List En) (want : List Int) (m : Nat) : Prop where
  inL : ∀ e ∈ L, ∃ i : Nat, e.k = (i : Int) ∧ i < m ∧ want[i]? = some e.d ∧ 1 ≤ e.d
  out : ∀ (i : Nat) (x : Int), i < m → want[i]? = some x → x < 0 ∨ (⟨(i : Int), x⟩ : En) ∈ L
  cnt : (want.take m).countP nn = L.length
theorem WR.zero (want : List Int) : WR [] want 0 := ⟨(fun e he => by cases he), (fun i x hi => by omega), rfl⟩
theorem WR.fresh {L : List En} {want : List Int} {m : Nat} (h : WR L want m) : hasK L (m : Int) = false := hasK_no.2 (fun e he hk => by
  obtain ⟨i, h1, h2, -⟩ := h.inL e he
  rw [hk] at h1
  omega)
theorem take_set_le {l : List Int} {m : Nat} {x : Int} : (l.set m x).take m = l.take m := List.take_set_of_le (Nat.le_refl _)
theorem take_succ_set {l : List Int} {m : Nat} {x : Int} (h : m < l.length) : (l.set m x).take (m + 1) = l.take m ++ [x] := by
  rw [List.take_add_one, take_set_le, List.getElem?_set_self h]
  rfl
theorem WR.skip {L : List En} {want : List Int} {m : Nat} (h : WR L want m) (hm : m < want.length) : WR L (want.set m (-1)) (m + 1) := by
  refine ⟨fun e he => ?_, fun i x hi hx => ?_, ?_⟩
  · obtain ⟨i, h1, h2, h3, h4⟩ := h.inL e he
    exact ⟨i, h1, by omega, by rw [List.getElem?_set_ne (by omega)]; exact h3, h4⟩
  · by_cases hi2 : i = m
    · subst hi2
      rw [List.getElem?_set_self hm] at hx
      simp only [Option.some.injEq] at hx
      left; omega
    · rw [List.getElem?_set_ne (fun e => hi2 e.symm)] at hx
      exact h.out i x (by omega) hx
  · rw [take_succ_set hm, List.countP_append, h.cnt]
    rfl
theorem WR.add {L : List En} {want : List Int} {m : Nat} {d : Int} (h : WR L want m) (hm : m < want.length) (hd : 1 ≤ d) : WR (insE ⟨(m : Int), d⟩ L) (want.set m d) (m + 1) := by
  have hp := insE_perm ⟨(m : Int), d⟩ L
  refine ⟨fun e he => ?_, fun i x hi hx => ?_, ?_⟩
  · rcases List.mem_cons.1 (hp.mem_iff.1 he) with rfl | he
    · exact ⟨m, rfl, by omega, List.getElem?_set_self hm, hd⟩
    · obtain ⟨i, h1, h2, h3, h4⟩ := h.inL e he
      exact ⟨i, h1, by omega, by rw [List.getElem?_set_ne (by omega)]; exact h3, h4⟩
  · by_cases hi2 : i = m
    · subst hi2
      rw [List.getElem?_set_self hm] at hx
      simp only [Option.some.injEq] at hx
      right
      exact hp.mem_iff.2 (List.mem_cons.2 (.inl (by rw [hx])))
    · rw [List.getElem?_set_ne (fun e => hi2 e.symm)] at hx
      rcases h.out i x (by omega) hx with h1 | h1
      · exact .inl h1
      · exact .inr (hp.mem_iff.2 (List.mem_cons_of_mem _ h1))
  · rw [take_succ_set hm, List.countP_append, h.cnt, hp.length_eq]
    have : nn d = true := by unfold nn; simp; omega
    rw [List.countP_singleton, this]
    rfl
theorem WR.pop {a : En} {r : List En} {want : List Int} {m : Nat} (h : WR (a :: r) want m) (hR : Right (a :: r)) (hm : m = want.length) : ∃ i : Nat, a.k = (i : Int) ∧ i < m ∧ want[i]? = some a.d ∧ WR r (want.set i (-1)) m := by
  obtain ⟨i, h1, h2, h3, h4⟩ := h.inL a List.mem_cons_self
  have hkeys := hR.keys
  unfold keysOf at hkeys
  rw [List.map_cons, List.nodup_cons] at hkeys
  refine ⟨i, h1, h2, h3, fun e he => ?_, fun j x hj hx => ?_, ?_⟩
  · obtain ⟨j, q1, q2, q3, q4⟩ := h.inL e (List.mem_cons_of_mem _ he)
    refine ⟨j, q1, q2, ?_, q4⟩
    rw [List.getElem?_set_ne (fun hij => ?_)]
    · exact q3
    · subst hij
      exact hkeys.1 (by rw [h1, ← q1]; exact List.mem_map_of_mem he)
  · by_cases hij : j = i
    · subst hij
      rw [List.getElem?_set_self (by omega)] at hx
      simp only [Option.some.injEq] at hx
      left; omega
    · rw [List.getElem?_set_ne (fun e => hij e.symm)] at hx
      rcases h.out j x hj hx with q | q
      · exact .inl q
      · rcases List.mem_cons.1 q with q | q
        · have : (j : Int) = (i : Int) := by rw [← h1, ← q]
          omega
        · exact .inr q
  · have hc := h.cnt
    have ht : ∀ l : List Int, l.length = want.length → l.take m = l := fun l hl => List.take_of_length_le (by omega)
    rw [ht _ rfl] at hc
    rw [ht _ (by simp)]
    have := countP_set h3 (by omega)
    rw [List.length_cons] at hc
    omega
theorem rise_d {a b : En} (ha : fitE a) (hb : fitE b) (h : cd a < cd b) : a.d ≤ b.d := by
  rcases (cd_lt ha hb).1 h with h1 | h1 <;> omega
theorem rest_above {L : List En} (h : Right L) (now : Int) : ∀ e ∈ rest L now, now < e.d := by
  cases hr : rest L now with
  | nil => intro e he; cases he
  | cons a r =>
    have hR : Right (a :: r) := by rw [← hr]; exact h.rest now
    have ha : ¬ a.d ≤ now := by
      have h1 := List.head?_dropWhile_not (fun e : En => decide (e.d ≤ now)) L
      have h2 : (L.dropWhile (fun e : En => decide (e.d ≤ now))).head? = some a := by
        show (rest L now).head? = _
        rw [hr]; rfl
      rw [h2] at h1
      simpa using h1
    intro e he
    rcases List.mem_cons.1 he with rfl | he2
    · omega
    · have := rise_d (hR.fits a List.mem_cons_self) (hR.fits e he) ((List.pairwise_cons.1 hR.rise).1 e he2)
      omega
theorem gone_due {L : List En} {now : Int} : ∀ e ∈ gone L now, e.d ≤ now := by
  induction L with
  | nil => intro e he; cases he
  | cons a r ih =>
    intro e he
    unfold gone at he ih
    rw [List.takeWhile_cons] at he
    by_cases h : a.d ≤ now
    · rw [decide_eq_true h, if_pos rfl] at he
      rcases List.mem_cons.1 he with rfl | he
      · exact h
      · exact ih e he
    · rw [decide_eq_false h] at he
      cases he
/-- Timers, and a row of numbers beside them. -/
structure OS (w0 w : World) (c : Nat) (now : Int) (L : List En) (gw n : Nat) (want : List Int) (X : Nat → Prop) : Prop where
  st : TSt w0 w c 200 now L (fun k => k = gw ∨ X k)
  row : WRow w 3 1 (.slice (some ⟨gw, 0, none⟩) n n) n (icells want)
  lo : w0.heap.size ≤ gw
section
variable {w0 w w' : World} {c gw n : Nat} {now : Int} {L : List En} {want : List Int} {X Y : Nat → Prop}
theorem OS.len (h : OS w0 w c now L gw n want X) : want.length = n := by
  have := h.row.len
  rw [icells_len, Nat.mul_one] at this
  exact this
theorem OS.cell (h : OS w0 w c now L gw n want X) {i : Nat} {x : Int} (hx : want[i]? = some x) : w.cell? ⟨gw, i, none⟩ = some (.int .i64 x) := by
  have hi := (List.getElem?_eq_some_iff.1 hx).1
  have hl := h.len
  obtain ⟨g', o', c', he, -, -, -, hc, -⟩ := h.row.shape (by omega)
  simp only [Value.slice.injEq, Option.some.injEq, Addr.mk.injEq, and_true, true_and] at he
  obtain ⟨⟨rfl, rfl⟩, rfl⟩ := he
  have := hc i (by omega)
  rw [Nat.zero_add] at this
  rw [this]
  unfold icells
  rw [List.getElem?_map, hx]
  rfl
theorem OS.free (h : OS w0 w c now L gw n want X) (i : Nat) : w.frozen? ⟨gw, i, none⟩ = false := (h.row.typed (k := gw) rfl).free i
theorem OS.store (h : OS w0 w c now L gw n want X) {i : Nat} (hi : i < n) (x : Int) : OS w0 (w.setCell ⟨gw, i, none⟩ (.int .i64 x)) c now L gw n (want.set i x) X := by
  have t : Turn (fun k => k = gw) w (w.setCell ⟨gw, i, none⟩ (.int .i64 x)) := (Turn.refl (fun k => k = gw) w).setCell (p := ⟨gw, i, none⟩) (.inl rfl) _
  refine ⟨h.st.turned t (fun k hk => ⟨.inl hk, by have := h.lo; omega⟩) (fun _ hk => .inl hk), ?_, h.lo⟩
  have := h.row.setc (j := i) (by omega) (.int .i64 x)
  rw [Nat.zero_add] at this
  unfold icells at this ⊢
  rw [List.map_set]
  exact this
theorem OS.past (h : OS w0 w c now L gw n want X) (t : Turn NoBlock w w') : OS w0 w' c now L gw n want X := ⟨h.st.past t, h.row.past t, h.lo⟩
theorem OS.fewer (h : OS w0 w c now L gw n want X) (hY : ∀ k, Y k → X k) : OS w0 w c now L gw n want Y := ⟨h.st.fewer (fun k hk => hk.elim .inl (fun h => .inr (hY k h))), h.row, h.lo⟩
theorem OS.set (h : OS w0 w c now L gw n want X) (k d : Int) (hk : fit k) (hd : fit d) :
    Calls Try.prog 23 #[.pointer (some ⟨c, 0, none⟩), .int .i64 k, .int .i64 d] w fun x w' => x = .returned (.tuple #[.bool (setB now d), .int .i64 (setS 200 now L k d)]) ∧ OS w0 w' c now (setL 200 now L k d) gw n want X :=
  (h.st.set k d hk hd).mono (fun _ _ hh => ⟨hh.1, hh.2.1, hh.2.2.row h.row (fun k hk => .inl (by simpa [Blk, Value.ownBlock, eq_comm] using hk)), h.lo⟩)
theorem OS.adv (h : OS w0 w c now L gw n want NoBlock) (by' now' : Int) (h0 : 0 ≤ by') (hn : now + by' = now') (hm : now' ≤ 1099511627776) :
    Calls Try.prog 28 #[.pointer (some ⟨c, 0, none⟩), .int .i64 by'] w fun x w' => ∃ v, x = .returned (.tuple #[v, .int .i64 0]) ∧ Nums v (keysOf (gone L now')) w' ∧ OS w0 w' c now' (rest L now') gw n want (Blk v) ∧ ∀ k, Blk v k → k ≠ gw := by
  refine (h.st.advance_yes by' now' h0 hn hm).mono ?_
  rintro x w' ⟨v, rfl, hv, hs, hk, hb⟩
  refine ⟨v, rfl, hv, ⟨hs.fewer (fun k hk => hk.elim (fun h => .inl (.inl h)) .inr), hk.row h.row (fun k hk => .inl (by simpa [Blk, Value.ownBlock, eq_comm] using hk)), h.lo⟩, fun k hk2 => ?_⟩
  have h1 := hb k hk2
  have h2 := h.row.lt (k := gw) rfl
  omega
theorem make_ints (w : World) (N : Nat) (hN : N ≤ 100000) : ∃ W', (Instr.makeSlice 36 (.int .i64 (N : Int)) (.int .i64 (N : Int))).run Try.prog w = .ok (.slice (some ⟨w.heap.size, 0, none⟩) N N) W' ∧ WRow W' 3 1 (.slice (some ⟨w.heap.size, 0, none⟩) N N) N (icells (List.replicate N 0)) ∧ Turn NoBlock w W' ∧ w.heap.size < W'.heap.size := by
  obtain ⟨i5, hi5, hz5, hs5, hb5⟩ := info_parts infoI
  obtain ⟨W1, hm1, ho1, hg1⟩ := run_make_full (P := Try.prog) w 0 36 3 i5 _ 1 intsT hi5 hz5 hs5 .i64 .i64 N (by rw [hb5]; omega) (by unfold maxLen; omega) (Nat.zero_le _)
  have e : (madeCells (Value.int .i64 0).cells (N * 1)).toList = icells (List.replicate N 0) := by
    show (madeCells #[Value.int .i64 0] (N * 1)).toList = _
    rw [toList_madeCells_one, Nat.mul_one]
    simp [icells]
  rw [e] at ho1
  have hr := WRow.of_own ho1
  exact ⟨W1, hm1, hr, turn_grown hg1, hr.lt (k := w.heap.size) rfl⟩
theorem once_new {w w1 W : World} {c n : Nat} (h : TSt w w1 c 200 0 [] NoBlock) (t : Turn NoBlock w1 W) (hr : WRow W 3 1 (.slice (some ⟨w1.heap.size, 0, none⟩) n n) n (icells (List.replicate n 0))) (hl : w1.heap.size < W.heap.size) : OS w W c 0 [] w1.heap.size n (List.replicate n 0) NoBlock :=
  ⟨h.more t (fun k hk => .inr (hk.elim (fun h => by omega) (fun h => h.elim))) (fun k hk => hk.elim), hr, h.turn.size⟩
end
end Go.Proofs.Ytcbphfpfdfgehaa
