/-
  What the reference's check and Shows answer, and what its Write, Read, Forget, Call and Close refuse; without. No conditions but that the reference's channel is one that calls can make.
-/
import Derived.Test.YtcbphfpfdfgehaaRCMod
import Derived.Test.YtcbphfpfdfgehaaCTot
import Derived.BigQuiet
import Derived.Deep.DeepCutAuto
import Derived.OwnWalk
import Derived.Deep.LoopGhost
namespace Go.Proofs.Ytcbphfpfdfgehaa
open Go.ChangeShapes Go.WideShapes Go.ChangeAt Go.RowKit

theorem results_ct {fn : Func} {p u : Tmp} {ty : TypeId} (h : fn.results = #[.cell p ty, .tmp u]) (tmps : Array Value) (P : Program) (w : World) :
    (results fn tmps).run P w =
      ((asAddr (tmps.getD p undef)).run P w).andThen fun a w₁ => ((loadVar ty a).run P w₁).andThen fun v w₂ => .ok (.tuple #[v, tmps.getD u undef]) w₂ := by
  simp only [results, h]
  simp [Sem.run_bind, Result.andThen]
theorem results_ttt {fn : Func} {p q u : Tmp} (h : fn.results = #[.tmp p, .tmp q, .tmp u]) (tmps : Array Value) (P : Program) (w : World) :
    (results fn tmps).run P w = .ok (.tuple #[tmps.getD p undef, tmps.getD q undef, tmps.getD u undef]) w := by
  simp only [results, h]
  simp
theorem rcheck_bad (x : Nat) (e : Int) (w : World) (h0 : e ≠ 0) (h1 : e ≠ 1) :
    Calls Try.prog 53 #[.pointer (some ⟨x, 0, none⟩), .int .i64 e] w fun y w' => y = .returned (.int .i64 (-10)) ∧ w = w' := by
  have b0 : (e != 0) = true := bne_iff_ne.2 h0
  have b1 : (e != 1) = true := bne_iff_ne.2 h1
  go_enter Try.func53, Try.ntmps53
  go_wp2
  go_ret
  exact ⟨rfl, rfl⟩
theorem rwrite_bad (x : Nat) (e tx : Int) (vd vh : Value) (w : World) (h0 : e ≠ 0) (h1 : e ≠ 1) (hd : ∃ p n c, vd = .slice p n c) (hh : ∃ p n c, vh = .slice p n c) :
    Calls Try.prog 39 #[.pointer (some ⟨x, 0, none⟩), .int .i64 e, .agg #[.int .i64 tx, vd, vh]] w fun y w' => y = .returned (.tuple #[.int .i64 0, .int .i64 (-10)]) ∧ Turn NoBlock w w' := by
  obtain ⟨p, n, c, rfl⟩ := hd
  obtain ⟨p', n', c', rfl⟩ := hh
  have CK := Lib.hid (fun W => rcheck_bad x e W h0 h1)
  clear h0 h1
  go_enter Try.func39, Try.ntmps39
  go_wp2_with (go_at_call 53; (with_reducible refine (CK.out _).mono ?_); rintro y w' ⟨rfl, rfl⟩)
  go_ret2
  exact ⟨rfl, (Turn.refl _ _).alloc _⟩
theorem rread_bad (x : Nat) (e n k : Int) (w : World) (h0 : e ≠ 0) (h1 : e ≠ 1) :
    Calls Try.prog 40 #[.pointer (some ⟨x, 0, none⟩), .int .i64 e, .int .i64 n, .int .i64 k] w fun y w' => y = .returned (.tuple #[.agg #[.int .i64 0, .slice none 0 0, .slice none 0 0], .int .i64 (-10)]) ∧ Turn NoBlock w w' := by
  have CK := Lib.hid (fun W => rcheck_bad x e W h0 h1)
  clear h0 h1
  go_enter Try.func40, Try.ntmps40
  go_wp2_with (go_at_call 53; (with_reducible refine (CK.out _).mono ?_); rintro y w' ⟨rfl, rfl⟩)
  refine bodyPost_ret (v := .tuple #[.agg #[.int .i64 0, .slice none 0 0, .slice none 0 0], .int .i64 (-10)]) (by rw [results_ct rfl]; go_simp) rfl ⟨rfl, ?_⟩
  exact (Turn.refl _ w).alloc _
theorem rforget_bad (x : Nat) (e k : Int) (w : World) (h0 : e ≠ 0) (h1 : e ≠ 1) :
    Calls Try.prog 45 #[.pointer (some ⟨x, 0, none⟩), .int .i64 e, .int .i64 k] w fun y w' => y = .returned (.int .i64 (-10)) ∧ w = w' := by
  have CK := Lib.hid (fun W => rcheck_bad x e W h0 h1)
  clear h0 h1
  go_enter Try.func45, Try.ntmps45
  go_wp2_with (go_at_call 53; (with_reducible refine (CK.out _).mono ?_); rintro y w' ⟨rfl, rfl⟩)
  go_ret
  exact ⟨rfl, rfl⟩
theorem rcall_bad (x : Nat) (e k tx : Int) (vd vh : Value) (w : World) (h0 : e ≠ 0) (h1 : e ≠ 1) (hd : ∃ p n c, vd = .slice p n c) (hh : ∃ p n c, vh = .slice p n c) :
    Calls Try.prog 43 #[.pointer (some ⟨x, 0, none⟩), .int .i64 e, .int .i64 k, .agg #[.int .i64 tx, vd, vh]] w fun y w' => y = .returned (.int .i64 (-10)) ∧ Turn NoBlock w w' := by
  obtain ⟨p, n, c, rfl⟩ := hd
  obtain ⟨p', n', c', rfl⟩ := hh
  have CK := Lib.hid (fun W => rcheck_bad x e W h0 h1)
  clear h0 h1
  go_enter Try.func43, Try.ntmps43
  go_wp2_with (go_at_call 53; (with_reducible refine (CK.out _).mono ?_); rintro y w' ⟨rfl, rfl⟩)
  go_ret
  exact ⟨rfl, (Turn.refl _ _).alloc _⟩
theorem rclose_bad (x : Nat) (e : Int) (w : World) (h0 : e ≠ 0) (h1 : e ≠ 1) :
    Calls Try.prog 47 #[.pointer (some ⟨x, 0, none⟩), .int .i64 e] w fun y w' => y = .returned (.tuple #[.slice none 0 0, .slice none 0 0, .int .i64 (-10)]) ∧ w = w' := by
  have CK := Lib.hid (fun W => rcheck_bad x e W h0 h1)
  clear h0 h1
  go_enter Try.func47, Try.ntmps47
  go_wp2_with (go_at_call 53; (with_reducible refine (CK.out _).mono ?_); rintro y w' ⟨rfl, rfl⟩)
  exact bodyPost_ret (v := .tuple #[.slice none 0 0, .slice none 0 0, .int .i64 (-10)]) (by rw [results_ttt rfl]; go_simp) rfl ⟨rfl, rfl⟩
/-- One who waits is left out. -/
def wOut (l : List Wt) (k i : Nat) : List Wt := (l.take i).eraseIdx k
theorem wOut_next (l : List Wt) (k i : Nat) (t : Wt) (ht : l[i]? = some t) : wOut l k (i + 1) = if i = k then wOut l k i else wOut l k i ++ [t] := by
  unfold wOut
  have hi := (List.getElem?_eq_some_iff.1 ht).1
  rw [List.take_add_one, ht]
  have hlen : (l.take i).length = i := by rw [List.length_take]; omega
  split
  · rename_i h; subst h
    rw [List.eraseIdx_append_of_length_le (by omega), hlen, Nat.sub_self]
    rw [List.eraseIdx_of_length_le (show (l.take i).length ≤ i by omega)]
    simp
  · rename_i h
    rcases Nat.lt_or_ge k i with h1 | h1
    · rw [List.eraseIdx_append_of_lt_length (by omega)]; rfl
    · rw [List.eraseIdx_of_length_le (by simp; omega), List.eraseIdx_of_length_le (by omega)]; rfl
theorem wOut_le (l : List Wt) (k i : Nat) : (wOut l k i).length ≤ i := by
  unfold wOut
  have h1 := List.length_eraseIdx_le (l.take i) k
  have h2 : (l.take i).length ≤ i := by rw [List.length_take]; omega
  omega
section
variable {w0 w : World} {x depth : Nat} {S : Nat → MS} {U V : Nat → Value} {Q : Nat → List QM}
theorem rcheck0 (h : RC w0 w x depth S U V Q) (b : Bool) (hb : (S 0).op = b) :
    Calls Try.prog 53 #[.pointer (some ⟨x, 0, none⟩), .int .i64 0] w fun y w' => y = .returned (.int .i64 (if b then 0 else -24)) ∧ w = w' := by
  have c0 : w.cell? ⟨x, 4 + 0, none⟩ = some (.bool (!(S 0).op)) := h.cc 0 (by omega)
  simp only [Nat.reduceAdd] at c0
  rw [hb] at c0
  clear h hb
  cases b
  all_goals
    go_enter Try.func53, Try.ntmps53
    go_wp2
    go_ret
    exact ⟨rfl, rfl⟩
theorem rshows0 (h : RC w0 w x depth S U V Q) (hl0 : (S 0).q.length ≤ 1000000) :
    Calls Try.prog 17 #[.pointer (some ⟨x, 0, none⟩), .int .i64 0] w fun y w' => y = .returned (.int .i64 (shK depth (S 0) (S 1))) ∧ Turn NoBlock w w' := by
  have d0 : w.cell? ⟨x, 4 + 0, none⟩ = some (.bool (!(S 0).op)) := h.cc 0 (by omega)
  have d1 : w.cell? ⟨x, 4 + 1, none⟩ = some (.bool (!(S 1).op)) := h.cc 1 (by omega)
  have d2 : w.cell? ⟨x, 0, none⟩ = some (U 0) := h.cu 0 (by omega)
  have d3 : w.cell? ⟨x, 1, none⟩ = some (U 1) := h.cu 1 (by omega)
  simp only [Nat.reduceAdd] at d0 d1
  have d4 := h.c6
  obtain ⟨p0, a0, hv0⟩ := (h.ru 0 (by omega)).sl
  obtain ⟨p1, a1, hv1⟩ := (h.ru 1 (by omega)).sl
  have e0 : (Q 0).length = (S 0).q.length := by rw [← h.mp 0 (by omega), List.length_map]
  have e1 : (Q 1).length = (S 1).q.length := by rw [← h.mp 1 (by omega), List.length_map]
  rw [hv0, e0] at d2
  rw [hv1, e1] at d3
  have CK := Lib.hid (rcheck0 h (S 0).op rfl)
  unfold shK
  generalize (S 0).q.length = m at *
  generalize (S 1).q.length = n at *
  generalize (S 0).op = b0 at *
  generalize (S 1).op = b1 at *
  clear h hv0 hv1 e0 e1
  cases b0 with
  | false =>
    go_enter Try.func17, Try.ntmps17
    go_wp2_with (go_at_call 53; (with_reducible refine CK.out.mono ?_); rintro y w' ⟨rfl, rfl⟩)
    go_ret
    exact ⟨rfl, Turn.refl _ _⟩
  | true =>
    obtain ⟨s, hs, hsa⟩ : ∃ s : Int, ((m = 0 ∧ s = 0) ∨ (0 < m ∧ s = 1)) ∧ (if m = 0 then (0 : Int) else 1) = s := by
      by_cases h0 : m = 0
      · exact ⟨0, .inl ⟨h0, rfl⟩, by rw [if_pos h0]⟩
      · exact ⟨1, .inr ⟨by omega, rfl⟩, by rw [if_neg h0]⟩
    rw [if_neg (by decide), hsa]
    cases b1 with
    | false =>
      rcases hs with ⟨rfl, rfl⟩ | ⟨h0, rfl⟩
      all_goals
        try clear hsa
        try have h00 : (0 : Int) < m := by omega
        go_enter Try.func17, Try.ntmps17
        go_wp2_with (go_at_call 53; (with_reducible refine CK.out.mono ?_); rintro y w' ⟨rfl, rfl⟩)
        go_ret
        exact ⟨rfl, Turn.refl _ _⟩
    | true =>
      rw [if_neg (by decide)]
      by_cases h2 : n < depth
      · have h3 : (n : Int) < depth := by omega
        rw [if_pos h2]
        rcases hs with ⟨rfl, rfl⟩ | ⟨h0, rfl⟩
        all_goals
          try clear hsa
          try have h00 : (0 : Int) < m := by omega
          go_enter Try.func17, Try.ntmps17
          go_wp2_with (go_at_call 53; (with_reducible refine CK.out.mono ?_); rintro y w' ⟨rfl, rfl⟩)
          go_quiet (fail)
          go_wp2
          go_ret
          exact ⟨rfl, (Turn.refl _ _).drewN _⟩
      · have h3 : ¬ (n : Int) < depth := by omega
        rw [if_neg h2]
        rcases hs with ⟨rfl, rfl⟩ | ⟨h0, rfl⟩
        all_goals
          try clear hsa
          try have h00 : (0 : Int) < m := by omega
          go_enter Try.func17, Try.ntmps17
          go_wp2_with (go_at_call 53; (with_reducible refine CK.out.mono ?_); rintro y w' ⟨rfl, rfl⟩)
          go_quiet (fail)
          go_wp2
          go_ret
          exact ⟨rfl, (Turn.refl _ _).drewN _⟩
theorem rcheck1 (h : RC w0 w x depth S U V Q) (b : Bool) (hb : (S 1).op = b) :
    Calls Try.prog 53 #[.pointer (some ⟨x, 0, none⟩), .int .i64 1] w fun y w' => y = .returned (.int .i64 (if b then 0 else -24)) ∧ w = w' := by
  have c0 : w.cell? ⟨x, 4 + 1, none⟩ = some (.bool (!(S 1).op)) := h.cc 1 (by omega)
  simp only [Nat.reduceAdd] at c0
  rw [hb] at c0
  clear h hb
  cases b
  all_goals
    go_enter Try.func53, Try.ntmps53
    go_wp2
    go_ret
    exact ⟨rfl, rfl⟩
theorem rshows1 (h : RC w0 w x depth S U V Q) (hl0 : (S 1).q.length ≤ 1000000) :
    Calls Try.prog 17 #[.pointer (some ⟨x, 0, none⟩), .int .i64 1] w fun y w' => y = .returned (.int .i64 (shK depth (S 1) (S 0))) ∧ Turn NoBlock w w' := by
  have d0 : w.cell? ⟨x, 4 + 1, none⟩ = some (.bool (!(S 1).op)) := h.cc 1 (by omega)
  have d1 : w.cell? ⟨x, 4 + 0, none⟩ = some (.bool (!(S 0).op)) := h.cc 0 (by omega)
  have d2 : w.cell? ⟨x, 1, none⟩ = some (U 1) := h.cu 1 (by omega)
  have d3 : w.cell? ⟨x, 0, none⟩ = some (U 0) := h.cu 0 (by omega)
  simp only [Nat.reduceAdd] at d0 d1
  have d4 := h.c6
  obtain ⟨p0, a0, hv0⟩ := (h.ru 1 (by omega)).sl
  obtain ⟨p1, a1, hv1⟩ := (h.ru 0 (by omega)).sl
  have e0 : (Q 1).length = (S 1).q.length := by rw [← h.mp 1 (by omega), List.length_map]
  have e1 : (Q 0).length = (S 0).q.length := by rw [← h.mp 0 (by omega), List.length_map]
  rw [hv0, e0] at d2
  rw [hv1, e1] at d3
  have CK := Lib.hid (rcheck1 h (S 1).op rfl)
  unfold shK
  generalize (S 1).q.length = m at *
  generalize (S 0).q.length = n at *
  generalize (S 1).op = b0 at *
  generalize (S 0).op = b1 at *
  clear h hv0 hv1 e0 e1
  cases b0 with
  | false =>
    go_enter Try.func17, Try.ntmps17
    go_wp2_with (go_at_call 53; (with_reducible refine CK.out.mono ?_); rintro y w' ⟨rfl, rfl⟩)
    go_ret
    exact ⟨rfl, Turn.refl _ _⟩
  | true =>
    obtain ⟨s, hs, hsa⟩ : ∃ s : Int, ((m = 0 ∧ s = 0) ∨ (0 < m ∧ s = 1)) ∧ (if m = 0 then (0 : Int) else 1) = s := by
      by_cases h0 : m = 0
      · exact ⟨0, .inl ⟨h0, rfl⟩, by rw [if_pos h0]⟩
      · exact ⟨1, .inr ⟨by omega, rfl⟩, by rw [if_neg h0]⟩
    rw [if_neg (by decide), hsa]
    cases b1 with
    | false =>
      rcases hs with ⟨rfl, rfl⟩ | ⟨h0, rfl⟩
      all_goals
        try clear hsa
        try have h00 : (0 : Int) < m := by omega
        go_enter Try.func17, Try.ntmps17
        go_wp2_with (go_at_call 53; (with_reducible refine CK.out.mono ?_); rintro y w' ⟨rfl, rfl⟩)
        go_ret
        exact ⟨rfl, Turn.refl _ _⟩
    | true =>
      rw [if_neg (by decide)]
      by_cases h2 : n < depth
      · have h3 : (n : Int) < depth := by omega
        rw [if_pos h2]
        rcases hs with ⟨rfl, rfl⟩ | ⟨h0, rfl⟩
        all_goals
          try clear hsa
          try have h00 : (0 : Int) < m := by omega
          go_enter Try.func17, Try.ntmps17
          go_wp2_with (go_at_call 53; (with_reducible refine CK.out.mono ?_); rintro y w' ⟨rfl, rfl⟩)
          go_quiet (fail)
          go_wp2
          go_ret
          exact ⟨rfl, (Turn.refl _ _).drewN _⟩
      · have h3 : ¬ (n : Int) < depth := by omega
        rw [if_neg h2]
        rcases hs with ⟨rfl, rfl⟩ | ⟨h0, rfl⟩
        all_goals
          try clear hsa
          try have h00 : (0 : Int) < m := by omega
          go_enter Try.func17, Try.ntmps17
          go_wp2_with (go_at_call 53; (with_reducible refine CK.out.mono ?_); rintro y w' ⟨rfl, rfl⟩)
          go_quiet (fail)
          go_wp2
          go_ret
          exact ⟨rfl, (Turn.refl _ _).drewN _⟩
end
/-- Those who wait without one of them, in memory of the call's own. -/
structure WOut (w0 w : World) (v : Value) (l : List Wt) : Prop where
  row : WRow w 131 2 v l.length (wcells l)
  turn : Turn NoBlock w0 w
  mine : ∀ k, Blk v k → w0.heap.size ≤ k
set_option maxRecDepth 20000 in
set_option maxHeartbeats 1000000 in
theorem rwithout (w : World) (v : Value) (l : List Wt) (k : Nat) (hr : WRow w 131 2 v l.length (wcells l)) (hl : l.length ≤ 100000000) :
    Calls Try.prog 69 #[v, .int .i64 (k : Int)] w fun y w' => ∃ u, y = .returned u ∧ WOut w w' u (l.eraseIdx k) := by
  obtain ⟨iW, hiW, hzW, hsW, hbW⟩ := info_parts infoRW
  obtain ⟨p, c, hv⟩ := hr.sl
  obtain ⟨n, hn⟩ : ∃ n, l.length = n := ⟨_, rfl⟩
  rw [hn] at hv
  subst hv
  have HR := Lib.hid hr
  have HN := Lib.hid hn
  have hln : n ≤ 100000000 := by omega
  clear hr hn hl
  go_enter Try.func69, Try.ntmps69
  go_wp2
  go_loopg [5, 6] n (fun z s5 s6 wr => ∃ (i lo : Nat) (p5 : Option Addr) (c5 : Nat), i ≤ n ∧ z = n - i ∧ s6 = .int .i64 (i : Int) ∧ s5 = .slice p5 lo c5 ∧ Hid (WOut w wr (.slice p5 lo c5) (wOut l k i) ∧ (wOut l k i).length = lo))
  case atStart => exact ⟨0, 0, none, 0, by omega, by omega, rfl, rfl, Lib.hid ⟨⟨by show WRow _ _ _ _ 0 []; exact wrow_nil _ _ _, Turn.refl _ _, fun k hk => (blk_nil k hk).elim⟩, rfl⟩⟩
  case round =>
    obtain ⟨i, lo, p5, c5, hi, hz, rfl, rfl, HO⟩ := hrel
    by_cases hlt : i < n
    · have hlti : (i : Int) < (n : Int) := by omega
      obtain ⟨t, ht⟩ : ∃ t, l[i]? = some t := ⟨_, List.getElem?_eq_getElem (by rw [HN.out]; exact hlt)⟩
      have hnx := wOut_next l k i t ht
      by_cases hik : i = k
      · have e1 : ((i : Int) != (k : Int)) = false := by simp; omega
        rw [if_pos hik] at hnx
        have HX := Lib.hid hnx
        clear hnx hik ht
        go_wp2
        go_roundg (n - (i + 1))
        case measure => omega
        case rel => exact ⟨i + 1, lo, p5, c5, by omega, rfl, by go_num, rfl, Lib.hid (by rw [HX.out]; exact HO.out)⟩
      · have e1 : ((i : Int) != (k : Int)) = true := by simp; omega
        rw [if_neg hik] at hnx
        have hrow := HR.out.past HO.out.1.turn
        obtain ⟨g, o, c', he, -, -, -, hce, -⟩ := hrow.shape (by rw [HN.out]; omega)
        simp only [Value.slice.injEq] at he
        obtain ⟨rfl, -, rfl⟩ := he
        have d0 := hce (i * 2 + 0) (by rw [HN.out]; omega)
        have d1 := hce (i * 2 + 1) (by rw [HN.out]; omega)
        rw [wcells_at l i t ht 0 (by omega)] at d0
        rw [wcells_at l i t ht 1 (by omega)] at d1
        have d0 : wr.cell? ⟨g, o + i * 2, none⟩ = some (.int .i64 t.who) := d0
        have d1 : wr.cell? ⟨g, o + i * 2 + 1, none⟩ = some (.int .i64 t.tx) := by rw [Nat.add_assoc]; exact d1
        have HX := Lib.hid hnx
        have hlo := wOut_le l k i
        have LB := Lib.hid (show lo + 1 ≤ maxLen ∧ (lo + 1) * 16 ≤ 140737488355328 by have := HO.out.2; unfold maxLen; omega)
        have ROW := Lib.hid (show WRow wr 131 2 (.slice p5 lo c5) lo (wcells (wOut l k i)) by have := HO.out.1.row; rw [HO.out.2] at this; exact this)
        clear hnx hik ht hrow hce hlo
        go_wp2_with (at_builtin; refine wpList_append_w rfl (.tmp 16) (.tmp 21) 30 30 rfl (WRow.past ROW.out ((Turn.refl NoBlock _).alloc _)) iW _ 16 rws2 hiW hzW hsW hbW rfl rfl rfl (Rd.src (rd_new _ 131 2 #[.int .i64 t.who, .int .i64 t.tx] rfl) 30 131 rws2 (fun u hu => by simp at hu; rcases hu with rfl | rfl <;> rfl)) LB.out.1 LB.out.2 ?_; intro v8 W8 r8 t8 k8; obtain ⟨p8, c8', rfl⟩ := r8.sl; have R8 := Lib.hid (And.intro r8 (And.intro t8 k8)); clear r8 t8 k8)
        go_roundg (n - (i + 1))
        case measure => omega
        case rel =>
          refine ⟨i + 1, lo + 1, p8, c8', by omega, rfl, by go_num, rfl, Lib.hid ?_⟩
          rw [HX.out]
          refine ⟨⟨?_, ?_, fun k hk => ?_⟩, by rw [List.length_append, HO.out.2]; rfl⟩
          · rw [List.length_append, HO.out.2, wcells_app]
            exact R8.out.1
          · exact (HO.out.1.turn.alloc _).trans R8.out.2.1 (fun k hk => .inr (HO.out.1.mine k hk))
          · rcases R8.out.2.2 k hk with h1 | h1
            · exact HO.out.1.mine k h1
            · have := HO.out.1.turn.size; have h2 := h1.1; simp at h2; omega
    · have hlti : ¬ (i : Int) < (n : Int) := by omega
      obtain rfl : i = n := by omega
      have HF := Lib.hid (show wOut l k i = l.eraseIdx k by unfold wOut; rw [← HN.out, List.take_length])
      go_wp2
      go_ret
      exact ⟨_, rfl, by rw [← HF.out]; exact HO.out.1⟩
end Go.Proofs.Ytcbphfpfdfgehaa
