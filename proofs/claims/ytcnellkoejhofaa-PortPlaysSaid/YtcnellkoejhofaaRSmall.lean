/-
  What the document's port answers to Users, Add, Take, Watch. No conditions but that its lists are no longer than a million.
-/
import Derived.Test.YtcnellkoejhofaaRMem
namespace Go.Proofs.Ytcnellkoejhofaa
open Go.ChangeShapes Go.WideShapes Go.ChangeAt Go.RowKit

section
variable {w w' : World} {x : Nat} {depth most : Int} {vq vw vq' vw' : Value} {Q Q' : List Pk} {Ws Ws' : List Wc}
set_option maxRecDepth 20000 in
set_option maxHeartbeats 1000000 in
theorem rusers (h : RM w x depth most vq vw Q Ws) (hq : Q.length ≤ 1000000) : Calls Try.prog 28 #[.pointer (some ⟨x, 0, none⟩)] w fun e w' => e = .returned (.int .i64 (usersN Q : Int)) ∧ w = w' := by
  obtain ⟨p, cap, rfl⟩ := WRow.sl h.q
  have c0 := h.hd.c0
  have HQ := Lib.hid h.q
  obtain ⟨n, hn⟩ : ∃ n, Q.length = n := ⟨_, rfl⟩
  have HN := Lib.hid hn
  rw [hn] at c0 hq HQ
  clear h hn
  go_enter Try.func28, Try.ntmps28
  go_wp2
  go_loopg [3, 4] n (fun z s3 s4 wr => ∃ (j u : Nat), z = n - j ∧ j ≤ n ∧ u ≤ j ∧ s3 = .int .i64 (u : Int) ∧ s4 = .int .i64 (j : Int) ∧ Hid (usersN (Q.take j) = u) ∧ Hid (w = wr))
  case atStart => exact ⟨0, 0, rfl, Nat.zero_le _, Nat.le_refl _, rfl, rfl, Lib.hid rfl, Lib.hid rfl⟩
  case round =>
    obtain ⟨j, u, hz, hj, hu, rfl, rfl, HU, HW⟩ := hrel
    obtain rfl := HW.out
    by_cases hjn : j < n
    · obtain ⟨t, ht⟩ : ∃ t, Q[j]? = some t := ⟨_, List.getElem?_eq_getElem (by rw [HN.out]; exact hjn)⟩
      obtain ⟨g, o, c', he, -⟩ := WRow.shape HQ.out (by rw [HN.out]; omega)
      simp only [Value.slice.injEq] at he
      obtain ⟨rfl, -, rfl⟩ := he
      obtain ⟨d0, d1, d2⟩ := BRow.three HQ.out ht
      have hji : (j : Int) < (n : Int) := by omega
      have hst : usersN (Q.take (j + 1)) = u + if t.s = 0 then 1 else 0 := by rw [List.take_add_one, ht]; show usersN (Q.take j ++ [t]) = _; rw [usersN_push, HU.out]
      by_cases hs : t.s = 0
      · rw [if_pos hs] at hst
        have hs0 : (t.s == 0) = true := by simp [hs]
        have HST := Lib.hid hst
        clear hs hst ht
        go_wp2
        go_roundg (n - (j + 1))
        case measure => omega
        case rel => exact ⟨j + 1, u + 1, rfl, by omega, by omega, by go_num, by go_num, HST, Lib.hid rfl⟩
      · rw [if_neg hs] at hst
        have hs0 : (t.s == 0) = false := by simp [hs]
        have HST := Lib.hid hst
        clear hs hst ht
        go_wp2
        go_roundg (n - (j + 1))
        case measure => omega
        case rel => exact ⟨j + 1, u, rfl, by omega, by omega, rfl, by go_num, HST, Lib.hid rfl⟩
    · obtain rfl : j = n := by omega
      have hfin := HU.out
      rw [List.take_of_length_le (by rw [HN.out]; exact Nat.le_refl _)] at hfin
      have HFI := Lib.hid hfin
      clear hfin
      go_wp2
      go_ret
      exact ⟨ret_int (by rw [HFI.out]), rfl⟩
set_option maxRecDepth 20000 in
set_option maxHeartbeats 1000000 in
theorem radd (h : RM w x depth most vq vw Q Ws) (ok : POk depth most Q Ws) (k n : Int) : Calls Try.prog 11 #[.pointer (some ⟨x, 0, none⟩), .int .i64 k, .int .i64 n] w fun e w' => e = .returned (.int .i64 (queS depth Q)) ∧ RMade w w' x depth most vq vw (queL depth Q k n) Ws := by
  have hq := ok.qlen
  have CU := Lib.hid (fun W (t : Turn NoBlock w W) => rusers (h.past t) (by omega))
  have c2 := (h.past (Turn.refl NoBlock w).drew).hd.c2
  have hdep := ok.dep
  have hus := ok.users
  unfold queS queL
  by_cases hu : (usersN Q : Int) = depth
  · rw [if_pos hu, if_pos hu]
    have hge : decide ((usersN Q : Int) ≥ depth) = true := by simp; omega
    have HM := Lib.hid (h.made (Turn.refl NoBlock w).drew)
    generalize (usersN Q : Int) = u at *
    clear h ok hq hu hus
    go_enter Try.func11, Try.ntmps11
    go_wp2
    go_region_held3 (fun W => W.cell? ⟨x, 2, none⟩ = some (.int .i64 depth)) (exact c2)
      ((go_at_call 28; (with_reducible refine (CU.out _ ((Turn.refl NoBlock w).drew)).mono ?_); rintro e w2 ⟨rfl, rfl⟩))
    go_wp2
    go_ret
    exact ⟨rfl, HM.out⟩
  · rw [if_neg hu, if_neg hu]
    have hge : decide ((usersN Q : Int) ≥ depth) = false := by simp; omega
    have tD : Turn NoBlock w w.drew := (Turn.refl NoBlock w).drew
    obtain ⟨p, nn, cap, p', cap', W1, hv, hn, hap, hrow, htn, hbl⟩ := (h.past tD).q.push ⟨k, 0, n⟩ (by omega)
    obtain ⟨e2, f2, hM, hF, hT⟩ := (h.past tD).setq htn hrow hbl
    have c0 := (h.past (tD.alloc (.cells #[.int .i64 k, .int .i64 0, .int .i64 n] 40))).hd.c0
    have d0 := (h.past tD).hd.c0
    have HM := Lib.hid (show RMade w (W1.setCell ⟨x, 0, none⟩ (.slice p' (nn + 1) cap')) x depth most vq vw (Q ++ [⟨k, 0, n⟩]) Ws from ⟨_, _, hM, hF, (TU tD).trans hT (fun _ h => .inl h)⟩)
    rw [hv] at c0 d0 e2
    dsimp only at hap
    generalize (usersN Q : Int) = u at *
    clear h ok hq hu hus hrow htn hbl hM hF hT hv hn tD
    go_enter Try.func11, Try.ntmps11
    go_wp2
    go_region_held3 (fun W => W.cell? ⟨x, 2, none⟩ = some (.int .i64 depth)) (exact c2)
      ((go_at_call 28; (with_reducible refine (CU.out _ ((Turn.refl NoBlock w).drew)).mono ?_); rintro e w2 ⟨rfl, rfl⟩))
    go_wp2_with (at_builtin; refine wpList_append_run (by rfl) (.tmp 18) (.tmp 22) 27 27 (by rfl) _ _ (by rfl) (by rfl) _ _ (hap _) ?_)
    go_ret
    exact ⟨rfl, HM.out⟩
end
end Go.Proofs.Ytcnellkoejhofaa
