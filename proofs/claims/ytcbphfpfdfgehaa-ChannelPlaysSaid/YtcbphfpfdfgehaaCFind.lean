/-
  What the search for a waiter tells: the place of the first that is looked for; -1, if there is none. No conditions but that the row can be read.
-/
import Derived.Test.YtcbphfpfdfgehaaCBlank
import Derived.Sort.LoopGhostIn
namespace Go.Proofs.Ytcbphfpfdfgehaa
open Go.ChangeShapes Go.WideShapes Go.ChangeAt Go.RowKit

/-- The first k are not looked for, and what stands at k is, if anything does. -/
structure FirstAt (P : Wt → Bool) (ws : List Wt) (k : Nat) : Prop where
  le : k ≤ ws.length
  no : ∀ j t, j < k → ws[j]? = some t → P t = false
  yes : ∀ t, ws[k]? = some t → P t = true
theorem first_ex (P : Wt → Bool) (ws : List Wt) : FirstAt P ws (ws.findIdx P) := by
  refine ⟨List.findIdx_le_length, fun j t hj ht => ?_, fun t ht => ?_⟩
  · have hlt := (List.getElem?_eq_some_iff.1 ht)
    have := List.not_of_lt_findIdx hj
    rw [← hlt.2]
    simpa using this
  · obtain ⟨hlt, h⟩ := List.getElem?_eq_some_iff.1 ht
    have := List.findIdx_getElem (w := hlt)
    rw [← h]
    exact this
def hitAt (k n : Nat) : Int := if k < n then (k : Int) else -1

theorem wrow_two {w : World} {g o n c : Nat} {ws : List Wt} (h : WRow w 126 2 (.slice (some ⟨g, o, none⟩) n c) ws.length (wcells ws)) {j : Nat} {t : Wt} (ht : ws[j]? = some t) :
    w.cell? ⟨g, o + j * 2, none⟩ = some (.int .i64 t.who) ∧ w.cell? ⟨g, o + j * 2 + 1, none⟩ = some (.int .i64 t.tx) := by
  have hlt := (List.getElem?_eq_some_iff.1 ht).1
  obtain ⟨g', o', c', he, -, -, -, hc, -⟩ := h.shape (by omega)
  simp only [Value.slice.injEq, Option.some.injEq, Addr.mk.injEq, and_true] at he
  obtain ⟨⟨rfl, rfl⟩, -, rfl⟩ := he
  refine ⟨?_, ?_⟩
  · have := hc (j * 2) (by omega)
    rw [this]
    exact (wcells_at ws j t ht 0 (by omega))
  · have := hc (j * 2 + 1) (by omega)
    rw [Nat.add_assoc, this]
    exact (wcells_at ws j t ht 1 (by omega))

theorem closeW (w : World) (t : Wt) (B : Nat) (x : Int) (hB : w.cell? ⟨B, 0, none⟩ = some (.int .i64 x)) :
    Calls Try.prog 64 #[t.agg, .pointer (some ⟨B, 0, none⟩)] w fun e w' => e = .returned (.bool (t.tx == x)) ∧ Turn NoBlock w w' := by
  obtain ⟨a, b⟩ := t
  unfold Wt.agg
  have hl := World.block_lt_of_cell? w _ hB
  simp only at hl
  dsimp only
  go_enter Try.func64, Try.ntmps64
  go_wp2
  go_ret
  exact ⟨rfl, (Turn.refl _ w).alloc _⟩
theorem closeF (w : World) (t : Wt) (B : Nat) (x : Int) (hB : w.cell? ⟨B, 0, none⟩ = some (.int .i64 x)) :
    Calls Try.prog 71 #[t.agg, .pointer (some ⟨B, 0, none⟩)] w fun e w' => e = .returned (.bool (t.who == x)) ∧ Turn NoBlock w w' := by
  obtain ⟨a, b⟩ := t
  unfold Wt.agg
  have hl := World.block_lt_of_cell? w _ hB
  simp only at hl
  dsimp only
  go_enter Try.func71, Try.ntmps71
  go_wp2
  go_ret
  exact ⟨rfl, (Turn.refl _ w).alloc _⟩

set_option maxRecDepth 20000 in
set_option maxHeartbeats 1000000 in
theorem indexW (w : World) (v : Value) (ws : List Wt) (B : Nat) (x : Int) (k : Nat) (hr : WRow w 126 2 v ws.length (wcells ws)) (hB : w.cell? ⟨B, 0, none⟩ = some (.int .i64 x)) (hk : FirstAt (fun t => t.tx == x) ws k) (hn : ws.length ≤ 1000000000) :
    Calls Try.prog 81 #[v, .func (.func 64) #[] #[.pointer (some ⟨B, 0, none⟩)]] w fun e w' => e = .returned (.int .i64 (hitAt k ws.length)) ∧ Turn NoBlock w w' := by
  obtain ⟨p, c, rfl⟩ := hr.sl
  have HR := Lib.hid hr
  have HB := Lib.hid hB
  have HK := Lib.hid hk
  have hkl := hk.le
  obtain ⟨n, hne⟩ : ∃ n, ws.length = n := ⟨_, rfl⟩
  have HN := Lib.hid hne
  rw [hne] at hkl hn ⊢
  clear hr hB hk hne
  go_enter Try.func81, Try.ntmps81
  go_wp2
  go_loopg [5, 8] n (fun g s5 s8 wr => ∃ j : Nat, j ≤ k ∧ g = n - j ∧ s8 = .int .i64 (j : Int) ∧ Hid (Turn NoBlock w wr))
  case atStart => exact ⟨0, by omega, by omega, rfl, Lib.hid (Turn.refl _ _)⟩
  case round =>
    obtain ⟨j, hj, hg, rfl, HT⟩ := hrel
    by_cases hlt : j < n
    · obtain ⟨t, ht⟩ : ∃ t, ws[j]? = some t := ⟨_, List.getElem?_eq_getElem (by rw [HN.out]; exact hlt)⟩
      have hrow := HR.out.past HT.out
      obtain ⟨g', o', c', he, -⟩ := hrow.shape (by rw [HN.out]; omega)
      simp only [Value.slice.injEq] at he
      obtain ⟨rfl, -, rfl⟩ := he
      obtain ⟨d0, d1⟩ := wrow_two hrow ht
      have cC := closeW wr t B x (HT.out.cell HB.out (fun h => h))
      unfold Wt.agg at cC
      have hjn : (j : Int) < n := by omega
      by_cases hjk : j < k
      · have hP : (t.tx == x) = false := HK.out.no j t hjk ht
        rw [hP] at cC
        clear hrow hP ht
        go_wp2_with (go_at_call 64; (with_reducible refine cC.mono ?_); rintro e w2 ⟨rfl, t2⟩; have T2 := Lib.hid t2; clear t2)
        go_roundg (n - (j + 1))
        case measure => omega
        case rel => exact ⟨j + 1, by omega, by omega, by go_num, Lib.hid (TT HT.out T2.out)⟩
      · obtain rfl : j = k := by omega
        have hP : (t.tx == x) = true := HK.out.yes t ht
        rw [hP] at cC
        clear hrow hP ht
        go_wp2_with (go_at_call 64; (with_reducible refine cC.mono ?_); rintro e w2 ⟨rfl, t2⟩; have T2 := Lib.hid t2; clear t2)
        go_ret
        exact ⟨ret_int (by unfold hitAt; rw [if_pos hlt]), TT HT.out T2.out⟩
    · obtain rfl : j = n := by omega
      go_wp2
      go_ret
      exact ⟨ret_int (by unfold hitAt; rw [if_neg (by omega)]), HT.out⟩

theorem findW {w : World} {c o : Nat} {s : Sd} {v : SV} (h : SAt w c o s v) (B : Nat) (x : Int) (k : Nat) (hB : w.cell? ⟨B, 0, none⟩ = some (.int .i64 x)) (hk : FirstAt (fun t => t.tx == x) s.ws k) (hn : s.ws.length ≤ 1000000000) :
    Calls Try.prog 63 #[.pointer (some ⟨c, o, none⟩), .func (.func 64) #[] #[.pointer (some ⟨B, 0, none⟩)]] w fun e w' => e = .returned (.int .i64 (hitAt k s.ws.length)) ∧ Turn NoBlock w w' := by
  have c1 := indexW w v.w s.ws B x k h.rowW hB hk hn
  have c3 := h.c3
  obtain ⟨p, pc, hp⟩ := h.rowW.sl
  rw [hp] at c1 c3
  clear h hp hB hk
  generalize hitAt k s.ws.length = r at *
  generalize s.ws.length = m at *
  go_enter Try.func63, Try.ntmps63
  go_wp2_with (go_at_call 81; (with_reducible refine c1.mono ?_); rintro e w2 ⟨rfl, t2⟩; have T2 := Lib.hid t2; clear t2)
  go_ret
  exact ⟨rfl, T2.out⟩
set_option maxRecDepth 20000 in
set_option maxHeartbeats 1000000 in
theorem indexF (w : World) (v : Value) (ws : List Wt) (B : Nat) (x : Int) (k : Nat) (hr : WRow w 126 2 v ws.length (wcells ws)) (hB : w.cell? ⟨B, 0, none⟩ = some (.int .i64 x)) (hk : FirstAt (fun t => t.who == x) ws k) (hn : ws.length ≤ 1000000000) :
    Calls Try.prog 81 #[v, .func (.func 71) #[] #[.pointer (some ⟨B, 0, none⟩)]] w fun e w' => e = .returned (.int .i64 (hitAt k ws.length)) ∧ Turn NoBlock w w' := by
  obtain ⟨p, c, rfl⟩ := hr.sl
  have HR := Lib.hid hr
  have HB := Lib.hid hB
  have HK := Lib.hid hk
  have hkl := hk.le
  obtain ⟨n, hne⟩ : ∃ n, ws.length = n := ⟨_, rfl⟩
  have HN := Lib.hid hne
  rw [hne] at hkl hn ⊢
  clear hr hB hk hne
  go_enter Try.func81, Try.ntmps81
  go_wp2
  go_loopg [5, 8] n (fun g s5 s8 wr => ∃ j : Nat, j ≤ k ∧ g = n - j ∧ s8 = .int .i64 (j : Int) ∧ Hid (Turn NoBlock w wr))
  case atStart => exact ⟨0, by omega, by omega, rfl, Lib.hid (Turn.refl _ _)⟩
  case round =>
    obtain ⟨j, hj, hg, rfl, HT⟩ := hrel
    by_cases hlt : j < n
    · obtain ⟨t, ht⟩ : ∃ t, ws[j]? = some t := ⟨_, List.getElem?_eq_getElem (by rw [HN.out]; exact hlt)⟩
      have hrow := HR.out.past HT.out
      obtain ⟨g', o', c', he, -⟩ := hrow.shape (by rw [HN.out]; omega)
      simp only [Value.slice.injEq] at he
      obtain ⟨rfl, -, rfl⟩ := he
      obtain ⟨d0, d1⟩ := wrow_two hrow ht
      have cC := closeF wr t B x (HT.out.cell HB.out (fun h => h))
      unfold Wt.agg at cC
      have hjn : (j : Int) < n := by omega
      by_cases hjk : j < k
      · have hP : (t.who == x) = false := HK.out.no j t hjk ht
        rw [hP] at cC
        clear hrow hP ht
        go_wp2_with (go_at_call 71; (with_reducible refine cC.mono ?_); rintro e w2 ⟨rfl, t2⟩; have T2 := Lib.hid t2; clear t2)
        go_roundg (n - (j + 1))
        case measure => omega
        case rel => exact ⟨j + 1, by omega, by omega, by go_num, Lib.hid (TT HT.out T2.out)⟩
      · obtain rfl : j = k := by omega
        have hP : (t.who == x) = true := HK.out.yes t ht
        rw [hP] at cC
        clear hrow hP ht
        go_wp2_with (go_at_call 71; (with_reducible refine cC.mono ?_); rintro e w2 ⟨rfl, t2⟩; have T2 := Lib.hid t2; clear t2)
        go_ret
        exact ⟨ret_int (by unfold hitAt; rw [if_pos hlt]), TT HT.out T2.out⟩
    · obtain rfl : j = n := by omega
      go_wp2
      go_ret
      exact ⟨ret_int (by unfold hitAt; rw [if_neg (by omega)]), HT.out⟩

theorem findF {w : World} {c o : Nat} {s : Sd} {v : SV} (h : SAt w c o s v) (B : Nat) (x : Int) (k : Nat) (hB : w.cell? ⟨B, 0, none⟩ = some (.int .i64 x)) (hk : FirstAt (fun t => t.who == x) s.ws k) (hn : s.ws.length ≤ 1000000000) :
    Calls Try.prog 63 #[.pointer (some ⟨c, o, none⟩), .func (.func 71) #[] #[.pointer (some ⟨B, 0, none⟩)]] w fun e w' => e = .returned (.int .i64 (hitAt k s.ws.length)) ∧ Turn NoBlock w w' := by
  have c1 := indexF w v.w s.ws B x k h.rowW hB hk hn
  have c3 := h.c3
  obtain ⟨p, pc, hp⟩ := h.rowW.sl
  rw [hp] at c1 c3
  clear h hp hB hk
  generalize hitAt k s.ws.length = r at *
  generalize s.ws.length = m at *
  go_enter Try.func63, Try.ntmps63
  go_wp2_with (go_at_call 81; (with_reducible refine c1.mono ?_); rintro e w2 ⟨rfl, t2⟩; have T2 := Lib.hid t2; clear t2)
  go_ret
  exact ⟨rfl, T2.out⟩
end Go.Proofs.Ytcbphfpfdfgehaa
