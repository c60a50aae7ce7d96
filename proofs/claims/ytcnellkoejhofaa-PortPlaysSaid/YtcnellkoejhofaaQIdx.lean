/-
  What slices.IndexFunc tells of a row of watches, of packets: the place of the first that the function is true of; -1, if there is none. The function is any that reads alone.
-/
import Derived.Test.YtcnellkoejhofaaQRow
import Derived.Sort.LoopGhostIn
namespace Go.Proofs.Ytcnellkoejhofaa
open Go.ChangeShapes Go.WideShapes Go.ChangeAt Go.RowKit

/-- P is false of the first k, and true of what stands at k, if anything does. -/
structure FirstAt {A : Type} (P : A → Bool) (ws : List A) (k : Nat) : Prop where
  le : k ≤ ws.length
  no : ∀ j t, j < k → ws[j]? = some t → P t = false
  yes : ∀ t, ws[k]? = some t → P t = true
theorem first_ex {A : Type} (P : A → Bool) (ws : List A) : FirstAt P ws (ws.findIdx P) := by
  refine ⟨List.findIdx_le_length, fun j t hj ht => ?_, fun t ht => ?_⟩
  · have hlt := (List.getElem?_eq_some_iff.1 ht)
    have := List.not_of_lt_findIdx hj
    rw [← hlt.2]
    simpa using this
  · obtain ⟨hlt, h⟩ := List.getElem?_eq_some_iff.1 ht
    have := List.findIdx_getElem (w := hlt)
    rw [← h]
    exact this
def hitAt (k n : Nat) : Int := if k < n then (k : Int) else -1

set_option maxRecDepth 20000 in
set_option maxHeartbeats 1000000 in
theorem index_a (w : World) (v : Value) (ws : List Wc) (N : Nat) (caps : Array Value) (P : Wc → Bool) (k : Nat) (hr : ARow v ws w) (hE : ∀ a W, Sem.run Try.prog (callFunc N a) W = .ok (.enter N a) W)
    (hP : ∀ W t, t ∈ ws → Turn NoBlock w W → Calls Try.prog N (#[t.agg] ++ caps) W fun e w' => e = .returned (.bool (P t)) ∧ Turn NoBlock W w')
    (hk : FirstAt P ws k) (hn : ws.length ≤ 1000000000) :
    Calls Try.prog 41 #[v, .func (.func N) #[] caps] w fun e w' => e = .returned (.int .i64 (hitAt k ws.length)) ∧ Turn NoBlock w w' := by
  obtain ⟨p, c, rfl⟩ := WRow.sl hr
  have HR := Lib.hid hr
  have HP := Lib.hid hP
  have HK := Lib.hid hk
  have hkl := hk.le
  obtain ⟨n, hne⟩ : ∃ n, ws.length = n := ⟨_, rfl⟩
  have HN := Lib.hid hne
  rw [hne] at hkl hn ⊢
  clear hr hP hk hne
  go_enter Try.func41, Try.ntmps41
  go_wp2
  go_loopg [5, 8] n (fun g s5 s8 wr => ∃ j : Nat, j ≤ k ∧ g = n - j ∧ s8 = .int .i64 (j : Int) ∧ Hid (Turn NoBlock w wr))
  case atStart => exact ⟨0, by omega, by omega, rfl, Lib.hid (Turn.refl _ _)⟩
  case round =>
    obtain ⟨j, hj, hg, rfl, HT⟩ := hrel
    by_cases hlt : j < n
    · obtain ⟨t, ht⟩ : ∃ t, ws[j]? = some t := ⟨_, List.getElem?_eq_getElem (by rw [HN.out]; exact hlt)⟩
      have hrow := HR.out.past HT.out
      obtain ⟨g', o', c', he, -⟩ := WRow.shape hrow (by rw [HN.out]; omega)
      simp only [Value.slice.injEq] at he
      obtain ⟨rfl, -, rfl⟩ := he
      obtain ⟨d0, d1⟩ := hrow.two ht
      have cC := HP.out wr t (List.mem_of_getElem? ht) HT.out
      unfold Wc.agg at cC
      have hjn : (j : Int) < n := by omega
      by_cases hjk : j < k
      · have hP : P t = false := HK.out.no j t hjk ht
        rw [hP] at cC
        clear hrow hP ht
        go_wp2_with ((with_reducible refine cC.mono ?_); rintro e w2 ⟨rfl, t2⟩; have T2 := Lib.hid t2; clear t2)
        go_roundg (n - (j + 1))
        case measure => omega
        case rel => exact ⟨j + 1, by omega, by omega, by go_num, Lib.hid (TT HT.out T2.out)⟩
      · obtain rfl : j = k := by omega
        have hP : P t = true := HK.out.yes t ht
        rw [hP] at cC
        clear hrow hP ht
        go_wp2_with ((with_reducible refine cC.mono ?_); rintro e w2 ⟨rfl, t2⟩; have T2 := Lib.hid t2; clear t2)
        go_ret
        exact ⟨ret_int (by unfold hitAt; rw [if_pos hlt]), TT HT.out T2.out⟩
    · obtain rfl : j = n := by omega
      go_wp2
      go_ret
      exact ⟨ret_int (by unfold hitAt; rw [if_neg (by omega)]), HT.out⟩
set_option maxRecDepth 20000 in
set_option maxHeartbeats 1000000 in
theorem index_p (w : World) (v : Value) (ws : List Pk) (N : Nat) (caps : Array Value) (P : Pk → Bool) (k : Nat) (hr : PRow v ws w) (hE : ∀ a W, Sem.run Try.prog (callFunc N a) W = .ok (.enter N a) W)
    (hP : ∀ W t, t ∈ ws → Turn NoBlock w W → Calls Try.prog N (#[t.agg] ++ caps) W fun e w' => e = .returned (.bool (P t)) ∧ Turn NoBlock W w')
    (hk : FirstAt P ws k) (hn : ws.length ≤ 1000000000) :
    Calls Try.prog 42 #[v, .func (.func N) #[] caps] w fun e w' => e = .returned (.int .i64 (hitAt k ws.length)) ∧ Turn NoBlock w w' := by
  obtain ⟨p, c, rfl⟩ := WRow.sl hr
  have HR := Lib.hid hr
  have HP := Lib.hid hP
  have HK := Lib.hid hk
  have hkl := hk.le
  obtain ⟨n, hne⟩ : ∃ n, ws.length = n := ⟨_, rfl⟩
  have HN := Lib.hid hne
  rw [hne] at hkl hn ⊢
  clear hr hP hk hne
  go_enter Try.func42, Try.ntmps42
  go_wp2
  go_loopg [5, 8] n (fun g s5 s8 wr => ∃ j : Nat, j ≤ k ∧ g = n - j ∧ s8 = .int .i64 (j : Int) ∧ Hid (Turn NoBlock w wr))
  case atStart => exact ⟨0, by omega, by omega, rfl, Lib.hid (Turn.refl _ _)⟩
  case round =>
    obtain ⟨j, hj, hg, rfl, HT⟩ := hrel
    by_cases hlt : j < n
    · obtain ⟨t, ht⟩ : ∃ t, ws[j]? = some t := ⟨_, List.getElem?_eq_getElem (by rw [HN.out]; exact hlt)⟩
      have hrow := HR.out.past HT.out
      obtain ⟨g', o', c', he, -⟩ := WRow.shape hrow (by rw [HN.out]; omega)
      simp only [Value.slice.injEq] at he
      obtain ⟨rfl, -, rfl⟩ := he
      obtain ⟨d0, d1, d2⟩ := hrow.three ht
      have cC := HP.out wr t (List.mem_of_getElem? ht) HT.out
      unfold Pk.agg at cC
      have hjn : (j : Int) < n := by omega
      by_cases hjk : j < k
      · have hP : P t = false := HK.out.no j t hjk ht
        rw [hP] at cC
        clear hrow hP ht
        go_wp2_with ((with_reducible refine cC.mono ?_); rintro e w2 ⟨rfl, t2⟩; have T2 := Lib.hid t2; clear t2)
        go_roundg (n - (j + 1))
        case measure => omega
        case rel => exact ⟨j + 1, by omega, by omega, by go_num, Lib.hid (TT HT.out T2.out)⟩
      · obtain rfl : j = k := by omega
        have hP : P t = true := HK.out.yes t ht
        rw [hP] at cC
        clear hrow hP ht
        go_wp2_with ((with_reducible refine cC.mono ?_); rintro e w2 ⟨rfl, t2⟩; have T2 := Lib.hid t2; clear t2)
        go_ret
        exact ⟨ret_int (by unfold hitAt; rw [if_pos hlt]), TT HT.out T2.out⟩
    · obtain rfl : j = n := by omega
      go_wp2
      go_ret
      exact ⟨ret_int (by unfold hitAt; rw [if_neg (by omega)]), HT.out⟩
end Go.Proofs.Ytcnellkoejhofaa
