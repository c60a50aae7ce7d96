/-
  How many bytes may come from an end to the other one now; the first piece; what is dropped. No conditions but that the socket is one that calls can make.
-/
import Derived.Test.YtocaebcbmfejbaaKSmall
namespace Go.Proofs.Ytocaebcbmfejbaa
open Go.ChangeShapes Go.WideShapes Go.ChangeAt Go.RowKit

/-- How many of n bytes, and the status, where fr more have room. -/
def fitN (dg : Bool) (room fr n : Nat) : Nat := if dg then (if n = 0 ∨ room < n ∨ fr < n then 0 else n) else (if 0 < n ∧ fr = 0 then 0 else min n fr)
def fitS (dg : Bool) (room fr n : Nat) : Int := if dg then (if n = 0 then -10 else if room < n then -14 else if fr < n then -22 else 0) else (if 0 < n ∧ fr = 0 then -22 else 0)
theorem fit_any (dg : Bool) (room fr n : Nat) (hr : fr ≤ room) : (dg = true ∧ n = 0 ∧ fitN dg room fr n = 0 ∧ fitS dg room fr n = -10) ∨ (dg = true ∧ 0 < n ∧ room < n ∧ fitN dg room fr n = 0 ∧ fitS dg room fr n = -14) ∨ (dg = true ∧ 0 < n ∧ n ≤ room ∧ fr < n ∧ fitN dg room fr n = 0 ∧ fitS dg room fr n = -22) ∨
    (dg = true ∧ 0 < n ∧ n ≤ room ∧ n ≤ fr ∧ fitN dg room fr n = n ∧ fitS dg room fr n = 0) ∨ (dg = false ∧ 0 < n ∧ fr = 0 ∧ fitN dg room fr n = 0 ∧ fitS dg room fr n = -22) ∨ (dg = false ∧ 0 < n ∧ 0 < fr ∧ n ≤ fr ∧ fitN dg room fr n = n ∧ fitS dg room fr n = 0) ∨ (dg = false ∧ 0 < n ∧ 0 < fr ∧ fr < n ∧ fitN dg room fr n = fr ∧ fitS dg room fr n = 0) ∨ (dg = false ∧ n = 0 ∧ fitN dg room fr n = 0 ∧ fitS dg room fr n = 0) := by
  unfold fitN fitS
  cases dg with
  | true =>
    simp only [if_true]
    by_cases h0 : n = 0
    · left; subst h0; simp
    · by_cases h1 : room < n
      · right; left; simp [h0, h1]; omega
      · by_cases h2 : fr < n
        · right; right; left; simp [h0, h1, h2]; omega
        · right; right; right; left; simp [h0, h1, h2]; omega
  | false =>
    simp only [Bool.false_eq_true, if_false]
    by_cases h0 : n = 0
    · right; right; right; right; right; right; right; subst h0; simp
    · have hp : 0 < n := by omega
      by_cases h1 : fr = 0
      · right; right; right; right; left; subst h1; simp [hp]
      · by_cases h2 : n ≤ fr
        · right; right; right; right; right; left; simp [h1, hp, h2]; omega
        · right; right; right; right; right; right; left; simp [h1, hp]; omega
section
variable {w : World} {c room : Nat} {dg : Bool} {K : Nat → En} {V : Nat → EV}
set_option maxHeartbeats 1000000 in
theorem kfits0 (h : KMem w c dg room K V) (n : Nat) (hn : n ≤ maxLen) :
    Calls Try.prog 73 #[.pointer (some ⟨c, 0, none⟩), .int .i64 0, .int .i64 (n : Int)] w fun x w' => x = .returned (.tuple #[.int .i64 (fitN dg room (room - (K 1).b.length) n : Nat), .int .i64 (fitS dg room (room - (K 1).b.length) n)]) ∧ ∃ n, w' = w.drewN n := by
  have c0 := h.c0
  have c1 := h.c1
  have cl := (h.s 0 (by omega)).typ.lt
  have hl := (h.ok 1 (by omega)).len
  have CF := kfree0 h
  rw [show (room : Int) - ((K 1).b.length : Nat) = ((room - (K 1).b.length : Nat) : Int) by omega] at CF
  have r2 := h.r2
  have HV := fit_any dg room (room - (K 1).b.length) n (by omega)
  have hfr : room - (K 1).b.length ≤ room := by omega
  generalize fitN dg room (room - (K 1).b.length) n = a at *
  generalize fitS dg room (room - (K 1).b.length) n = s at *
  generalize room - (K 1).b.length = fr at *
  unfold maxLen at hn
  have CFh := Lib.hid CF
  clear h hl CF
  rcases HV with ⟨rfl, rfl, rfl, rfl⟩ | ⟨rfl, h1, h2, rfl, rfl⟩ | ⟨rfl, h1, h2, h3, rfl, rfl⟩ | ⟨rfl, h1, h2, h3, rfl, rfl⟩ | ⟨rfl, h1, rfl, rfl, rfl⟩ | ⟨rfl, h1, h2, h3, rfl, rfl⟩ | ⟨rfl, h1, h2, h3, rfl, rfl⟩ | ⟨rfl, rfl, rfl, rfl⟩
  all_goals
    go_enter Try.func73, Try.ntmps73
    go_wp2_with (go_at_call 79; (with_reducible refine CFh.out.mono ?_); rintro x w2 ⟨rfl, n2, rfl⟩)
    go_ret2
    exact ⟨rfl, _, rfl⟩
set_option maxHeartbeats 1000000 in
theorem kfits1 (h : KMem w c dg room K V) (n : Nat) (hn : n ≤ maxLen) :
    Calls Try.prog 73 #[.pointer (some ⟨c, 0, none⟩), .int .i64 1, .int .i64 (n : Int)] w fun x w' => x = .returned (.tuple #[.int .i64 (fitN dg room (room - (K 0).b.length) n : Nat), .int .i64 (fitS dg room (room - (K 0).b.length) n)]) ∧ ∃ n, w' = w.drewN n := by
  have c0 := h.c0
  have c1 := h.c1
  have cl := (h.s 0 (by omega)).typ.lt
  have hl := (h.ok 0 (by omega)).len
  have CF := kfree1 h
  rw [show (room : Int) - ((K 0).b.length : Nat) = ((room - (K 0).b.length : Nat) : Int) by omega] at CF
  have r2 := h.r2
  have HV := fit_any dg room (room - (K 0).b.length) n (by omega)
  have hfr : room - (K 0).b.length ≤ room := by omega
  generalize fitN dg room (room - (K 0).b.length) n = a at *
  generalize fitS dg room (room - (K 0).b.length) n = s at *
  generalize room - (K 0).b.length = fr at *
  unfold maxLen at hn
  have CFh := Lib.hid CF
  clear h hl CF
  rcases HV with ⟨rfl, rfl, rfl, rfl⟩ | ⟨rfl, h1, h2, rfl, rfl⟩ | ⟨rfl, h1, h2, h3, rfl, rfl⟩ | ⟨rfl, h1, h2, h3, rfl, rfl⟩ | ⟨rfl, h1, rfl, rfl, rfl⟩ | ⟨rfl, h1, h2, h3, rfl, rfl⟩ | ⟨rfl, h1, h2, h3, rfl, rfl⟩ | ⟨rfl, rfl, rfl, rfl⟩
  all_goals
    go_enter Try.func73, Try.ntmps73
    go_wp2_with (go_at_call 79; (with_reducible refine CFh.out.mono ?_); rintro x w2 ⟨rfl, n2, rfl⟩)
    go_ret2
    exact ⟨rfl, _, rfl⟩
end
section
variable {w : World} {c o : Nat} {s : En} {v : EV}
theorem kfirst_p (h : EAt w c o s v) {x : Nat} {rest : List Nat} (hp : s.p = x :: rest) (hn : s.p.length ≤ 2000000) :
    Calls Try.prog 77 #[.pointer (some ⟨c, o, none⟩)] w fun e w' => e = .returned (.int .i64 (x : Int)) ∧ w = w' := by
  have hr := h.rowP
  have c4 := h.c4
  rw [hp] at hr hn
  obtain ⟨g, i, ca, hv, hnc, hcm, hty, hc, hso⟩ := WRow.shape hr (by rw [pints_len]; simp)
  have d0 : w.cell? ⟨g, i, none⟩ = some (.int .i64 (x : Int)) := hc 0 (by rw [pints_len]; simp)
  rw [hv] at c4
  rw [pints_len] at c4
  have hl : (x :: rest).length = rest.length + 1 := rfl
  rw [hl] at c4 hn
  generalize rest.length = l at *
  have h1 : (0 : Int) < ((l + 1 : Nat) : Int) := by omega
  have h2 : ((l + 1 : Nat) : Int) ≤ 2000000 := by omega
  clear h hr hp hv hnc hcm hty hc hso hl
  go_enter Try.func77, Try.ntmps77
  go_wp2
  go_ret
  exact ⟨rfl, rfl⟩
theorem kfirst_b (h : EAt w c o s v) (hp : s.p = []) :
    Calls Try.prog 77 #[.pointer (some ⟨c, o, none⟩)] w fun e w' => e = .returned (.int .i64 (s.b.length : Nat)) ∧ w = w' := by
  obtain ⟨p, pc, hv⟩ := h.rowB.sl
  obtain ⟨q, qc, hq⟩ := h.rowP.sl
  have c3 := h.c3
  have c4 := h.c4
  rw [hv] at c3
  rw [hq, hp] at c4
  clear h hv hq hp
  generalize s.b.length = n at *
  simp only [pints, List.map_nil, List.length_nil] at c4
  go_enter Try.func77, Try.ntmps77
  go_wp2
  go_ret
  exact ⟨rfl, rfl⟩
end
end Go.Proofs.Ytocaebcbmfejbaa
