/-
  What Write answers, and what it makes of the socket. No conditions but that the socket is one that calls can make, and that the bytes can be read.
-/
import Derived.Test.YtocaebcbmfejbaaKFits
import Derived.Test.YtocaebcbmfejbaaKDrop
import Derived.Deep.RegionLaw
namespace Go.Proofs.Ytocaebcbmfejbaa
open Go.ChangeShapes Go.WideShapes Go.ChangeAt Go.RowKit

/-- Bytes that can be read, and their slice be cut. -/
structure Rk (w : World) (v : Value) (b : List UInt8) : Prop where
  sl : ∃ p c, v = .slice p b.length c ∧ b.length ≤ c
  rz : RzB w v b
theorem Rk.past {w w' : World} {v : Value} {b : List UInt8} (h : Rk w v b) (t : Turn NoBlock w w') : Rk w' v b := ⟨h.sl, h.rz.past t⟩
theorem Byts.rk {w : World} {v : Value} {b : List UInt8} (h : Byts v b w) : Rk w v b := by
  refine ⟨?_, h.rd.rz⟩
  rcases h.form with ⟨rfl, h0⟩ | ⟨g, o, cap, rfl, h1, -⟩
  · exact ⟨none, 0, by rw [h0], by omega⟩
  · exact ⟨_, cap, rfl, h1⟩
theorem rk_take {w : World} {v : Value} {b : List UInt8} (h : Rk w v b) {n : Nat} (hn : n ≤ b.length) :
    ∃ p c, (∀ w, Sem.run Try.prog (Instr.slice 35 v none (some (.int .i64 (n : Int))) none) w = .ok (.slice p n c) w) ∧ Rk w (.slice p n c) (b.take n) := by
  obtain ⟨p, c, rfl, hc⟩ := h.sl
  have hln : (b.take n).length = n := by rw [List.length_take]; omega
  have hrun : ∀ w, Sem.run Try.prog (Instr.slice 35 (.slice p b.length c) none (some (.int .i64 (n : Int))) none) w = .ok (.slice (if c = 0 then p else p.map (·.add (0 * 1))) n c) w := by
    intro w
    have := run_slice_h (P := Try.prog) w 35 p b.length c elem_bytes .i64 (n : Int) (by omega) (by omega)
    rw [size_bytes w] at this
    simp only [Result.andThen, Int.toNat_natCast] at this
    rw [this]
    simp [sliced]
  refine ⟨_, c, hrun, ⟨_, c, by rw [hln], by omega⟩, ⟨⟨_, c, by rw [hln]⟩, fun h0 => by rw [List.eq_nil_of_length_eq_zero h0]; rfl, fun h0 => ?_⟩⟩
  rw [hln] at h0 ⊢
  have hr := h.rz.rd (by omega)
  obtain ⟨p', c', he, hz, hcell⟩ := hr.form
  simp only [Value.slice.injEq, true_and] at he
  obtain ⟨rfl, rfl⟩ := he
  cases p with
  | none => have := hz rfl; omega
  | some a =>
    obtain ⟨g, o, rfl, hj⟩ := hcell a rfl
    refine ⟨by rw [bcells_len, hln]; omega, _, c, rfl, (fun h1 => ?_), fun a' ha => ?_⟩
    · rw [if_neg (by omega)] at h1; cases h1
    · rw [if_neg (by omega)] at ha
      simp only [Option.map_some, Option.some.injEq] at ha
      subst ha
      refine ⟨g, o, by simp [Addr.add_lit], fun j hjn => ?_⟩
      rw [hj j (by omega)]
      unfold bcells
      rw [List.map_take, List.getElem?_take_of_lt (by omega)]
/-- What an end is behind n bytes of b more. -/
def wrE (dg : Bool) (s : En) (n : Nat) (b : List UInt8) : En := { s with b := s.b ++ b.take n, p := if dg then s.p ++ [n] else s.p }
theorem fit_le {dg : Bool} {room fr n : Nat} (hr : fr ≤ room) : fitN dg room fr n ≤ n ∧ fitN dg room fr n ≤ fr ∧ (dg = true → fitS dg room fr n = 0 → 1 ≤ fitN dg room fr n) := by
  rcases fit_any dg room fr n hr with ⟨rfl, h1, h2, h3⟩ | ⟨rfl, h1, h2, h3, h4⟩ | ⟨rfl, h1, h2, h3, h4, h5⟩ | ⟨rfl, h1, h2, h3, h4, h5⟩ | ⟨rfl, h1, h2, h3, h4⟩ | ⟨rfl, h1, h2, h3, h4, h5⟩ | ⟨rfl, h1, h2, h3, h4, h5⟩ | ⟨rfl, h1, h2, h3⟩
  · rw [h2, h3]; simp
  · rw [h3, h4]; simp
  · rw [h4, h5]; simp
  · rw [h4, h5]; refine ⟨by omega, by omega, fun _ _ => by omega⟩
  · rw [h3, h4]; simp
  · rw [h4, h5]; refine ⟨by omega, by omega, fun h => by cases h⟩
  · rw [h4, h5]; refine ⟨by omega, by omega, fun h => by cases h⟩
  · rw [h2, h3]; simp
theorem wrE_ok {dg : Bool} {room n : Nat} {s : En} {b : List UInt8} (h : EOK dg room s) (ho : s.op = true) (hn : n ≤ b.length) (hf : n ≤ room - s.b.length) (h1 : dg = true → 1 ≤ n) : EOK dg room (wrE dg s n b) := by
  have hl := h.len
  have hln : (s.b ++ b.take n).length = s.b.length + n := by rw [List.length_append, List.length_take]; omega
  refine ⟨by show (s.b ++ b.take n).length ≤ room; omega, fun hd => ?_, fun hd x hx => ?_, fun hd => ?_, fun hc => by rw [show (wrE dg s n b).op = s.op from rfl, ho] at hc; cases hc⟩
  · subst hd
    show (s.p ++ [n]).sum = (s.b ++ b.take n).length
    rw [hln, ← h.sum rfl]; simp
  · subst hd
    have hx' : x ∈ s.p ++ [n] := hx
    rcases List.mem_append.1 hx' with h2 | h2
    · exact h.pos rfl x h2
    · simp at h2; subst h2; exact h1 rfl
  · subst hd; exact h.no rfl
theorem pints_add (l : List Nat) (n : Nat) : pints (l ++ [n]) = pints l ++ [(n : Int)] := by simp [pints]
section
variable {w : World} {c room : Nat} {dg : Bool} {K : Nat → En} {V : Nat → EV}
theorem kwrite_bad (c : Nat) (e : Int) (vb : Value) (w : World) (h0 : e ≠ 0) (h1 : e ≠ 1) :
    Calls Try.prog 25 #[.pointer (some ⟨c, 0, none⟩), .int .i64 e, vb] w fun x w' => x = .returned (.tuple #[.int .i64 0, .int .i64 (-10)]) ∧ w = w' := by
  have HC := Lib.hid (fun W => kright_bad c e W h0 h1)
  clear h0 h1
  go_enter Try.func25, Try.ntmps25
  go_wp2_with (go_at_call 71; (with_reducible refine (HC.out _).mono ?_); rintro x w' ⟨rfl, rfl⟩)
  go_ret2
  exact ⟨rfl, rfl⟩
theorem kwrite_shut0 (h : KMem w c dg room K V) (ho : (K 0).op = false) (vb : Value) :
    Calls Try.prog 25 #[.pointer (some ⟨c, 0, none⟩), .int .i64 0, vb] w fun x w' => x = .returned (.tuple #[.int .i64 0, .int .i64 (-24)]) ∧ w = w' := by
  have HC := Lib.hid (kright_no0 h ho)
  clear h ho
  go_enter Try.func25, Try.ntmps25
  go_wp2_with (go_at_call 71; (with_reducible refine HC.out.mono ?_); rintro x w' ⟨rfl, rfl⟩)
  go_ret2
  exact ⟨rfl, rfl⟩
theorem kwrite_way0 (h : KMem w c dg room K V) (ho : (K 0).op = true) (hw : wayS (K 0) (K 1) ≠ 0) (vb : Value) :
    Calls Try.prog 25 #[.pointer (some ⟨c, 0, none⟩), .int .i64 0, vb] w fun x w' => x = .returned (.tuple #[.int .i64 0, .int .i64 (wayS (K 0) (K 1))]) ∧ Turn NoBlock w w' := by
  have HC := Lib.hid (kright_yes0 h ho)
  have HW := kway0 h
  have hs : wayS (K 0) (K 1) = -24 ∨ wayS (K 0) (K 1) = -20 := by
    rcases wayS_any (K 0) (K 1) with h1 | h1 | h1
    · exact .inl h1.1
    · exact .inr h1.1
    · exact absurd h1.1 hw
  generalize wayS (K 0) (K 1) = v at *
  clear h ho hw
  rcases hs with rfl | rfl
  all_goals
    have HWh := Lib.hid HW
    clear HW
    go_enter Try.func25, Try.ntmps25
    go_wp2_with (first
      | (go_at_call 71; (with_reducible refine HC.out.mono ?_); rintro x w' ⟨rfl, rfl⟩)
      | (go_at_call 72; (with_reducible refine HWh.out.mono ?_); rintro x w' ⟨rfl, n2, rfl⟩))
    go_ret2
    exact ⟨rfl, (Turn.refl _ _).drewN _⟩
theorem kwrite_no0 (h : KMem w c dg room K V) (ho : (K 0).op = true) (hw : wayS (K 0) (K 1) = 0) (p : Option Addr) (n ca : Nat) (hn : n ≤ maxLen) (hs : fitS dg room (room - (K 1).b.length) n ≠ 0) :
    Calls Try.prog 25 #[.pointer (some ⟨c, 0, none⟩), .int .i64 0, .slice p n ca] w fun x w' => x = .returned (.tuple #[.int .i64 0, .int .i64 (fitS dg room (room - (K 1).b.length) n)]) ∧ Turn NoBlock w w' := by
  have HC := Lib.hid (kright_yes0 h ho)
  have HW := kway0 h
  rw [hw] at HW
  have HF := fun W (t : Turn NoBlock w W) => kfits0 (h.past t) n hn
  have hx : fitS dg room (room - (K 1).b.length) n = -10 ∨ fitS dg room (room - (K 1).b.length) n = -14 ∨ fitS dg room (room - (K 1).b.length) n = -22 := by
    rcases fit_any dg room (room - (K 1).b.length) n (by omega) with h1 | h1 | h1 | h1 | h1 | h1 | h1 | h1
    · exact .inl h1.2.2.2
    · exact .inr (.inl h1.2.2.2.2)
    · exact .inr (.inr h1.2.2.2.2.2)
    · exact absurd h1.2.2.2.2.2 hs
    · exact .inr (.inr h1.2.2.2.2)
    · exact absurd h1.2.2.2.2.2 hs
    · exact absurd h1.2.2.2.2.2 hs
    · exact absurd h1.2.2.2 hs
  generalize fitN dg room (room - (K 1).b.length) n = a at *
  generalize fitS dg room (room - (K 1).b.length) n = v at *
  unfold maxLen at hn
  have hn' : (n : Int) ≤ 9223372036854775807 := by omega
  clear h ho hw hs
  rcases hx with rfl | rfl | rfl
  all_goals
    have HWh := Lib.hid HW
    have HFh := Lib.hid HF
    clear HW HF
    go_enter Try.func25, Try.ntmps25
    go_wp2_with (first
      | (go_at_call 71; (with_reducible refine HC.out.mono ?_); rintro x w' ⟨rfl, rfl⟩)
      | (go_at_call 72; (with_reducible refine HWh.out.mono ?_); rintro x w' ⟨rfl, n2, rfl⟩)
      | (go_at_call 73; (with_reducible refine (HFh.out _ ((Turn.refl _ _).drewN _)).mono ?_); rintro x w' ⟨rfl, n3, rfl⟩))
    go_ret2
    exact ⟨rfl, (Turn.refl _ _).drewN _⟩
theorem kwrite_shut1 (h : KMem w c dg room K V) (ho : (K 1).op = false) (vb : Value) :
    Calls Try.prog 25 #[.pointer (some ⟨c, 0, none⟩), .int .i64 1, vb] w fun x w' => x = .returned (.tuple #[.int .i64 0, .int .i64 (-24)]) ∧ w = w' := by
  have HC := Lib.hid (kright_no1 h ho)
  clear h ho
  go_enter Try.func25, Try.ntmps25
  go_wp2_with (go_at_call 71; (with_reducible refine HC.out.mono ?_); rintro x w' ⟨rfl, rfl⟩)
  go_ret2
  exact ⟨rfl, rfl⟩
theorem kwrite_way1 (h : KMem w c dg room K V) (ho : (K 1).op = true) (hw : wayS (K 1) (K 0) ≠ 0) (vb : Value) :
    Calls Try.prog 25 #[.pointer (some ⟨c, 0, none⟩), .int .i64 1, vb] w fun x w' => x = .returned (.tuple #[.int .i64 0, .int .i64 (wayS (K 1) (K 0))]) ∧ Turn NoBlock w w' := by
  have HC := Lib.hid (kright_yes1 h ho)
  have HW := kway1 h
  have hs : wayS (K 1) (K 0) = -24 ∨ wayS (K 1) (K 0) = -20 := by
    rcases wayS_any (K 1) (K 0) with h1 | h1 | h1
    · exact .inl h1.1
    · exact .inr h1.1
    · exact absurd h1.1 hw
  generalize wayS (K 1) (K 0) = v at *
  clear h ho hw
  rcases hs with rfl | rfl
  all_goals
    have HWh := Lib.hid HW
    clear HW
    go_enter Try.func25, Try.ntmps25
    go_wp2_with (first
      | (go_at_call 71; (with_reducible refine HC.out.mono ?_); rintro x w' ⟨rfl, rfl⟩)
      | (go_at_call 72; (with_reducible refine HWh.out.mono ?_); rintro x w' ⟨rfl, n2, rfl⟩))
    go_ret2
    exact ⟨rfl, (Turn.refl _ _).drewN _⟩
theorem kwrite_no1 (h : KMem w c dg room K V) (ho : (K 1).op = true) (hw : wayS (K 1) (K 0) = 0) (p : Option Addr) (n ca : Nat) (hn : n ≤ maxLen) (hs : fitS dg room (room - (K 0).b.length) n ≠ 0) :
    Calls Try.prog 25 #[.pointer (some ⟨c, 0, none⟩), .int .i64 1, .slice p n ca] w fun x w' => x = .returned (.tuple #[.int .i64 0, .int .i64 (fitS dg room (room - (K 0).b.length) n)]) ∧ Turn NoBlock w w' := by
  have HC := Lib.hid (kright_yes1 h ho)
  have HW := kway1 h
  rw [hw] at HW
  have HF := fun W (t : Turn NoBlock w W) => kfits1 (h.past t) n hn
  have hx : fitS dg room (room - (K 0).b.length) n = -10 ∨ fitS dg room (room - (K 0).b.length) n = -14 ∨ fitS dg room (room - (K 0).b.length) n = -22 := by
    rcases fit_any dg room (room - (K 0).b.length) n (by omega) with h1 | h1 | h1 | h1 | h1 | h1 | h1 | h1
    · exact .inl h1.2.2.2
    · exact .inr (.inl h1.2.2.2.2)
    · exact .inr (.inr h1.2.2.2.2.2)
    · exact absurd h1.2.2.2.2.2 hs
    · exact .inr (.inr h1.2.2.2.2)
    · exact absurd h1.2.2.2.2.2 hs
    · exact absurd h1.2.2.2.2.2 hs
    · exact absurd h1.2.2.2 hs
  generalize fitN dg room (room - (K 0).b.length) n = a at *
  generalize fitS dg room (room - (K 0).b.length) n = v at *
  unfold maxLen at hn
  have hn' : (n : Int) ≤ 9223372036854775807 := by omega
  clear h ho hw hs
  rcases hx with rfl | rfl | rfl
  all_goals
    have HWh := Lib.hid HW
    have HFh := Lib.hid HF
    clear HW HF
    go_enter Try.func25, Try.ntmps25
    go_wp2_with (first
      | (go_at_call 71; (with_reducible refine HC.out.mono ?_); rintro x w' ⟨rfl, rfl⟩)
      | (go_at_call 72; (with_reducible refine HWh.out.mono ?_); rintro x w' ⟨rfl, n2, rfl⟩)
      | (go_at_call 73; (with_reducible refine (HFh.out _ ((Turn.refl _ _).drewN _)).mono ?_); rintro x w' ⟨rfl, n3, rfl⟩))
    go_ret2
    exact ⟨rfl, (Turn.refl _ _).drewN _⟩
end
end Go.Proofs.Ytocaebcbmfejbaa
