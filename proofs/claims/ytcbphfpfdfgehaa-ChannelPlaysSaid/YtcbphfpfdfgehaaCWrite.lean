/-
  What Write answers, and what it makes of the channel. No conditions but that the channel is one that calls can make, and that the message can be read.
-/
import Derived.Test.YtcbphfpfdfgehaaCShows
import Derived.Deep.RegionLaw
namespace Go.Proofs.Ytcbphfpfdfgehaa
open Go.ChangeShapes Go.WideShapes Go.ChangeAt Go.RowKit

section
variable {w : World} {c depth N : Nat} {S : Nat → Sd} {V : Nat → SV}
theorem write_bad (c : Nat) (e : Int) (tx : Int) (vd vh : Value) (hd : ∃ p n c, vd = .slice p n c) (hh : ∃ p n c, vh = .slice p n c) (w : World) (h0 : e ≠ 0) (h1 : e ≠ 1) :
    Calls Try.prog 36 #[.pointer (some ⟨c, 0, none⟩), .int .i64 e, .agg #[.int .i64 tx, vd, vh]] w fun x w' => x = .returned (.tuple #[.int .i64 0, .int .i64 (-10)]) ∧ Turn NoBlock w w' := by
  have HC := Lib.hid (fun W => right_bad c e W h0 h1)
  obtain ⟨p1, n1, c1, rfl⟩ := hd
  obtain ⟨p2, n2, c2, rfl⟩ := hh
  clear h0 h1
  go_enter Try.func36, Try.ntmps36
  go_wp2_with (go_at_call 48; (with_reducible refine (HC.out _).mono ?_); rintro x w' ⟨rfl, rfl⟩)
  go_ret2
  exact ⟨rfl, (Turn.refl _ _).alloc _⟩
theorem write_shut (hC : CMem w c depth N S V) {e : Nat} (he : e < 2) (ho : (S e).op = false) (tx : Int) (vd vh : Value) (hd : ∃ p n c, vd = .slice p n c) (hh : ∃ p n c, vh = .slice p n c) :
    Calls Try.prog 36 #[.pointer (some ⟨c, 0, none⟩), .int .i64 (e : Int), .agg #[.int .i64 tx, vd, vh]] w fun x w' => x = .returned (.tuple #[.int .i64 0, .int .i64 (-24)]) ∧ Turn NoBlock w w' := by
  have HC := Lib.hid (fun W (t : Turn NoBlock w W) => right_no (hC.past t) he ho)
  obtain ⟨p1, n1, c1, rfl⟩ := hd
  obtain ⟨p2, n2, c2, rfl⟩ := hh
  clear hC he ho
  go_enter Try.func36, Try.ntmps36
  go_wp2_with (go_at_call 48; (with_reducible refine (HC.out _ ((Turn.refl _ _).alloc _)).mono ?_); rintro x w' ⟨rfl, rfl⟩)
  go_ret2
  exact ⟨rfl, (Turn.refl _ _).alloc _⟩
theorem write_long (hC : CMem w c depth N S V) {e : Nat} (he : e < 2) (ho : (S e).op = true) (tx : Int) (d h : Nat) (hl : 4096 < d ∨ 64 < h) (hdl : d ≤ maxLen) (hhl : h ≤ maxLen) (vd vh : Value) (hd : ∃ p c, vd = .slice p d c) (hh : ∃ p c, vh = .slice p h c) :
    Calls Try.prog 36 #[.pointer (some ⟨c, 0, none⟩), .int .i64 (e : Int), .agg #[.int .i64 tx, vd, vh]] w fun x w' => x = .returned (.tuple #[.int .i64 0, .int .i64 (-14)]) ∧ Turn NoBlock w w' := by
  have HC := Lib.hid (fun W (t : Turn NoBlock w W) => right_yes (hC.past t) he ho)
  obtain ⟨p1, c1, rfl⟩ := hd
  obtain ⟨p2, c2, rfl⟩ := hh
  unfold maxLen at hdl hhl
  have hcase : (4096 : Int) < d ∨ (¬ (4096 : Int) < d ∧ (64 : Int) < h) := by omega
  clear hC he ho hl
  rcases hcase with h1 | ⟨h1, h2⟩
  all_goals
    go_enter Try.func36, Try.ntmps36
    go_wp2_with (go_at_call 48; (with_reducible refine (HC.out _ ((Turn.refl _ _).alloc _)).mono ?_); rintro x w' ⟨rfl, rfl⟩)
    go_ret2
    exact ⟨rfl, (Turn.refl _ _).alloc _⟩
set_option maxHeartbeats 1000000 in
theorem write_peer0 (hC : CMem w c depth N S V) (ho : (S 0).op = true) (hp : (S 1).op = false) (tx : Int) (d h : Nat) (hl : d ≤ 4096 ∧ h ≤ 64) (vd vh : Value) (hd : ∃ p c, vd = .slice p d c) (hh : ∃ p c, vh = .slice p h c) :
    Calls Try.prog 36 #[.pointer (some ⟨c, 0, none⟩), .int .i64 0, .agg #[.int .i64 tx, vd, vh]] w fun x w' => x = .returned (.tuple #[.int .i64 0, .int .i64 (-24)]) ∧ Turn NoBlock w w' := by
  have HC := Lib.hid (fun W (t : Turn NoBlock w W) => show Calls Try.prog 48 #[.pointer (some ⟨c, 0, none⟩), .int .i64 0] W _ from right_yes (hC.past t) (e := 0) (by omega) ho)
  have f0 : w.cell? ⟨c, 5, none⟩ = some (.bool (S 1).op) := (hC.s 1 (by omega)).c0
  rw [hp] at f0
  have cl := (hC.s 0 (by omega)).typ.lt
  have CO := Lib.hid (fun w => show Calls Try.prog 52 #[.int .i64 0] w fun x w' => x = .returned (.int .i64 1) ∧ w = w' from other_any 0 (by omega) w)
  obtain ⟨p1, c1, rfl⟩ := hd
  obtain ⟨p2, c2, rfl⟩ := hh
  have h1 : ¬ (4096 : Int) < d := by omega
  have h2 : ¬ (64 : Int) < h := by omega
  have h3 : (d : Int) ≤ 4096 := by omega
  have h4 : (h : Int) ≤ 64 := by omega
  clear hC ho hp hl
  go_enter Try.func36, Try.ntmps36
  go_wp2_with (go_at_call 48; (with_reducible refine (HC.out _ ((Turn.refl _ _).alloc _)).mono ?_); rintro x w' ⟨rfl, rfl⟩)
  go_region_held3 (fun _ => True) (trivial) (first | (go_at_call 52; (with_reducible refine (CO.out _).mono ?_); rintro x w2 ⟨rfl, rfl⟩))
  go_wp2
  go_ret2
  exact ⟨rfl, ((Turn.refl _ _).alloc _).drewN _⟩
set_option maxHeartbeats 1000000 in
theorem write_full0 (hC : CMem w c depth N S V) (hN : N ≤ 1000000) (ho : (S 0).op = true) (hp : (S 1).op = true) (m : Msg) (hf : m.fits) (hw : ∀ t ∈ (S 1).ws, t.tx ≠ m.tx) (hq : depth ≤ (S 1).ms.q.length) (vd vh : Value) (hd : ∃ p c, vd = .slice p m.d.length c) (hh : ∃ p c, vh = .slice p m.h.length c) :
    Calls Try.prog 36 #[.pointer (some ⟨c, 0, none⟩), .int .i64 0, .agg #[.int .i64 m.tx, vd, vh]] w fun x w' => x = .returned (.tuple #[.int .i64 0, .int .i64 (-22)]) ∧ Turn NoBlock w w' := by
  have HC := Lib.hid (fun W (t : Turn NoBlock w W) => show Calls Try.prog 48 #[.pointer (some ⟨c, 0, none⟩), .int .i64 0] W _ from right_yes (hC.past t) (e := 0) (by omega) ho)
  have f0 : w.cell? ⟨c, 5, none⟩ = some (.bool (S 1).op) := (hC.s 1 (by omega)).c0
  rw [hp] at f0
  have d0 := hC.c0
  have cl := (hC.s 0 (by omega)).typ.lt
  have hln := hC.len 1 (by omega)
  have CO := Lib.hid (fun w => show Calls Try.prog 52 #[.int .i64 0] w fun x w' => x = .returned (.int .i64 1) ∧ w = w' from other_any 0 (by omega) w)
  have hfi : FirstAt (fun t => t.tx == m.tx) (S 1).ws (S 1).ws.length := ⟨Nat.le_refl _, fun j t _ ht => beq_eq_false_iff_ne.2 (hw t (List.mem_of_getElem? ht)), fun t ht => by have := (List.getElem?_eq_some_iff.1 ht).1; omega⟩
  have hhit : hitAt (S 1).ws.length (S 1).ws.length = -1 := by unfold hitAt; rw [if_neg (Nat.lt_irrefl _)]
  have CF := Lib.hid (fun W (t : Turn NoBlock w W) (B : Nat) (hB : W.cell? ⟨B, 0, none⟩ = some (.int .i64 m.tx)) => show Calls Try.prog 63 #[.pointer (some ⟨c, 5, none⟩), .func (.func 64) #[] #[.pointer (some ⟨B, 0, none⟩)]] W (fun e w' => e = .returned (.int .i64 (-1)) ∧ Turn NoBlock W w') by
    have := findW ((hC.past t).s 1 (by omega)) B m.tx _ hB hfi (by omega)
    rw [hhit] at this
    exact this)
  have CN := Lib.hid (fun W (t : Turn NoBlock w W) => show Calls Try.prog 51 #[.pointer (some ⟨c, 5, none⟩)] W _ from count_any ((hC.past t).s 1 (by omega)) (by omega) (by omega))
  have D0 := Lib.hid (fun W (t : Turn NoBlock w W) => t.cell d0 (fun h => h))
  obtain ⟨p1, c1, rfl⟩ := hd
  obtain ⟨p2, c2, rfl⟩ := hh
  have h3 : (m.d.length : Int) ≤ 4096 := by have := hf.1; omega
  have h4 : (m.h.length : Int) ≤ 64 := by have := hf.2; omega
  have h1 : ¬ (4096 : Int) < m.d.length := by omega
  have h2 : ¬ (64 : Int) < m.h.length := by omega
  have hn1 : (S 1).ms.q.length ≤ 2000000 := by rw [ms_len]; omega
  have dd := hC.d2
  generalize (S 1).ms.q.length = n at *
  have hnd : ¬ (n : Int) < depth := by omega
  have hnd2 : (depth : Int) ≤ n := by omega
  generalize m.d.length = dl at *
  generalize m.h.length = hl at *
  generalize m.tx = tx at *
  have cF := CF.out ((w.alloc (.cells #[.int .i64 tx, .slice p1 dl c1, .slice p2 hl c2] 49)).drew) (((Turn.refl _ w).alloc _).drew) w.heap.size (by simp)
  clear hC ho hp hf hw hfi hhit hln hN hq d0 CF
  go_enter Try.func36, Try.ntmps36
  go_wp2_with (go_at_call 48; (with_reducible refine (HC.out _ ((Turn.refl _ _).alloc _)).mono ?_); rintro x w' ⟨rfl, rfl⟩)
  go_region_held3 (fun _ => True) (trivial) (first | (go_at_call 52; (with_reducible refine (CO.out _).mono ?_); rintro x w2 ⟨rfl, rfl⟩))
  go_wp2_with (go_at_call 63; (with_reducible refine cF.mono ?_); rintro x w3 ⟨rfl, t3⟩; have T3 := Lib.hid (show Turn NoBlock w w3 from TT (((Turn.refl _ w).alloc _).drew) t3); have d3 := D0.out _ T3.out; clear t3)
  go_region_held3 (fun w' => w'.cell? ⟨c, 0, none⟩ = some (.int .i64 depth)) (first | exact d3) (first | (go_at_call 51; (with_reducible refine (CN.out _ T3.out.drew).mono ?_); rintro x w4 ⟨rfl, n4, rfl⟩))
  go_wp2
  go_ret2
  exact ⟨rfl, T3.out.drewN _⟩
set_option maxHeartbeats 1000000 in
theorem write_peer1 (hC : CMem w c depth N S V) (ho : (S 1).op = true) (hp : (S 0).op = false) (tx : Int) (d h : Nat) (hl : d ≤ 4096 ∧ h ≤ 64) (vd vh : Value) (hd : ∃ p c, vd = .slice p d c) (hh : ∃ p c, vh = .slice p h c) :
    Calls Try.prog 36 #[.pointer (some ⟨c, 0, none⟩), .int .i64 1, .agg #[.int .i64 tx, vd, vh]] w fun x w' => x = .returned (.tuple #[.int .i64 0, .int .i64 (-24)]) ∧ Turn NoBlock w w' := by
  have HC := Lib.hid (fun W (t : Turn NoBlock w W) => show Calls Try.prog 48 #[.pointer (some ⟨c, 0, none⟩), .int .i64 1] W _ from right_yes (hC.past t) (e := 1) (by omega) ho)
  have f0 : w.cell? ⟨c, 1, none⟩ = some (.bool (S 0).op) := (hC.s 0 (by omega)).c0
  rw [hp] at f0
  have cl := (hC.s 0 (by omega)).typ.lt
  have CO := Lib.hid (fun w => show Calls Try.prog 52 #[.int .i64 1] w fun x w' => x = .returned (.int .i64 0) ∧ w = w' from other_any 1 (by omega) w)
  obtain ⟨p1, c1, rfl⟩ := hd
  obtain ⟨p2, c2, rfl⟩ := hh
  have h1 : ¬ (4096 : Int) < d := by omega
  have h2 : ¬ (64 : Int) < h := by omega
  have h3 : (d : Int) ≤ 4096 := by omega
  have h4 : (h : Int) ≤ 64 := by omega
  clear hC ho hp hl
  go_enter Try.func36, Try.ntmps36
  go_wp2_with (go_at_call 48; (with_reducible refine (HC.out _ ((Turn.refl _ _).alloc _)).mono ?_); rintro x w' ⟨rfl, rfl⟩)
  go_region_held3 (fun _ => True) (trivial) (first | (go_at_call 52; (with_reducible refine (CO.out _).mono ?_); rintro x w2 ⟨rfl, rfl⟩))
  go_wp2
  go_ret2
  exact ⟨rfl, ((Turn.refl _ _).alloc _).drewN _⟩
set_option maxHeartbeats 1000000 in
theorem write_full1 (hC : CMem w c depth N S V) (hN : N ≤ 1000000) (ho : (S 1).op = true) (hp : (S 0).op = true) (m : Msg) (hf : m.fits) (hw : ∀ t ∈ (S 0).ws, t.tx ≠ m.tx) (hq : depth ≤ (S 0).ms.q.length) (vd vh : Value) (hd : ∃ p c, vd = .slice p m.d.length c) (hh : ∃ p c, vh = .slice p m.h.length c) :
    Calls Try.prog 36 #[.pointer (some ⟨c, 0, none⟩), .int .i64 1, .agg #[.int .i64 m.tx, vd, vh]] w fun x w' => x = .returned (.tuple #[.int .i64 0, .int .i64 (-22)]) ∧ Turn NoBlock w w' := by
  have HC := Lib.hid (fun W (t : Turn NoBlock w W) => show Calls Try.prog 48 #[.pointer (some ⟨c, 0, none⟩), .int .i64 1] W _ from right_yes (hC.past t) (e := 1) (by omega) ho)
  have f0 : w.cell? ⟨c, 1, none⟩ = some (.bool (S 0).op) := (hC.s 0 (by omega)).c0
  rw [hp] at f0
  have d0 := hC.c0
  have cl := (hC.s 0 (by omega)).typ.lt
  have hln := hC.len 0 (by omega)
  have CO := Lib.hid (fun w => show Calls Try.prog 52 #[.int .i64 1] w fun x w' => x = .returned (.int .i64 0) ∧ w = w' from other_any 1 (by omega) w)
  have hfi : FirstAt (fun t => t.tx == m.tx) (S 0).ws (S 0).ws.length := ⟨Nat.le_refl _, fun j t _ ht => beq_eq_false_iff_ne.2 (hw t (List.mem_of_getElem? ht)), fun t ht => by have := (List.getElem?_eq_some_iff.1 ht).1; omega⟩
  have hhit : hitAt (S 0).ws.length (S 0).ws.length = -1 := by unfold hitAt; rw [if_neg (Nat.lt_irrefl _)]
  have CF := Lib.hid (fun W (t : Turn NoBlock w W) (B : Nat) (hB : W.cell? ⟨B, 0, none⟩ = some (.int .i64 m.tx)) => show Calls Try.prog 63 #[.pointer (some ⟨c, 1, none⟩), .func (.func 64) #[] #[.pointer (some ⟨B, 0, none⟩)]] W (fun e w' => e = .returned (.int .i64 (-1)) ∧ Turn NoBlock W w') by
    have := findW ((hC.past t).s 0 (by omega)) B m.tx _ hB hfi (by omega)
    rw [hhit] at this
    exact this)
  have CN := Lib.hid (fun W (t : Turn NoBlock w W) => show Calls Try.prog 51 #[.pointer (some ⟨c, 1, none⟩)] W _ from count_any ((hC.past t).s 0 (by omega)) (by omega) (by omega))
  have D0 := Lib.hid (fun W (t : Turn NoBlock w W) => t.cell d0 (fun h => h))
  obtain ⟨p1, c1, rfl⟩ := hd
  obtain ⟨p2, c2, rfl⟩ := hh
  have h3 : (m.d.length : Int) ≤ 4096 := by have := hf.1; omega
  have h4 : (m.h.length : Int) ≤ 64 := by have := hf.2; omega
  have h1 : ¬ (4096 : Int) < m.d.length := by omega
  have h2 : ¬ (64 : Int) < m.h.length := by omega
  have hn1 : (S 0).ms.q.length ≤ 2000000 := by rw [ms_len]; omega
  have dd := hC.d2
  generalize (S 0).ms.q.length = n at *
  have hnd : ¬ (n : Int) < depth := by omega
  have hnd2 : (depth : Int) ≤ n := by omega
  generalize m.d.length = dl at *
  generalize m.h.length = hl at *
  generalize m.tx = tx at *
  have cF := CF.out ((w.alloc (.cells #[.int .i64 tx, .slice p1 dl c1, .slice p2 hl c2] 49)).drew) (((Turn.refl _ w).alloc _).drew) w.heap.size (by simp)
  clear hC ho hp hf hw hfi hhit hln hN hq d0 CF
  go_enter Try.func36, Try.ntmps36
  go_wp2_with (go_at_call 48; (with_reducible refine (HC.out _ ((Turn.refl _ _).alloc _)).mono ?_); rintro x w' ⟨rfl, rfl⟩)
  go_region_held3 (fun _ => True) (trivial) (first | (go_at_call 52; (with_reducible refine (CO.out _).mono ?_); rintro x w2 ⟨rfl, rfl⟩))
  go_wp2_with (go_at_call 63; (with_reducible refine cF.mono ?_); rintro x w3 ⟨rfl, t3⟩; have T3 := Lib.hid (show Turn NoBlock w w3 from TT (((Turn.refl _ w).alloc _).drew) t3); have d3 := D0.out _ T3.out; clear t3)
  go_region_held3 (fun w' => w'.cell? ⟨c, 0, none⟩ = some (.int .i64 depth)) (first | exact d3) (first | (go_at_call 51; (with_reducible refine (CN.out _ T3.out.drew).mono ?_); rintro x w4 ⟨rfl, n4, rfl⟩))
  go_wp2
  go_ret2
  exact ⟨rfl, T3.out.drewN _⟩
end
end Go.Proofs.Ytcbphfpfdfgehaa
