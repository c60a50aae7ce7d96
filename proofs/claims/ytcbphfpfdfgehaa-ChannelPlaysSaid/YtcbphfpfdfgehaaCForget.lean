/-
  What Forget answers, and what it makes of the channel. No conditions but that the channel is one that calls can make.
-/
import Derived.Test.YtcbphfpfdfgehaaCCall3
namespace Go.Proofs.Ytcbphfpfdfgehaa
open Go.ChangeShapes Go.WideShapes Go.ChangeAt Go.RowKit

theorem forget_bad {w : World} {c : Nat} (e k : Int) (h0 : e ≠ 0) (h1 : e ≠ 1) :
    Calls Try.prog 44 #[.pointer (some ⟨c, 0, none⟩), .int .i64 e, .int .i64 k] w fun x w' => x = .returned (.int .i64 (-10)) ∧ Turn NoBlock w w' := by
  have HC := Lib.hid (fun W => right_bad c e W h0 h1)
  clear h0 h1
  go_enter Try.func44, Try.ntmps44
  go_wp2_with (go_at_call 48; (with_reducible refine (HC.out _).mono ?_); rintro x w' ⟨rfl, rfl⟩)
  go_ret
  exact ⟨rfl, (Turn.refl _ _).alloc _⟩

section
variable {w : World} {c depth N : Nat} {S : Nat → Sd} {V : Nat → SV}
theorem forget_shut (hC : CMem w c depth N S V) {e : Nat} (he : e < 2) (ho : (S e).op = false) (k : Int) :
    Calls Try.prog 44 #[.pointer (some ⟨c, 0, none⟩), .int .i64 (e : Int), .int .i64 k] w fun x w' => x = .returned (.int .i64 (-24)) ∧ Turn NoBlock w w' := by
  have HC := Lib.hid (fun W (t : Turn NoBlock w W) => right_no (hC.past t) he ho)
  clear hC he ho
  go_enter Try.func44, Try.ntmps44
  go_wp2_with (go_at_call 48; (with_reducible refine (HC.out _ ((Turn.refl _ _).alloc _)).mono ?_); rintro x w' ⟨rfl, rfl⟩)
  go_ret
  exact ⟨rfl, (Turn.refl _ _).alloc _⟩
theorem plane_we {S' : Nat → Sd} {e : Nat} {l : List Wt} : planeOf (updN S' e { S' e with ws := l }) = updN (planeOf S') e ⟨(planeOf S' e).op, (planeOf S' e).q, l⟩ := by
  rw [plane_upd]
  rfl
set_option maxRecDepth 20000 in
set_option maxHeartbeats 1000000 in
theorem forget_miss0 (hC : CMem w c depth N S V) (hN : N ≤ 1000000) (ho : (S 0).op = true) (k : Int) (hk : FirstAt (fun t => t.who == k) (S 0).ws (S 0).ws.length) :
    Calls Try.prog 44 #[.pointer (some ⟨c, 0, none⟩), .int .i64 0, .int .i64 k] w fun x w' => x = .returned (.int .i64 (-25)) ∧ Turn NoBlock w w' := by
  have hln := hC.len 0 (by omega)
  have HC := Lib.hid (fun W (t : Turn NoBlock w W) => show Calls Try.prog 48 #[.pointer (some ⟨c, 0, none⟩), .int .i64 0] W _ from right_yes (hC.past t) (e := 0) (by omega) ho)
  have hhit : hitAt (S 0).ws.length (S 0).ws.length = (-1 : Int) := by unfold hitAt; rw [if_neg (by omega)]
  have cF := show Calls Try.prog 63 #[.pointer (some ⟨c, 1, none⟩), .func (.func 71) #[] #[.pointer (some ⟨w.heap.size, 0, none⟩)]] (w.alloc (.cells #[.int .i64 k] 3)) (fun e w' => e = .returned (.int .i64 (-1)) ∧ Turn NoBlock (w.alloc (.cells #[.int .i64 k] 3)) w') by
    have := findF ((hC.past ((Turn.refl NoBlock w).alloc (.cells #[.int .i64 k] 3))).s 0 (by omega)) w.heap.size k _ (by simp) hk (by omega)
    rw [hhit] at this
    exact this
  have cl := (hC.s 0 (by omega)).typ.lt
  clear hC hN ho hk hhit hln
  go_enter Try.func44, Try.ntmps44
  go_wp2_with (first
    | (go_at_call 48; (with_reducible refine (HC.out _ ((Turn.refl _ _).alloc _)).mono ?_); rintro x w' ⟨rfl, rfl⟩)
    | (go_at_call 63; (with_reducible refine cF.mono ?_); rintro x w3 ⟨rfl, t3⟩))
  go_ret
  exact ⟨rfl, TT ((Turn.refl _ w).alloc _) t3⟩
set_option maxRecDepth 20000 in
set_option maxHeartbeats 1000000 in
theorem forget_hit0 (hC : CMem w c depth N S V) (hN : N ≤ 1000000) (ho : (S 0).op = true) (k : Int) (j : Nat) (hk : FirstAt (fun t => t.who == k) (S 0).ws j) (hkl : j < (S 0).ws.length) :
    Calls Try.prog 44 #[.pointer (some ⟨c, 0, none⟩), .int .i64 0, .int .i64 k] w fun x w' => x = .returned (.int .i64 0) ∧ Made w w' c depth N S V (updN (planeOf S) 0 ⟨(planeOf S 0).op, (planeOf S 0).q, (S 0).ws.eraseIdx j⟩) := by
  have hln := hC.len 0 (by omega)
  have HC := Lib.hid (fun W (t : Turn NoBlock w W) => show Calls Try.prog 48 #[.pointer (some ⟨c, 0, none⟩), .int .i64 0] W _ from right_yes (hC.past t) (e := 0) (by omega) ho)
  have hhit : hitAt j (S 0).ws.length = (j : Int) := by unfold hitAt; rw [if_pos hkl]
  have cF := show Calls Try.prog 63 #[.pointer (some ⟨c, 1, none⟩), .func (.func 71) #[] #[.pointer (some ⟨w.heap.size, 0, none⟩)]] (w.alloc (.cells #[.int .i64 k] 3)) (fun e w' => e = .returned (.int .i64 (j : Int)) ∧ Turn NoBlock (w.alloc (.cells #[.int .i64 k] 3)) w') by
    have := findF ((hC.past ((Turn.refl NoBlock w).alloc (.cells #[.int .i64 k] 3))).s 0 (by omega)) w.heap.size k _ (by simp) hk (by omega)
    rw [hhit] at this
    exact this
  have cl := (hC.s 0 (by omega)).typ.lt
  obtain ⟨pw, cw, hvw⟩ := (hC.s 0 (by omega)).rowW.sl
  have DEL := Lib.hid (fun W (t : Turn NoBlock w W) => delete_one W (V 0).w (S 0).ws j ((hC.past t).s 0 (by omega)).rowW hkl (by omega))
  have o3 : w.cell? ⟨c, 4, none⟩ = some (V 0).w := (hC.s 0 (by omega)).c3
  have hrw := (hC.s 0 (by omega)).rowW
  rw [hvw] at o3 hrw DEL
  have ncw : ¬ Blk (.slice pw (S 0).ws.length cw) c := blk_typed hrw (hC.s 0 (by omega)).typ (by decide)
  have TYC := Lib.hid (hC.s 0 (by omega)).typ
  have HM := Lib.hid (And.intro hC (And.intro ho (And.intro hvw (And.intro ncw hln))))
  have hj0 : ¬ (j : Int) < 0 := by omega
  have hj1 : (j : Int) < (S 0).ws.length := by omega
  have hj2 : ((S 0).ws.length : Int) ≤ 1000000 := by omega
  have HO3 := Lib.hid o3
  clear hC hN ho hk hhit hln hvw hrw ncw hkl
  generalize hwl : (S 0).ws.length = wl at *
  have HWL := Lib.hid hwl
  clear hwl
  go_enter Try.func44, Try.ntmps44
  go_wp2_with (first
    | (go_at_call 48; (with_reducible refine (HC.out _ ((Turn.refl _ _).alloc _)).mono ?_); rintro x w' ⟨rfl, rfl⟩)
    | (go_at_call 63; (with_reducible refine cF.mono ?_); rintro x w3 ⟨rfl, t3⟩; have T3 := Lib.hid (TT ((Turn.refl _ w).alloc _) t3); have e3 := T3.out.cell HO3.out (fun h => h); clear t3)
    | (go_at_call 65; (with_reducible refine (DEL.out _ T3.out).mono ?_); rintro x w4 ⟨v4, rfl, r4, t4, k4⟩; obtain ⟨p4, c4, rfl⟩ := r4.sl; have g3 := t4.cell (T3.out.cell HO3.out (fun h => h)) HM.out.2.2.2.1; have z4 := ((TYC.out.kept T3.out (fun h => h)).kept t4 HM.out.2.2.2.1).free (1 + 3); simp only [Nat.reduceAdd] at z4; have R4 := Lib.hid (And.intro r4 (And.intro t4 k4)); clear r4 t4 k4))
  go_ret
  refine ⟨rfl, ?_⟩
  obtain ⟨C4, F4, G4⟩ := made_ws HM.out.1 T3.out (e := 0) (by omega) HM.out.2.1 (ws := (S 0).ws.eraseIdx j) (vw := .slice p4 ((S 0).ws.eraseIdx j).length c4) R4.out.1 (by rw [HM.out.2.2.1]; exact R4.out.2.1) (fun i hi => by rw [HM.out.2.2.1]; exact .inl (R4.out.2.2 i hi)) (M := N) (Nat.le_refl _) (by have := HM.out.2.2.2.2.2.2; have := HWL.out; have := List.length_eraseIdx_le (S 0).ws j; omega)
  exact ⟨_, _, C4, plane_we, F4, G4⟩
set_option maxRecDepth 20000 in
set_option maxHeartbeats 1000000 in
theorem forget_miss1 (hC : CMem w c depth N S V) (hN : N ≤ 1000000) (ho : (S 1).op = true) (k : Int) (hk : FirstAt (fun t => t.who == k) (S 1).ws (S 1).ws.length) :
    Calls Try.prog 44 #[.pointer (some ⟨c, 0, none⟩), .int .i64 1, .int .i64 k] w fun x w' => x = .returned (.int .i64 (-25)) ∧ Turn NoBlock w w' := by
  have hln := hC.len 1 (by omega)
  have HC := Lib.hid (fun W (t : Turn NoBlock w W) => show Calls Try.prog 48 #[.pointer (some ⟨c, 0, none⟩), .int .i64 1] W _ from right_yes (hC.past t) (e := 1) (by omega) ho)
  have hhit : hitAt (S 1).ws.length (S 1).ws.length = (-1 : Int) := by unfold hitAt; rw [if_neg (by omega)]
  have cF := show Calls Try.prog 63 #[.pointer (some ⟨c, 5, none⟩), .func (.func 71) #[] #[.pointer (some ⟨w.heap.size, 0, none⟩)]] (w.alloc (.cells #[.int .i64 k] 3)) (fun e w' => e = .returned (.int .i64 (-1)) ∧ Turn NoBlock (w.alloc (.cells #[.int .i64 k] 3)) w') by
    have := findF ((hC.past ((Turn.refl NoBlock w).alloc (.cells #[.int .i64 k] 3))).s 1 (by omega)) w.heap.size k _ (by simp) hk (by omega)
    rw [hhit] at this
    exact this
  have cl := (hC.s 1 (by omega)).typ.lt
  clear hC hN ho hk hhit hln
  go_enter Try.func44, Try.ntmps44
  go_wp2_with (first
    | (go_at_call 48; (with_reducible refine (HC.out _ ((Turn.refl _ _).alloc _)).mono ?_); rintro x w' ⟨rfl, rfl⟩)
    | (go_at_call 63; (with_reducible refine cF.mono ?_); rintro x w3 ⟨rfl, t3⟩))
  go_ret
  exact ⟨rfl, TT ((Turn.refl _ w).alloc _) t3⟩
set_option maxRecDepth 20000 in
set_option maxHeartbeats 1000000 in
theorem forget_hit1 (hC : CMem w c depth N S V) (hN : N ≤ 1000000) (ho : (S 1).op = true) (k : Int) (j : Nat) (hk : FirstAt (fun t => t.who == k) (S 1).ws j) (hkl : j < (S 1).ws.length) :
    Calls Try.prog 44 #[.pointer (some ⟨c, 0, none⟩), .int .i64 1, .int .i64 k] w fun x w' => x = .returned (.int .i64 0) ∧ Made w w' c depth N S V (updN (planeOf S) 1 ⟨(planeOf S 1).op, (planeOf S 1).q, (S 1).ws.eraseIdx j⟩) := by
  have hln := hC.len 1 (by omega)
  have HC := Lib.hid (fun W (t : Turn NoBlock w W) => show Calls Try.prog 48 #[.pointer (some ⟨c, 0, none⟩), .int .i64 1] W _ from right_yes (hC.past t) (e := 1) (by omega) ho)
  have hhit : hitAt j (S 1).ws.length = (j : Int) := by unfold hitAt; rw [if_pos hkl]
  have cF := show Calls Try.prog 63 #[.pointer (some ⟨c, 5, none⟩), .func (.func 71) #[] #[.pointer (some ⟨w.heap.size, 0, none⟩)]] (w.alloc (.cells #[.int .i64 k] 3)) (fun e w' => e = .returned (.int .i64 (j : Int)) ∧ Turn NoBlock (w.alloc (.cells #[.int .i64 k] 3)) w') by
    have := findF ((hC.past ((Turn.refl NoBlock w).alloc (.cells #[.int .i64 k] 3))).s 1 (by omega)) w.heap.size k _ (by simp) hk (by omega)
    rw [hhit] at this
    exact this
  have cl := (hC.s 1 (by omega)).typ.lt
  obtain ⟨pw, cw, hvw⟩ := (hC.s 1 (by omega)).rowW.sl
  have DEL := Lib.hid (fun W (t : Turn NoBlock w W) => delete_one W (V 1).w (S 1).ws j ((hC.past t).s 1 (by omega)).rowW hkl (by omega))
  have o3 : w.cell? ⟨c, 8, none⟩ = some (V 1).w := (hC.s 1 (by omega)).c3
  have hrw := (hC.s 1 (by omega)).rowW
  rw [hvw] at o3 hrw DEL
  have ncw : ¬ Blk (.slice pw (S 1).ws.length cw) c := blk_typed hrw (hC.s 1 (by omega)).typ (by decide)
  have TYC := Lib.hid (hC.s 1 (by omega)).typ
  have HM := Lib.hid (And.intro hC (And.intro ho (And.intro hvw (And.intro ncw hln))))
  have hj0 : ¬ (j : Int) < 0 := by omega
  have hj1 : (j : Int) < (S 1).ws.length := by omega
  have hj2 : ((S 1).ws.length : Int) ≤ 1000000 := by omega
  have HO3 := Lib.hid o3
  clear hC hN ho hk hhit hln hvw hrw ncw hkl
  generalize hwl : (S 1).ws.length = wl at *
  have HWL := Lib.hid hwl
  clear hwl
  go_enter Try.func44, Try.ntmps44
  go_wp2_with (first
    | (go_at_call 48; (with_reducible refine (HC.out _ ((Turn.refl _ _).alloc _)).mono ?_); rintro x w' ⟨rfl, rfl⟩)
    | (go_at_call 63; (with_reducible refine cF.mono ?_); rintro x w3 ⟨rfl, t3⟩; have T3 := Lib.hid (TT ((Turn.refl _ w).alloc _) t3); have e3 := T3.out.cell HO3.out (fun h => h); clear t3)
    | (go_at_call 65; (with_reducible refine (DEL.out _ T3.out).mono ?_); rintro x w4 ⟨v4, rfl, r4, t4, k4⟩; obtain ⟨p4, c4, rfl⟩ := r4.sl; have g3 := t4.cell (T3.out.cell HO3.out (fun h => h)) HM.out.2.2.2.1; have z4 := ((TYC.out.kept T3.out (fun h => h)).kept t4 HM.out.2.2.2.1).free (5 + 3); simp only [Nat.reduceAdd] at z4; have R4 := Lib.hid (And.intro r4 (And.intro t4 k4)); clear r4 t4 k4))
  go_ret
  refine ⟨rfl, ?_⟩
  obtain ⟨C4, F4, G4⟩ := made_ws HM.out.1 T3.out (e := 1) (by omega) HM.out.2.1 (ws := (S 1).ws.eraseIdx j) (vw := .slice p4 ((S 1).ws.eraseIdx j).length c4) R4.out.1 (by rw [HM.out.2.2.1]; exact R4.out.2.1) (fun i hi => by rw [HM.out.2.2.1]; exact .inl (R4.out.2.2 i hi)) (M := N) (Nat.le_refl _) (by have := HM.out.2.2.2.2.2.2; have := HWL.out; have := List.length_eraseIdx_le (S 1).ws j; omega)
  exact ⟨_, _, C4, plane_we, F4, G4⟩
end
end Go.Proofs.Ytcbphfpfdfgehaa
