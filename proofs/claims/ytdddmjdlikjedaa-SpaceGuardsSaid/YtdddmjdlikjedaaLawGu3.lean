/-
  SpaceGuards: the two pieces; making bytes ahead of a write.
-/
import Derived.Test.YtdddmjdlikjedaaLawGu2
namespace Go.Proofs.Ytdddmjdlikjedaa
open Go.ChangeShapes Go.WideShapes Go.ChangeAt Go.RowKit

def gP (one : Int) : Pc := ⟨0, 64, 1, 0, one⟩
theorem gu_map1 {w0 w : World} {c s a : Nat} {r : Rep} {one : Int} (h : SpS w0 c s a 128 4 r (ZN 20 3 128) [] w) (h1 : 0 ≤ one ∧ one ≤ 3) :
    Calls Try.prog 41 #[.pointer (some ⟨c, 0, none⟩), .int .i64 0, .int .i64 64, .int .i64 1, .int .i64 0, .int .i64 one] w fun e w' => e = .returned (.tuple #[.int .i64 0, .int .i64 0]) ∧ SpS w0 c s a 128 4 r (ZN 20 3 128) [gP one] w' := by
  have z := so_new 20 3 128 (by omega) (by omega)
  refine (SpS.mapAt h (by omega) (by simp) 64 1 0 one 0 (by unfold fit; omega) (by unfold isGrid isMul; omega) (by unfold isMul; omega) (by unfold isProt; omega) (by omega) (fun y _ _ p hp => (by cases hp.1)) z.at1 rfl (by decide) (by decide)).mono ?_
  rintro e w' ⟨g1, k, g2⟩
  rw [put_nil] at g2
  exact ⟨g1, g2⟩
theorem gu_map2 {w0 w : World} {c s a : Nat} {r : Rep} {one two : Int} (h : SpS w0 c s a 128 4 r (ZN 20 3 128) [gP one] w) (h1 : 0 ≤ two ∧ two ≤ 3) :
    Calls Try.prog 41 #[.pointer (some ⟨c, 0, none⟩), .int .i64 64, .int .i64 64, .int .i64 1, .int .i64 64, .int .i64 two] w fun e w' => e = .returned (.tuple #[.int .i64 64, .int .i64 0]) ∧ Gu w0 w' c s a one two 20 := by
  have z := so_new 20 3 128 (by omega) (by omega)
  refine (SpS.mapAt h (by omega) (by simp) 64 1 64 two 64 (by unfold fit; omega) (by unfold isGrid isMul; omega) (by unfold isMul; omega) (by unfold isProt; omega) (by omega) (fun y g1 g2 p hp => ?_) z.at1 rfl (by decide) (by decide)).mono ?_
  · obtain ⟨hq, q1, q2⟩ := hp
    simp only [List.mem_singleton] at hq
    subst hq
    unfold gP Pc.fin at q2
    simp only at q2
    omega
  · rintro e w' ⟨g1, k, g2⟩
    refine ⟨g1, ⟨⟨r, _, _, _, _, g2, z, fun y h0 h2 hf => ?_, fun p hp => ?_⟩⟩⟩
    · rcases Int.lt_or_le y 64 with h3 | h3
      · exact hf (gP one) ⟨mem_put.2 (.inl (by simp)), by unfold gP; exact h0, by unfold gP Pc.fin; simp only; omega⟩
      · exact hf ⟨64, 64, 1, 64, two⟩ ⟨mem_put.2 (.inr rfl), h3, by unfold Pc.fin; simp only; omega⟩
    · rcases mem_put.1 hp with hp | rfl
      · simp only [List.mem_singleton] at hp
        subst hp
        refine ⟨rfl, rfl, fun y _ h2 => ?_⟩
        unfold gP Pc.fin at h2
        simp only at h2
        rw [if_pos (by omega)]
        rfl
      · refine ⟨rfl, rfl, fun y h2 _ => ?_⟩
        simp only at h2
        rw [if_neg (by omega)]
theorem made_zero (N : Nat) : (madeCells (Value.int .u8 0).cells (N * 1)).toList = bcells (List.replicate N 0) := by
  have hc : (Value.int .u8 0).cells = #[.int .u8 0] := rfl
  rw [hc]
  apply List.ext_getElem?
  intro j
  by_cases hj : j < N
  · simp [madeCells, bcells, hj, Nat.mod_one]
  · simp [madeCells, bcells, hj]
/-- Bytes that are made, and written where that may be. -/
theorem mk_wrYes {w0 W : World} {c s a R : Nat} {one two x : Int} (g : Gu w0 W c s a one two R) (hR : 6 ≤ R) (N : Nat) (hx : 0 ≤ x) (hxn : x + (N : Int) ≤ 128) (hb : mayB one two x N 2 = true) :
    ∃ W5, (Instr.makeSlice 22 (.int .i64 (N : Int)) (.int .i64 (N : Int))).run Try.prog W = .ok (.slice (some ⟨W.heap.size, 0, none⟩) N N) W5 ∧ Turn NoBlock W W5 ∧
      Calls Try.prog 42 #[.pointer (some ⟨c, 0, none⟩), .int .i64 x, .slice (some ⟨W.heap.size, 0, none⟩) N N] W5 fun e w' => e = .returned (.tuple #[.int .i64 (N : Int), .int .i64 0]) ∧ Gu w0 w' c s a one two (R - 6) := by
  obtain ⟨iv, hi5, hz0, hz1, hz2⟩ := info_parts info5
  obtain ⟨W5, h1, h2, h3⟩ := run_make_full (P := Try.prog) (w := W) 0 22 5 iv _ 1 bytes31 hi5 hz0 hz1 .i64 .i64 N (by rw [hz2]; omega) (by unfold maxLen; omega) (Nat.zero_le _)
  have t : Turn NoBlock W W5 := (Turn.refl NoBlock W).grown h3 (fun k e => by cases e)
  refine ⟨W5, h1, t, ?_⟩
  have hl : (List.replicate N (0 : UInt8)).length = N := List.length_replicate
  rw [made_zero] at h2
  have c := Gu.wrYes g t hR (List.replicate N (0 : UInt8)) W.heap.size N hx (by rw [hl]; exact hxn) (by rw [hl]; exact hb) (by rw [hl]; unfold Byts; rw [hl]; exact h2) (by rw [hl]; exact Nat.le_refl _) (Nat.le_refl _)
  rw [hl] at c
  exact c
theorem mk_wrNo {w0 W : World} {c s a R : Nat} {one two x : Int} (g : Gu w0 W c s a one two R) (N : Nat) (hx : 0 ≤ x) (hxn : x + (N : Int) ≤ 128) (hb : mayB one two x N 2 = false) :
    ∃ W5, (Instr.makeSlice 22 (.int .i64 (N : Int)) (.int .i64 (N : Int))).run Try.prog W = .ok (.slice (some ⟨W.heap.size, 0, none⟩) N N) W5 ∧ Turn NoBlock W W5 ∧
      Calls Try.prog 42 #[.pointer (some ⟨c, 0, none⟩), .int .i64 x, .slice (some ⟨W.heap.size, 0, none⟩) N N] W5 fun e w' => e = .returned (.tuple #[.int .i64 0, .int .i64 (-30)]) ∧ Gu w0 w' c s a one two R := by
  obtain ⟨iv, hi5, hz0, hz1, hz2⟩ := info_parts info5
  obtain ⟨W5, h1, h2, h3⟩ := run_make_full (P := Try.prog) (w := W) 0 22 5 iv _ 1 bytes31 hi5 hz0 hz1 .i64 .i64 N (by rw [hz2]; omega) (by unfold maxLen; omega) (Nat.zero_le _)
  have t : Turn NoBlock W W5 := (Turn.refl NoBlock W).grown h3 (fun k e => by cases e)
  exact ⟨W5, h1, t, ((g.past t).wrNo N _ N hx hxn hb).mono (fun e w' hh => ⟨hh.1, (g.past t).past hh.2⟩)⟩
theorem Gu.less {w0 w : World} {c s a R R' : Nat} {one two : Int} (g : Gu w0 w c s a one two R) (h : R' ≤ R) : Gu w0 w c s a one two R' := by
  obtain ⟨r, M, o, C, l, h1, z, h2⟩ := g.ex
  exact ⟨⟨r, M, o, C, l, h1, z.less h, h2⟩⟩
theorem mk_wrBy {w0 W : World} {c s a R : Nat} {one two x : Int} (g : Gu w0 W c s a one two R) (hR : 6 ≤ R) (N : Nat) (hx : 0 ≤ x) (hxn : x + (N : Int) ≤ 128) (b : Bool) (hb : mayB one two x N 2 = b) :
    ∃ W5, (Instr.makeSlice 22 (.int .i64 (N : Int)) (.int .i64 (N : Int))).run Try.prog W = .ok (.slice (some ⟨W.heap.size, 0, none⟩) N N) W5 ∧ Turn NoBlock W W5 ∧
      Calls Try.prog 42 #[.pointer (some ⟨c, 0, none⟩), .int .i64 x, .slice (some ⟨W.heap.size, 0, none⟩) N N] W5 fun e w' => e = .returned (.tuple #[.int .i64 (cond b (N : Int) 0), .int .i64 (cond b 0 (-30))]) ∧ Gu w0 w' c s a one two (R - 6) := by
  cases b with
  | true => exact mk_wrYes g hR N hx hxn hb
  | false =>
    obtain ⟨W5, h1, h2, h3⟩ := mk_wrNo g N hx hxn hb
    exact ⟨W5, h1, h2, h3.mono (fun e w' hh => ⟨hh.1, hh.2.less (by omega)⟩)⟩
theorem may33 (x n : Int) (bit : Int) : mayB 3 3 x n bit = true := by
  unfold mayB hasB
  simp
end Go.Proofs.Ytdddmjdlikjedaa
