/-
  bytes: what stands in a part. No conditions but that the set is one that calls can make.
-/
import Derived.Test.YtdhbhigoboamfaaVOwn
import Derived.Deep.RegionHeld3
namespace Go.Proofs.Ytdhbhigoboamfaa
open Go.ChangeShapes Go.WideShapes Go.ChangeAt Go.RowKit

def byteL (S : PL) (p : Pt) : List UInt8 := match S.g (p.pg : Int) with | none => List.replicate p.n 0 | some f => readB S.L f p.at' p.n
theorem byte_none {S : PL} {p : Pt} (h : S.g (p.pg : Int) = none) : byteL S p = List.replicate p.n 0 := by unfold byteL; rw [h]
theorem byte_some {S : PL} {p : Pt} {f : Int} (h : S.g (p.pg : Int) = some f) : byteL S p = readB S.L f p.at' p.n := by unfold byteL; rw [h]
def ptV (p : Pt) : Value := .agg #[.int .i64 (p.pg : Int), .int .i64 (p.at' : Int), .int .i64 (p.n : Int)]
theorem zeros_cells (n : Nat) : (madeCells (Value.int .u8 0).cells (n * 1)).toList = bcells (List.replicate n 0) := by
  rw [Nat.mul_one]
  unfold madeCells bcells
  apply List.ext_getElem?
  intro i
  by_cases h : i < n
  · simp [Value.cells, h, Nat.mod_one]
  · simp [h]
theorem zero_byts {w : World} {g n : Nat} (h : w.ownsRow 0 5 1 (.slice (some ⟨g, 0, none⟩) n n) n (madeCells (Value.int .u8 0).cells (n * 1)).toList) : Byts (.slice (some ⟨g, 0, none⟩) n n) (List.replicate n 0) w := by
  rw [zeros_cells] at h
  unfold Byts
  rw [List.length_replicate]
  exact h

section
variable {w : World} {s : Nat} {r : Rep} {M : Mod}
set_option maxRecDepth 20000 in
theorem bytes8_any (h : SMem w s r M) {i : Int} {o : Ob} {a pb : Nat} (hO : M.O i = some o) (hA : r.A i = some a) (hB : r.B i = some pb) (p : Pt) (hpg : p.pg ≤ 4611686018427387904) (hn : p.at' + p.n ≤ 64) (hu : ∀ q f, o.pgs q = some f → usersL M.L f ≠ 0) :
    Calls Try.prog 54 #[.pointer (some ⟨s, 0, none⟩), .pointer (some ⟨a, 0, none⟩), ptV p] w fun e w' => ∃ v, e = .returned v ∧ Byts v (byteL ⟨M.L, o.pgs, o.cnt⟩ p) w' ∧ (∀ j, Blk v j → w.heap.size ≤ j) ∧ Turn NoBlock w w' := by
  have hfit : fit (p.pg : Int) := by unfold fit; omega
  obtain ⟨iv, hi, hz0, hz1, hz2⟩ := info_parts info5
  obtain ⟨pg, pat, pn⟩ := p
  simp only at hn hpg hfit
  unfold ptV
  simp only
  obtain ⟨x, xt, hx1, hx2, hx3, hx4⟩ := h.live hO
  rw [hA] at hx1
  rw [hB] at hx2
  cases hx1
  cases hx2
  have halt := lt_of_block hx3
  have hslt := h.lt (.inl rfl)
  have d0 := h.c0
  have d7 := (ocells hx3).c7
  obtain ⟨W1, hW1⟩ : ∃ W1, W1 = (w.alloc (.cells #[.int .i64 (pg : Int), .int .i64 (pat : Int), .int .i64 (pn : Int)] 97)).drew := ⟨_, rfl⟩
  have tW : Turn NoBlock w W1 := by rw [hW1]; exact ((Turn.refl _ _).alloc _).drew
  have lk := PMap.look (IMap.past hx4 tW (fun h => h)) (pg : Int) hfit
  cases hgp : o.pgs (pg : Int) with
  | none =>
    rw [byte_none hgp]
    rw [hgp, hW1] at lk
    simp only [Option.getD_none, Option.isSome_none] at lk
    rw [hW1] at tW
    have q1 : iv.bytes * pn ≤ 281474976710656 := by rw [hz2]; omega
    have q2 : pn ≤ maxLen := by unfold maxLen; omega
    have HT := Lib.hid tW
    clear h hx3 hx4 hA hB hO hfit hgp hu tW hW1
    go_enter Try.func54, Try.ntmps54
    go_wp2
    go_region
    all_goals
      go_wp2_with (at_make; refine wpList_make_full _ rfl (.tmp 24) (.tmp 24) 22 rfl 0 5 iv _ 1 bytes31 hi hz0 hz1 .i64 .i64 _ _ pn rfl rfl rfl rfl q1 q2 (Nat.zero_le _) ?_; intro w2 hown hgrow; have K2 := Lib.hid (And.intro (zero_byts hown) (HT.out.grown hgrow (fun k e => by cases e))); clear hown hgrow)
      go_ret
      refine ⟨.slice (some ⟨w.heap.size + 1, 0, none⟩) pn pn, rfl, by have h := K2.out.1; simpa using h, fun j hj => ?_, K2.out.2⟩
      simp [Blk, Value.ownBlock] at hj
      omega
  | some f =>
    rw [byte_some hgp]
    rw [hgp] at lk
    simp only [Option.getD_some, Option.isSome_some] at lk
    rw [hW1] at lk
    have HR := Lib.hid (fun w' (t : Turn NoBlock w w') (q1 : w'.cell? ⟨w.heap.size, 1, none⟩ = some (.int .i64 (pat : Int))) (q2 : w'.cell? ⟨w.heap.size, 2, none⟩ = some (.int .i64 (pn : Int))) =>
      show Calls Try.prog 39 #[.pointer (some ⟨r.p, 0, none⟩), .int .i64 f, .int .i64 pat, .int .i64 pn] w' fun e w5 => ∃ v, e = .returned (.tuple #[v, .int .i64 0]) ∧ Hid (Byts v (readB M.L f pat pn) w5 ∧ (∀ j, Blk v j → w.heap.size ≤ j)) ∧ Turn NoBlock w w5 ∧
          w5.cell? ⟨s, 0, none⟩ = some (.pointer (some ⟨r.p, 0, none⟩)) ∧ w5.cell? ⟨w.heap.size, 1, none⟩ = some (.int .i64 (pat : Int)) ∧ w5.cell? ⟨w.heap.size, 2, none⟩ = some (.int .i64 (pn : Int)) from by
        refine (read_any ((h.past t).pool) f pat pn (by unfold withinS; rw [if_neg (hu _ _ hgp), if_pos (by unfold inB; exact decide_eq_true (by omega))])).mono ?_
        rintro e w5 ⟨v, rfl, k1, k2, k3⟩
        have t5 := t.trans k3 (fun _ h => .inl h)
        exact ⟨v, rfl, ⟨k1, fun j hj => Nat.le_trans t.size (k2 j hj)⟩, t5, (h.past t5).c0, k3.cell q1 (fun h => h), k3.cell q2 (fun h => h)⟩)
    have D0 : ∀ ob m, ((w.alloc ob).drewN m).cell? ⟨s, 0, none⟩ = some (.pointer (some ⟨r.p, 0, none⟩)) := fun ob m => (h.past (((Turn.refl NoBlock w).alloc ob).drewN m)).c0
    have D1 : ∀ c0 c1 c2 t m, ((w.alloc (.cells #[c0, c1, c2] t)).drewN m).cell? ⟨w.heap.size, 1, none⟩ = some c1 := fun c0 c1 c2 t m => by exact cell_at (heap_alloc_new w (.cells #[c0, c1, c2] t)) 1
    have D2 : ∀ c0 c1 c2 t m, ((w.alloc (.cells #[c0, c1, c2] t)).drewN m).cell? ⟨w.heap.size, 2, none⟩ = some c2 := fun c0 c1 c2 t m => by exact cell_at (heap_alloc_new w (.cells #[c0, c1, c2] t)) 2
    clear h hx3 hx4 hA hB hO hfit hgp hu tW hW1
    go_enter Try.func54, Try.ntmps54
    go_wp2
    go_region
    all_goals
      go_wp2_with fail
      go_region_held3 (fun w' => w'.cell? ⟨s, 0, none⟩ = some (.pointer (some ⟨r.p, 0, none⟩)) ∧ w'.cell? ⟨w.heap.size, 1, none⟩ = some (.int .i64 (pat : Int)) ∧ w'.cell? ⟨w.heap.size, 2, none⟩ = some (.int .i64 (pn : Int)) ∧ Turn NoBlock w w') ((refine ⟨?_, ?_, ?_, ?_⟩ <;> (first | assumption | exact D0 _ 2 | exact D1 _ _ _ _ 2 | exact D2 _ _ _ _ 2 | exact ((Turn.refl _ _).alloc _).drewN 2)))
        (first
          | (go_at_call 39; (with_reducible refine (HR.out _ ?_ ?_ ?_).mono ?_); (first | assumption | exact ((Turn.refl _ _).alloc _).drewN 2); (first | assumption | exact D1 _ _ _ _ 2); (first | assumption | exact D2 _ _ _ _ 2); rintro e w5 ⟨v5, rfl, K5, T5, y0, y1, y2⟩))
      all_goals
        go_wp2
        go_ret
        exact ⟨_, rfl, K5.out.1, K5.out.2, T5⟩
end
end Go.Proofs.Ytdhbhigoboamfaa
