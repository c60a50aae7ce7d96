/-
  A thread waits: Block where it may. Conditions: the waits lie in memory, and the items can be read.
-/
import Derived.Test.YtabakjimlndhcaaBBlock
namespace Go.Proofs.Ytabakjimlndhcaa
open Go.ChangeShapes Go.WideShapes Go.ChangeAt Go.RowKit

section
variable {w w' w1 : World} {c tm lm nT : Nat} {most : Int} {T : Int → Option Nat} {G A B : List Gw} {r : Int → Nat} {K : List Int} {g : Gw}
theorem linesAt_len (its : List It) (j : Nat) (h : its.length ≤ 8) : (linesAt its j).length ≤ 9 := by
  unfold linesAt linesOf
  have := lines_len (its.take j) [0]
  have h2 := List.length_take_le j its
  have h3 : (its.take j).length ≤ its.length := by rw [List.length_take]; omega
  simp only [List.length_cons, List.length_nil] at this
  omega
theorem BlockAt.item {x : Nat} {a : Wt} {iv : Value} {l : List Int} {W : World} (h : BlockAt w c most tm lm T nT G r K x a iv l W) : W.cell? ⟨x, 2, none⟩ = some iv ∧ IRow iv a.its W := by
  obtain ⟨g, r', K', rfl, rfl, rfl, h4, h5, h6, h7, h8⟩ := h.ex
  exact ⟨(h6.obj g (by simp)).x2, (h6.obj g (by simp)).items⟩
set_option maxRecDepth 20000 in
set_option maxHeartbeats 2000000 in
theorem block_yes (h : GMem w c most tm lm T nT G r K) (htg : Tight G K) (hp9 : ∀ g ∈ G, g.pl.length ≤ 9) (hG : G.length ≤ 65536) (hnT : nT ≤ 65536) (t d : Int) (v : Value) (its : List It) (hrow : IRow v its w) (ht : ¬ t < 0) (hp : posB its = true) (hf : fit t) (hfi : ∀ i ∈ its, fit i.o) (hT : (T t).isSome = false) (hm : (nT : Int) ≠ most) :
    Calls Try.prog 14 #[.pointer (some ⟨c, 0, none⟩), .int .i64 t, .int .i64 d, v] w fun e w' => e = .returned (.int .i64 0) ∧ ∃ x, w.heap.size ≤ x ∧ ∃ iv, BlockAt w c most tm lm (updI T t (some x)) (nT + 1) G r K x ⟨t, d, its⟩ iv (linesOf its) w' := by
  have hpp := of_decide_eq_true hp
  have HN := Lib.hid (And.intro hpp.1 (And.intro hpp.2.1 (And.intro hfi (And.intro htg (And.intro hp9 hG)))))
  have C := Lib.hid (possible_any hrow (by omega))
  have CB := Lib.hid (fun W (tt : Turn NoBlock w W) => blocked_any (h.past tt) t hf)
  have HM := Lib.hid (fun W (tt : Turn NoBlock w W) => And.intro ((h.past tt).drew.c0) (And.intro ((h.past tt).drew.c1) (fun ty => (h.past tt).drew.tmap.len tmapU ty)))
  have CC := Lib.hid (fun W (tt : Turn NoBlock w W) => clone_any (hrow.past tt) (by omega))
  rw [hT] at CB
  rw [hp] at C
  have hmb : ((nT : Int) == most) = false := by simp [hm]
  have HB := Lib.hid (show ∀ W (iv : Value), Turn NoBlock w W → IRow iv its W → (∀ k, Blk iv k → w.heap.size ≤ k) → ∃ W3, (W.alloc (.cells #[.int .i64 t, .int .i64 d, iv, .slice none 0 0] 106)).cell? ⟨c, 1, none⟩ = some (.map (some tm)) ∧
      Sem.run Try.prog (Instr.mapUpdate 95 (.map (some tm)) (.int .i64 t) (.pointer (some ⟨W.heap.size, 0, none⟩))) (W.alloc (.cells #[.int .i64 t, .int .i64 d, iv, .slice none 0 0] 106)) = .ok () W3 ∧ Hid (w.heap.size ≤ W.heap.size ∧ BlockAt w c most tm lm (updI T t (some W.heap.size)) (nT + 1) G r K W.heap.size ⟨t, d, its⟩ iv [] W3) from by
    intro W iv tt hi hik
    have hW := h.past tt
    have t2 : Turn NoBlock W (W.alloc (.cells #[.int .i64 t, .int .i64 d, iv, .slice none 0 0] 106)) := (Turn.refl _ W).alloc _
    have g2 := hW.more t2 (a := ⟨t, d, its⟩) (x := W.heap.size) (iv := iv) (Nat.le_refl _) (heap_alloc_new W _) (hi.past t2)
    obtain ⟨W3, hr3, hm3, t3⟩ := g2.tmap.put tmapU (by unfold maxLen; omega) t W.heap.size hf
    rw [hT] at hm3
    simp only [Bool.false_eq_true, if_false] at hm3
    have g3 := g2.who t3 hm3
    refine ⟨W3, g2.c1, hr3, ⟨tt.size, ⟨⟨W.heap.size, ⟨t, d, its⟩, iv, .slice none 0 0, [], []⟩, r, K, rfl, rfl, rfl, rfl, rfl, g3, fun h0 n hn => ?_, fun k hk => ?_⟩, ((TU tt).trans (TU t2) (fun _ h => .inl h)).trans (t3.mono (G := GFoot c tm lm G r K) (fun k hk => .inl (.inr (.inl hk)))) (fun _ h => .inl h)⟩⟩
    · rw [inL_app, inL_cons]
      have : (⟨W.heap.size, ⟨t, d, its⟩, iv, .slice none 0 0, [], []⟩ : Gw).at n = none := rfl
      rw [this]
      have := h0 n hn
      simpa [inL] using this
    · rcases hk with hk | hk | hk | ⟨y, hy, hk⟩ | hk
      · exact .inl (.inl hk)
      · exact .inl (.inr (.inl hk))
      · exact .inl (.inr (.inr (.inl hk)))
      · rcases List.mem_append.1 hy with h2 | h2
        · exact .inl (.inr (.inr (.inr (.inl ⟨y, h2, hk⟩))))
        · rw [List.mem_singleton] at h2
          subst h2
          rcases hk with hk | hk | hk | ⟨m, pm, hm, hk⟩
          · replace hk : k = W.heap.size := hk
            exact .inr (by have := tt.size; omega)
          · exact .inr (hik k hk)
          · exact (blk_nil k hk).elim
          · cases hm
      · exact .inl (.inr (.inr (.inr (.inr hk)))))
  obtain ⟨p, cap, rfl⟩ := WRow.sl hrow
  clear h hrow hT hp hpp htg hp9 hG hfi hm
  go_enter Try.func14, Try.ntmps14
  go_wp2_with (first
    | (go_at_call 51; (with_reducible refine C.out.mono ?_); rintro e w2 ⟨rfl, t2⟩; have T2 := Lib.hid t2; clear t2)
    | (go_at_call 28; (with_reducible refine (CB.out _ T2.out).mono ?_); rintro e w3 ⟨rfl, rfl⟩))
  obtain ⟨d0, d1, hl⟩ := HM.out w2 T2.out
  go_region
  clear d0 d1 hl
  go_wp2_with (go_at_call 52; (with_reducible refine (CC.out _ T2.out.drew).mono ?_); rintro e w4 ⟨iv, rfl, i4, t4, k4⟩; obtain ⟨iP, iC, rfl⟩ := WRow.sl i4; obtain ⟨W3, d1, hmu, HA⟩ := HB.out w4 _ (T2.out.drew.trans t4 (fun _ h => .inl h)) i4 (fun k hk => Nat.le_trans T2.out.size (k4 k hk)); clear i4 t4 k4)
  generalize w4.heap.size = x at *
  have HA0 := Lib.hid (HA.out.2.stand HN.out.2.2.2.1 HN.out.2.2.2.2.1 HN.out.2.2.2.2.2 (by simp) 0 (by unfold fit; omega))
  clear d1 hmu
  go_at_call 53
  refine HA0.out.mono ?_
  rintro e w5 ⟨rfl, b5⟩
  have B5 := Lib.hid b5
  have x2 := b5.item.1
  obtain ⟨N, hN⟩ : ∃ N, its.length = N := ⟨_, rfl⟩
  have HNn := Lib.hid hN
  have hN8 : N ≤ 8 := by rw [← hN]; exact HN.out.2.1
  rw [hN] at x2
  clear b5
  go_wp2
  go_loopg [11, 55] N (fun z s11 s55 wr => ∃ j : Nat, j ≤ N ∧ z = N - j ∧ s55 = .int .i64 (j : Int) ∧ Hid (BlockAt w c most tm lm (updI T t (some x)) (nT + 1) G r K x ⟨t, d, its⟩ (.slice iP N iC) (linesAt its j) wr))
  case atStart => exact ⟨0, by omega, by omega, rfl, Lib.hid (by rw [← HNn.out]; exact B5.out)⟩
  case round =>
    obtain ⟨j, hj, hz, rfl, HD⟩ := hrel
    by_cases hlt : j < N
    · have hjn : (j : Int) < (N : Int) := by omega
      obtain ⟨i, hi⟩ : ∃ i, its[j]? = some i := ⟨_, List.getElem?_eq_getElem (by rw [HNn.out]; exact hlt)⟩
      have hrow := HD.out.item.2
      obtain ⟨ga, go, gc, he, -⟩ := WRow.shape hrow (by show 0 < its.length; rw [HNn.out]; omega)
      simp only [Value.slice.injEq] at he
      obtain ⟨rfl, -, rfl⟩ := he
      obtain ⟨i0, i1⟩ := hrow.two hi
      have CS := Lib.hid (fun W' (t' : Turn NoBlock wr W') => (HD.out.past t').stand HN.out.2.2.2.1 HN.out.2.2.2.2.1 HN.out.2.2.2.2.2 (linesAt_len its j HN.out.2.1) i.o (HN.out.2.2.1 i (List.mem_of_getElem? hi)))
      have HI := Lib.hid hi
      clear hrow hi
      go_wp2_with (go_at_call 53; (with_reducible refine (CS.out _ ((Turn.refl NoBlock wr).alloc _)).mono ?_); rintro e w6 ⟨rfl, b6⟩; have B6 := Lib.hid b6; clear b6)
      go_roundg (N - (j + 1))
      case measure => omega
      case rel => exact ⟨j + 1, by omega, by omega, by go_num, Lib.hid (by rw [linesAt_succ HI.out]; exact B6.out)⟩
    · obtain rfl : j = N := by omega
      go_wp2
      go_ret
      refine ⟨rfl, x, HA.out.1, .slice iP j iC, ?_⟩
      have := HD.out
      unfold linesAt at this
      rw [List.take_of_length_le (by rw [HNn.out]; exact Nat.le_refl _)] at this
      exact this
end
end Go.Proofs.Ytabakjimlndhcaa
