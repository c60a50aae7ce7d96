/-
  The calls of a port in a law's state: New, Len, Watches, Watched, Queue, Take. No conditions but that an object is a number of 64 bits.
-/
import Derived.Test.YtcnellkoejhofaaQAdd
namespace Go.Proofs.Ytcnellkoejhofaa
open Go.ChangeShapes Go.WideShapes Go.ChangeAt Go.RowKit

theorem new_no (depth most : Int) (w : World) (h : depth < 1 ∨ most < 0 ∨ 65536 < depth ∨ 65536 < most) : Calls Try.prog 8 #[.int .i64 depth, .int .i64 most] w fun x w' => x = .returned (.pointer none) ∧ w = w' := by
  by_cases h1 : depth < 1
  · go_enter Try.func8, Try.ntmps8
    go_wp2
    go_ret
    exact ⟨rfl, rfl⟩
  · by_cases h2 : most < 0
    · go_enter Try.func8, Try.ntmps8
      go_wp2
      go_ret
      exact ⟨rfl, rfl⟩
    · have h3 : max depth most > 65536 := by omega
      have h4 : decide (max depth most > 65536) = true := by simpa using h3
      have h5 : 65536 < max depth most := h3
      clear h h3
      go_enter Try.func8, Try.ntmps8
      go_wp2
      all_goals
        go_ret
        exact ⟨rfl, rfl⟩
theorem new_yes (depth most : Int) (w : World) (h0 : 1 ≤ depth ∧ depth ≤ 65536) (h1 : 0 ≤ most ∧ most ≤ 65536) : Calls Try.prog 8 #[.int .i64 depth, .int .i64 most] w fun x w' => ∃ c, x = .returned (.pointer (some ⟨c, 0, none⟩)) ∧ PSt w w' c depth most [] [] NoBlock ∧ w.heap.size ≤ c ∧ c < w'.heap.size := by
  have n0 : ¬ depth < 1 := by omega
  have n1 : ¬ most < 0 := by omega
  have n2 : ¬ 65536 < max depth most := by omega
  have m0 := Wm.past (wm_made w) ((Turn.refl NoBlock (w.alloc (.map #[] 0))).alloc (.cells #[.int .i64 depth, .int .i64 most, .slice none 0 0, .int .i64 0, .map (some w.heap.size), .int .i64 0] 62))
  have b0 := heap_alloc_new (w.alloc (.map #[] 0)) (.cells #[.int .i64 depth, .int .i64 most, .slice none 0 0, .int .i64 0, .map (some w.heap.size), .int .i64 0] 62)
  have HM := Lib.hid m0
  have HB := Lib.hid b0
  have H01 := Lib.hid (And.intro h0 h1)
  clear m0 b0 h0 h1
  have hmm := @run_makeMap Try.prog
  go_enter Try.func8, Try.ntmps8
  go_wp2
  all_goals
    go_ret
    have hs : (w.alloc (.map #[] 0)).heap.size = w.heap.size + 1 := World.size_alloc _ _
    have hb := HB.out
    rw [hs] at hb
    refine ⟨w.heap.size + 1, rfl, ⟨⟨.slice none 0 0, w.heap.size, _, [], ⟨hb, wrow_nil _ _ _, HM.out⟩, fun k hk => ?_, fun k hk => hk.elim⟩, ⟨H01.out.1, H01.out.2, ?_, ?_, (fun t ht => by cases ht)⟩, ((Turn.refl _ w).alloc _).alloc _⟩, by omega, lt_of_block hb⟩
    · rcases hk with h | h | h | ⟨i, h⟩
      · omega
      · exact (blk_nil k h).elim
      · omega
      · exact (blk_nil k h).elim
    · have := H01.out.1; show (0 : Int) ≤ _; omega
    · have := H01.out.2; show (0 : Int) + (0 - 0) ≤ _; omega
section
variable {w0 w : World} {c : Nat} {depth most : Int} {Q : List Pk} {Ws : List Wc} {X : Nat → Prop}
theorem PSt.len (h : PSt w0 w c depth most Q Ws X) : Calls Try.prog 24 #[.pointer (some ⟨c, 0, none⟩)] w fun x w' => x = .returned (.int .i64 (Q.length : Int)) ∧ w = w' := by
  obtain ⟨v, b, V, K, h1, -⟩ := h.ex
  have c2 := h1.hd.c2
  obtain ⟨p, cap, rfl⟩ := WRow.sl h1.row
  have hl := h.ok.qlen
  generalize Q.length = n at *
  clear h h1
  go_enter Try.func24, Try.ntmps24
  go_wp2
  go_ret
  exact ⟨rfl, rfl⟩
theorem PSt.watches (h : PSt w0 w c depth most Q Ws X) : Calls Try.prog 25 #[.pointer (some ⟨c, 0, none⟩)] w fun x w' => x = .returned (.int .i64 (Ws.length : Int)) ∧ w = w' := by
  obtain ⟨v, b, V, K, h1, -⟩ := h.ex
  have c5 := h1.hd.c5
  clear h h1
  go_enter Try.func25, Try.ntmps25
  go_wp2
  go_ret
  exact ⟨rfl, rfl⟩
theorem PSt.watched (h : PSt w0 w c depth most Q Ws X) (o : Int) (ho : fit o) : Calls Try.prog 26 #[.pointer (some ⟨c, 0, none⟩), .int .i64 o] w fun x w' => x = .returned (.int .i64 ((ofO Ws o).length : Int)) ∧ w = w' := by
  obtain ⟨v, b, V, K, h1, -⟩ := h.ex
  have c4 := h1.hd.c4
  have hl := h1.wm.look ho
  obtain ⟨p, cap, hv⟩ := WRow.sl (h1.wm.rows o)
  rw [hv] at hl
  have hn : (ofO Ws o).length ≤ 65536 := Nat.le_trans (ofO_len Ws o) h.ok.wlen
  generalize (ofO Ws o).length = n at *
  clear h h1 hv ho
  go_enter Try.func26, Try.ntmps26
  go_wp2
  go_ret
  exact ⟨rfl, rfl⟩
theorem fired_any {v : Value} {b : Nat} {V : Int → Value} {K : List Int} (h1 : PM w c depth most v Q b V Ws K) (ok : POk depth most Q Ws) : Calls Try.prog 29 #[.pointer (some ⟨c, 0, none⟩)] w fun x w' => x = .returned (.int .i64 ((Q.length : Int) - (usersN Q : Int))) ∧ Turn NoBlock w w' := by
  have c2 := (h1.hd.past (Turn.refl NoBlock w).drew).c2
  have c3 := (h1.hd.past (Turn.refl NoBlock w).drew).c3
  obtain ⟨p, cap, rfl⟩ := WRow.sl h1.row
  have hl := ok.qlen
  have hu := usersN_le Q
  generalize usersN Q = u at *
  generalize Q.length = n at *
  clear h1 ok
  go_enter Try.func29, Try.ntmps29
  go_wp2
  go_region
  go_wp2
  go_ret
  exact ⟨ret_int (by go_num), (Turn.refl _ w).drew⟩
/-- Queue. -/
def queS (depth : Int) (Q : List Pk) : Int := if (usersN Q : Int) = depth then -22 else 0
def queL (depth : Int) (Q : List Pk) (k n : Int) : List Pk := if (usersN Q : Int) = depth then Q else Q ++ [⟨k, 0, n⟩]
theorem usersN_push (Q : List Pk) (p : Pk) : usersN (Q ++ [p]) = usersN Q + if p.s = 0 then 1 else 0 := by
  unfold usersN
  rw [List.countP_append]
  by_cases h : p.s = 0 <;> simp [h]
end
end Go.Proofs.Ytcnellkoejhofaa
