/-
  What Advance makes of the document's own timers. Conditions: none but that the clock is one that calls can make.
-/
import Derived.Test.YtcbphfpfdfgehaaTRef
import Derived.Test.YtcbphfpfdfgehaaTAdv2
namespace Go.Proofs.Ytcbphfpfdfgehaa
open Go.ChangeShapes Go.WideShapes Go.ChangeAt Go.RowKit

theorem elemR : Try.prog.elem 57 = 74 := by kernel_rfl
theorem sizeR : ∀ w, (Go.sizeOf 74).run Try.prog w = .ok 2 w := fun w => by kernel_rfl
section
variable {w w' : World} {x : Nat} {v v' : Value} {most now : Int} {L L' : List En}
theorem RM.clock (h : RM w x v most now L) (t' : Int) : RM (w.setCell ⟨x, 2, none⟩ (.int .i64 t')) x v most t' L ∧ Turn (fun k => k = x) w (w.setCell ⟨x, 2, none⟩ (.int .i64 t')) := by
  have other : ∀ j, j ≠ 2 → (w.setCell ⟨x, 2, none⟩ (.int .i64 t')).cell? ⟨x, j, none⟩ = w.cell? ⟨x, j, none⟩ := fun j hj => World.cell?_setCell_other _ _ _ _ (fun e => hj (by (try simp at e) <;> omega))
  have tc : Turn (fun k => k = x) w (w.setCell ⟨x, 2, none⟩ (.int .i64 t')) := (Turn.refl (fun k => k = x) w).setCell (p := ⟨x, 2, none⟩) (.inl rfl) _
  refine ⟨⟨(other 0 (by omega)).trans h.c0, (other 1 (by omega)).trans h.c1, ?_, h.typ.set 2 _ x, h.row.kept tc (fun k hk => h.vx hk), h.len⟩, tc⟩
  obtain ⟨cur, hcur⟩ := h.typ
  rw [cell_at (set_at hcur 2 _)]
  have h2 := h.c2
  rw [cell_at hcur] at h2
  have : 2 < cur.size := by
    rcases Nat.lt_or_ge 2 cur.size with h3 | h3
    · exact h3
    · rw [Array.getElem?_eq_none h3] at h2; cases h2
  simp [this]
/-- Without the first. -/
theorem rrow_tail {g o n c : Nat} {a : En} {r : List En} (h : RRow (.slice (some ⟨g, o, none⟩) n c) (a :: r) w) (hn : n = r.length + 1) :
    ∃ D, (∀ w, Sem.run Try.prog (Instr.slice 57 (.slice (some ⟨g, o, none⟩) n c) (some (.int .i64 1)) none none) w = .ok (.slice D r.length (c - 1)) w) ∧ RRow (.slice D r.length (c - 1)) r w ∧ ∀ k, Blk (.slice D r.length (c - 1)) k → k = g := by
  have hs := WRow.shape h (by simp)
  obtain ⟨g', o', c', he, hnc, hcm, ht, hc, hso⟩ := hs
  simp only [Value.slice.injEq, Option.some.injEq, Addr.mk.injEq, and_true] at he
  obtain ⟨⟨rfl, rfl⟩, hn', rfl⟩ := he
  rw [List.length_cons] at hnc hc
  obtain ⟨D, hrun, h1, h2⟩ := sl_lo 57 2 (by rw [elemR]; exact resT) (by rw [elemR]; exact sizeR) g o n c 1 (by omega) (by omega)
  have e1 : n - 1 = r.length := by omega
  rw [e1] at hrun
  refine ⟨D, hrun, ?_, fun k hk => ?_⟩
  · unfold RRow
    refine ⟨by rw [ecells_len, List.length_map], ?_⟩
    have hcell : ∀ j, j < r.length * 2 → w.cell? ⟨g, o + (1 * 2 + j), none⟩ = (ecells (r.map flp))[j]? := fun j hj => by
      rw [hc (1 * 2 + j) (by omega), List.map_cons, ecells_cons, List.getElem?_append_right (by show 2 ≤ _; omega)]
      congr 1
      show 1 * 2 + j - 2 = j
      omega
    rcases Nat.lt_or_ge 1 c with h3 | h3
    · rw [h1 h3]
      refine .inr ⟨g, o + 1 * 2, c - 1, rfl, by omega, by omega, ht, fun j hj => ?_, fun j hj => ?_⟩
      · rw [Nat.add_assoc]; exact hcell j hj
      · rw [Nat.add_assoc]; exact hso _ (by omega)
    · have h4 : c = 1 := by omega
      have h5 : r.length = 0 := by omega
      rw [h2 h4]
      refine .inr ⟨g, o, c - 1, rfl, by omega, by omega, ht, fun j hj => by omega, fun j hj => by omega⟩
  · rcases Nat.lt_or_ge 1 c with h3 | h3
    · rw [h1 h3] at hk
      simpa [Blk, Value.ownBlock, eq_comm] using hk
    · rw [h2 (by omega)] at hk
      simpa [Blk, Value.ownBlock, eq_comm] using hk
set_option maxRecDepth 20000 in
theorem radv_no (h : RM w x v most now L) (hnow : 0 ≤ now ∧ now ≤ 1099511627776) (n : Int) (hn : n < 0 ∨ 1099511627776 - now < n) :
    Calls Try.prog 29 #[.pointer (some ⟨x, 0, none⟩), .int .i64 n] w fun r w' => r = .returned (.tuple #[.slice none 0 0, .int .i64 (-10)]) ∧ w = w' := by
  have c2 := h.c2
  have ew : IntKind.i64.wrap (1099511627776 - now) = 1099511627776 - now := wrap_fit' _ (by unfold fit; omega)
  clear h
  by_cases h0 : n < 0
  · clear hn
    go_enter Try.func29, Try.ntmps29
    go_wp2
    go_ret2
    exact ⟨rfl, rfl⟩
  · have h2 : 1099511627776 - now < n := by omega
    have hd : decide (n < 0) = false := by simpa using h0
    have hd2 : decide (1099511627776 - now < n) = true := by simpa using h2
    clear hn
    go_enter Try.func29, Try.ntmps29
    go_wp2
    go_ret2
    exact ⟨rfl, rfl⟩
set_option maxRecDepth 20000 in
set_option maxHeartbeats 2000000 in
theorem radv_yes (h : RM w x v most now L) (hnow : 0 ≤ now ∧ now ≤ 1099511627776) (n now' : Int) (h0 : 0 ≤ n) (hn : now + n = now') (hm : now' ≤ 1099511627776) :
    Calls Try.prog 29 #[.pointer (some ⟨x, 0, none⟩), .int .i64 n] w fun r w' => ∃ u v', r = .returned (.tuple #[u, .int .i64 0]) ∧ Nums u (keysOf (gone L now')) w' ∧ RM w' x v' most now' (rest L now') ∧ (∀ k, Blk v' k → Blk v k) ∧ Turn (fun k => k = x) w w' ∧ ∀ k, Blk u k → w.heap.size ≤ k := by
  obtain ⟨i3, hi3, hz3, hs3, hb3⟩ := info_parts infoI
  have HI := Lib.hid (And.intro hi3 (And.intro hz3 (And.intro hs3 hb3)))
  have c2 := h.c2
  have f2 := h.typ.free 2
  have ew : IntKind.i64.wrap (1099511627776 - now) = 1099511627776 - now := wrap_fit' _ (by unfold fit; omega)
  have ew2 : IntKind.i64.wrap (now + n) = now' := by rw [hn]; exact wrap_fit' _ (by unfold fit; omega)
  have hd : decide (n < 0) = false := by simpa using h0
  have hd2 : decide (1099511627776 - now < n) = false := by simp; omega
  have HK := Lib.hid (h.clock now')
  have HL := Lib.hid (And.intro h.len h)
  clear h h0 hn hm hi3 hz3 hs3 hb3
  go_enter Try.func29, Try.ntmps29
  go_wp2
  go_loopg [6] L.length (fun z s6 wr => ∃ (j : Nat) (u v' : Value), z = L.length - j ∧ j ≤ L.length ∧ s6 = u ∧ Hid ((∀ e ∈ L.take j, e.d ≤ now') ∧ Nums u (keysOf (L.take j)) wr ∧ RM wr x v' most now' (L.drop j) ∧ (∀ k, Blk v' k → Blk v k) ∧ Turn (fun k => k = x) w wr ∧ ∀ k, Blk u k → w.heap.size ≤ k))
  case atStart => exact ⟨0, _, v, rfl, Nat.zero_le _, rfl, Lib.hid ⟨(fun e he => by simp at he), wrow_nil _ _ _, HK.out.1, fun _ hk => hk, HK.out.2, fun k hk => (blk_nil k hk).elim⟩⟩
  case round =>
    obtain ⟨j, u, v', hz, hj, rfl, HR⟩ := hrel
    obtain ⟨pu, cu, hu⟩ := WRow.sl HR.out.2.1
    subst hu
    obtain ⟨pv, cv, hv⟩ := WRow.sl HR.out.2.2.1.row
    subst hv
    have d0 := HR.out.2.2.1.c0
    have d2 := HR.out.2.2.1.c2
    cases hL : L.drop j with
    | nil =>
      rw [hL] at d0
      simp only [List.length_nil] at d0
      have HG := Lib.hid (gone_at hj HR.out.1 (fun a r e => by rw [hL] at e; cases e))
      clear hL
      go_wp2
      go_quiet (fail)
      go_wp2
      go_ret2
      refine ⟨_, _, rfl, ?_, ?_, HR.out.2.2.2.1, HR.out.2.2.2.2.1.drewN _, HR.out.2.2.2.2.2⟩
      · rw [HG.out.1]; exact HR.out.2.1.past ((Turn.refl _ _).drewN _)
      · rw [HG.out.2]; exact HR.out.2.2.1.past ((Turn.refl _ _).drewN _)
    | cons a r =>
      have hs := HR.out.2.2.1
      rw [hL] at hs d0
      rw [List.length_cons] at d0
      obtain ⟨g, o, hpv, d3, d4⟩ := RRow.two (j := 0) (e := a) hs.row rfl
      subst hpv
      simp only [Nat.zero_mul, Nat.add_zero] at d3 d4
      obtain ⟨t1, t2, t3, t4⟩ := take_keys hL
      have hrl : r.length + 1 ≤ 65537 := by
        have : (L.drop j).length = r.length + 1 := by rw [hL]; rfl
        rw [List.length_drop] at this
        have := HL.out.1
        omega
      have hgt : (0 : Int) < (r.length : Int) + 1 := by omega
      have hgt2 : 0 < r.length + 1 := by omega
      by_cases hdue : a.d ≤ now'
      · obtain ⟨D, hrun, hr2, hb2⟩ := rrow_tail (n := r.length + 1) hs.row rfl
        obtain ⟨m, hm⟩ : ∃ m, (keysOf (L.take j)).length = m := ⟨_, rfl⟩
        have hml : m ≤ 65537 := by
          have : m = (L.take j).length := by rw [← hm]; unfold keysOf; rw [List.length_map]
          rw [this, List.length_take]
          have := HL.out.1
          omega
        have HA := Lib.hid (And.intro hdue (And.intro t1 (And.intro t2 (And.intro t3 t4))))
        have HRO := Lib.hid (fun nq => show WRow ((wr.drewN nq).alloc (.cells #[.int .i64 a.k] 3)) 3 1 (.slice pu m cu) m (icells (keysOf (L.take j))) from by
          have := HR.out.2.1.past (((Turn.refl NoBlock wr).drewN nq).alloc (.cells #[.int .i64 a.k] 3))
          unfold Nums at this
          rw [hm] at this
          exact this)
        have HSR := Lib.hid (fun nq => Rd.src (rd_new (wr.drewN nq) 3 1 #[.int .i64 a.k] rfl) 36 3 intsT (icells_one [a.k]))
        have HB := Lib.hid (And.intro (show m + 1 ≤ maxLen by unfold maxLen; omega) (show (m + 1) * 8 ≤ 140737488355328 by omega))
        have hxw : x < w.heap.size := HL.out.2.lt (.inl rfl)
        have hgw : g < w.heap.size := HL.out.2.lt (.inr (HR.out.2.2.2.1 g (blk_slice (show Blk (.slice (some ⟨g, o, none⟩) 0 0) g from rfl))))
        have hul : ∀ q, Blk (.slice pu m cu) q → w.heap.size ≤ q := fun q hq => HR.out.2.2.2.2.2 q (blk_slice hq)
        have KT := Lib.hid (fun (nq : Nat) (W7 : World) (t7 : Turn (Blk (.slice pu m cu)) ((wr.drewN nq).alloc (.cells #[.int .i64 a.k] 3)) W7) => show (W7.cell? ⟨x, 0, none⟩ = some (.slice (some ⟨g, o, none⟩) (r.length + 1) cv) ∧ W7.frozen? ⟨x, 0, none⟩ = false) ∧ RM (W7.setCell ⟨x, 0, none⟩ (.slice D r.length (cv - 1))) x (.slice D r.length (cv - 1)) most now' r ∧ Turn (fun k => k = x) w (W7.setCell ⟨x, 0, none⟩ (.slice D r.length (cv - 1))) ∧ ∀ k, Blk (.slice D r.length (cv - 1)) k → Blk v k from by
          have hno : ∀ k, (k = x ∨ k = g) → ¬ Blk (.slice pu m cu) k := fun k hk hq => by have := hul k hq; omega
          have ta := ((Turn.refl NoBlock wr).drewN nq).alloc (.cells #[.int .i64 a.k] 3)
          have m7 : RM W7 x _ most now' (a :: r) := (hs.past ta).kept t7 (fun k hk => hno k (hk.elim .inl (fun h => .inr (by simpa [Blk, Value.ownBlock, eq_comm] using h))))
          have r7 : RRow (.slice D r.length (cv - 1)) r W7 := (hr2.past ta).kept t7 (fun k hk => hno k (.inr (hb2 k hk)))
          obtain ⟨q1, q2⟩ := m7.lay (Turn.refl _ _) r7 (by omega)
          refine ⟨⟨m7.c0, m7.typ.free 0⟩, q1, ?_, fun k hk => ?_⟩
          · exact ((HR.out.2.2.2.2.1.trans ta (fun _ h => h.elim)).trans t7 (fun k hk => .inr (hul k hk))).trans q2 (fun _ h => .inl h)
          · rw [hb2 k hk]
            exact HR.out.2.2.2.1 g (blk_slice (show Blk (.slice (some ⟨g, o, none⟩) 0 0) g from rfl)))
        obtain ⟨hi3, hz3, hs3, hb3⟩ := HI.out
        have HHI := Lib.hid (And.intro hi3 (And.intro hz3 (And.intro hs3 hb3)))
        have HM := Lib.hid hm
        have hun : wr.heap.size = wr.heap.size := rfl
        rw [hm] at HR ⊢
        have gd : decide (a.d ≤ now') = true := by simpa using hdue
        generalize hrl' : r.length = rl at *
        clear hs hL t1 t2 t3 t4 hdue hi3 hz3 hs3 hb3 hm hrl' hr2 hb2 hul hun
        go_wp2
        go_quiet (fail)
        go_wp2_with (first
          | (at_builtin; refine wpList_append_w rfl (.tmp 46) (.tmp 54) 36 36 rfl (HRO.out _) i3 _ 8 intsT HHI.out.1 HHI.out.2.1 HHI.out.2.2.1 HHI.out.2.2.2 rfl rfl rfl (HSR.out _) HB.out.1 HB.out.2 ?_; intro v7 W7 r7 t7 k7; obtain ⟨⟨z0, z1⟩, zz⟩ := KT.out _ W7 t7; have S7 := Lib.hid zz; have R7 := Lib.hid (And.intro r7 k7); clear r7 t7 k7 zz))
        go_roundg (L.length - (j + 1))
        case measure => have := HA.out.2.2.2.1; omega
        case rel =>
          obtain ⟨q1, q2, q3, q4, q5⟩ := HA.out
          refine ⟨j + 1, v7, _, rfl, by omega, rfl, Lib.hid ⟨fun e he => ?_, ?_, by rw [q3]; exact S7.out.1, S7.out.2.2, S7.out.2.1, fun k hk => ?_⟩⟩
          · rw [q5] at he
            rcases List.mem_append.1 he with h1 | h1
            · exact HR.out.1 e h1
            · rw [List.mem_singleton] at h1
              rw [h1]; exact q1
          · have hr7 := R7.out.1
            unfold Nums
            rw [q2, List.length_append, HM.out, List.length_singleton]
            have hx7 : ∀ k, Blk v7 k → ¬ k = x := fun k hk => by
              rcases R7.out.2 k hk with h1 | h1
              · have := HR.out.2.2.2.2.2 k (blk_slice h1); omega
              · have h2 := HR.out.2.2.2.2.1.size
                have h3 : k = wr.heap.size + 1 := by rw [h1.1, World.size_alloc]; rfl
                omega
            have := WRow.kept hr7 ((Turn.refl (fun k => k = x) _).setCell (p := ⟨x, 0, none⟩) (.inl rfl) (.slice D rl (cv - 1))) hx7
            unfold icells at this ⊢
            rw [List.map_append]
            exact this
          · rcases R7.out.2 k hk with h1 | h1
            · exact HR.out.2.2.2.2.2 k (blk_slice h1)
            · have h2 := HR.out.2.2.2.2.1.size
              have h3 : k = wr.heap.size + 1 := by rw [h1.1, World.size_alloc]; rfl
              omega
      · have HG := Lib.hid (gone_at hj HR.out.1 (fun a' r' e => by rw [hL] at e; injection e with e1 e2; rw [← e1]; exact hdue))
        have gd : decide (a.d ≤ now') = false := by simpa using hdue
        generalize r.length = rl at *
        clear hs hL t1 t2 t3 t4 hdue
        go_wp2
        go_quiet (fail)
        go_wp2
        go_ret2
        refine ⟨_, _, rfl, ?_, ?_, HR.out.2.2.2.1, HR.out.2.2.2.2.1.drewN _, HR.out.2.2.2.2.2⟩
        · rw [HG.out.1]; exact HR.out.2.1.past ((Turn.refl _ _).drewN _)
        · rw [HG.out.2]; exact HR.out.2.2.1.past ((Turn.refl _ _).drewN _)
end
end Go.Proofs.Ytcbphfpfdfgehaa
