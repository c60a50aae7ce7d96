/-
  One more task: add. Conditions: the tree's head and slice lie in memory, and there are no more tasks than a million.
-/
import Derived.Test.YtabakjimlndhcaaTkPush
import Derived.Deep.RegionHeld3
import Derived.Deep.RegionLaw
namespace Go.Proofs.Ytabakjimlndhcaa
open Go.ChangeShapes Go.WideShapes Go.ChangeAt Go.RowKit

theorem step_append_run {w : World} {ops : Array Oper} {o : Oper} {a : Act} {K : Act → World → Prop} {Q : Exit → Act → World → Prop} {E : Prop} (hgd : o.guard = none) (s x : Operand) (t tx : TypeId)
    (ho : o.op = .call { callee := .builtin .append, args := #[s, x], argTypes := #[t, tx] }) (vs vx : Value) (hs : a.eval s = vs) (hx : a.eval x = vx)
    (v' : Value) (w' : World) (hr : (Builtin.append_ #[t, tx] o.type #[vs, vx]).run Try.prog w = .ok v' w') (h : K (a.put o.dst v') w') : if Region.wanted o (yielded ops a.tmps) = true then Oper.wp Try.prog o a w K Q else E := by
  have hw : Region.wanted o (yielded ops a.tmps) = true := by simp [Region.wanted, hgd]
  rw [if_pos hw]
  exact Lib.wp_append_run w s x t tx ho vs vx hs hx v' w' hr h
theorem tasksT : Try.prog.underlying 123 = some (.slice 132) := by kernel_rfl
theorem infoPt : (Try.prog.info? 132).map (fun i => (i.zero, i.size, i.bytes)) = some (some (.pointer none), 1, 8) := by kernel_rfl
def Tk.agg (t : Tk) : Value := .agg #[.int .i64 t.kind, .int .i64 t.par, .int .i64 t.st, .int .i64 t.code, .int .i64 t.pol, .int .i64 t.crit]
theorem bcells_len (B : Nat → Nat) (n : Nat) : (bcells B n).length = n := by simp [bcells]
theorem bcells_push (B : Nat → Nat) (n b : Nat) : bcells B n ++ [tp b] = bcells (updN B n b) (n + 1) := by
  unfold bcells
  rw [List.range_succ, List.map_append, List.map_singleton, updN_same]
  congr 1
  exact List.map_congr_left (fun j hj => by rw [updN_other]; have := List.mem_range.1 hj; omega)
/-- What add has made. -/
structure AddM (w w' : World) (c : Nat) (most live : Int) (n : Nat) (sv sv' : Value) (B : Nat → Nat) (b : Nat) (t : Tk) : Prop where
  head : w'.heap[c]? = some (.cells #[.int .i64 most, .int .i64 (live + 1), sv'] 125 (0, 0))
  row : WRow w' 132 1 sv' (n + 1) (bcells (updN B n b) (n + 1))
  obj : w'.heap[b]? = some (.cells (tkc t (.slice none 0 0) 0 0) 136 (0, 0))
  new : w.heap.size ≤ b
  blk : ∀ k, Blk sv' k → Blk sv k ∨ w.heap.size ≤ k
  turn : Turn (fun k => k = c ∨ Blk sv k) w w'
section
variable {w w' : World} {c n p q j i : Nat} {most live code : Int} {T T' : Nat → Tk} {sv : Value} {B : Nat → Nat} {V : Nat → Value} {G G' : Nat → Nat}
set_option maxRecDepth 20000 in
set_option maxHeartbeats 2000000 in
theorem add_any (hh : w.heap[c]? = some (.cells #[.int .i64 most, .int .i64 live, sv] 125 (0, 0))) (hr : WRow w 132 1 sv n (bcells B n)) (hn : n ≤ 1000000) (hl : 0 ≤ live ∧ live ≤ 1000000) (t : Tk) :
    Calls Try.prog 63 #[tp c, t.agg] w fun x w' => x = .returned (.int .i64 ((n : Int) + 1)) ∧ ∃ sv' b, AddM w w' c most live n sv sv' B b t := by
  obtain ⟨tk, tpa, ts, tc, tpo, tcr⟩ := t
  obtain ⟨iP, hiP, hzP, hsP, hbP⟩ := info_one infoPt
  have hct : TBlk w c 125 := ⟨_, hh⟩
  have hvc : ¬ Blk sv c := fun hk => ((hr.typed hk).unlike hct (by decide)) rfl
  obtain ⟨W, hW⟩ : ∃ W, w.alloc (.cells #[.int .i64 tk, .int .i64 tpa, .int .i64 ts, .int .i64 tc, .int .i64 tpo, .int .i64 tcr] 76) = W := ⟨_, rfl⟩
  have tW : Turn NoBlock w W := by rw [← hW]; exact (Turn.refl _ w).alloc _
  have hsz : W.heap.size = w.heap.size + 1 := by rw [← hW]; simp
  have hbox : W.heap[w.heap.size]? = some (.cells #[.int .i64 tk, .int .i64 tpa, .int .i64 ts, .int .i64 tc, .int .i64 tpo, .int .i64 tcr] 76 (0, 0)) := by rw [← hW]; exact heap_alloc_new w _
  obtain ⟨W2, hW2⟩ : ∃ W2, W.drew.alloc (.cells (tkc ⟨tk, tpa, ts, tc, tpo, tcr⟩ (.slice none 0 0) 0 0) 136) = W2 := ⟨_, rfl⟩
  have t2 : Turn NoBlock w W2 := by rw [← hW2]; exact (tW.drew).alloc _
  have hs2 : W2.heap.size = w.heap.size + 2 := by rw [← hW2, World.size_alloc]; show W.heap.size + 1 = _; omega
  have hnew : W2.heap[w.heap.size + 1]? = some (.cells (tkc ⟨tk, tpa, ts, tc, tpo, tcr⟩ (.slice none 0 0) 0 0) 136 (0, 0)) := by
    rw [← hW2, ← hsz]; exact heap_alloc_new W.drew _
  obtain ⟨WA, hWA⟩ : ∃ WA, W2.alloc (.cells #[.pointer (some ⟨w.heap.size + 1, 0, none⟩)] 132) = WA := ⟨_, rfl⟩
  have tA : Turn NoBlock w WA := by rw [← hWA]; exact t2.alloc _
  have tA2 : Turn NoBlock W2 WA := by rw [← hWA]; exact (Turn.refl _ _).alloc _
  have hrd : Rd WA 1 (.slice (some ⟨W2.heap.size, 0, none⟩) 1 1) 1 [tp (w.heap.size + 1)] := by rw [← hWA]; exact rd_new W2 132 1 _ rfl
  obtain ⟨v', W1, hap, h1, h2, h3⟩ := WRow.append (hr.past tA) 123 123 iP _ 8 tasksT hiP hzP hsP hbP rfl (hrd.src 123 132 tasksT (by intro u hu; rw [List.mem_singleton] at hu; subst hu; rfl)) (by unfold maxLen; omega) (by omega)
  obtain ⟨pp, pc, rfl⟩ := h1.sl
  rw [bcells_push] at h1
  have hbc : w.heap.size + 1 ≠ c := by have := hct.lt; omega
  have hc1 : W1.heap[c]? = some (.cells #[.int .i64 most, .int .i64 live, sv] 125 (0, 0)) := h2.heap (tA.heap hh (fun h => h)) hvc
  have hb1 : W1.heap[w.heap.size + 1]? = some (.cells (tkc ⟨tk, tpa, ts, tc, tpo, tcr⟩ (.slice none 0 0) 0 0) 136 (0, 0)) := h2.heap (tA2.heap hnew (fun h => h)) (fun hk => by have := hr.lt hk; omega)
  have hblk : ∀ k, Blk (.slice pp (n + 1) pc) k → Blk sv k ∨ w.heap.size ≤ k := fun k hk => (h3 k hk).imp id (fun e => by have := tA.size; omega)
  have hs := set_at (set_at hc1 2 (.slice pp (n + 1) pc)) 1 (.int .i64 (live + 1))
  have HR := Lib.hid (show AddM w ((W1.setCell ⟨c, 2, none⟩ (.slice pp (n + 1) pc)).setCell ⟨c, 1, none⟩ (.int .i64 (live + 1))) c most live n sv (.slice pp (n + 1) pc) B (w.heap.size + 1) ⟨tk, tpa, ts, tc, tpo, tcr⟩ from by
    have tt : Turn (fun k => k = c) W1 ((W1.setCell ⟨c, 2, none⟩ (.slice pp (n + 1) pc)).setCell ⟨c, 1, none⟩ (.int .i64 (live + 1))) :=
      ((Turn.refl (fun k => k = c) W1).setCell (p := ⟨c, 2, none⟩) (.inl rfl) _).setCell (p := ⟨c, 1, none⟩) (.inl rfl) _
    refine ⟨by simpa using hs, h1.kept tt (fun k hk e => ?_), tt.heap hb1 hbc, by omega, hblk, ?_⟩
    · subst e
      rcases hblk k hk with h4 | h4
      · exact hvc h4
      · have := hct.lt; omega
    · exact ((tA.mono (G := fun k => k = c ∨ Blk sv k) (fun _ h => h.elim)).trans (h2.mono (G := fun k => k = c ∨ Blk sv k) (fun k hk => .inl (.inr hk))) (fun k hk => .inl hk)).trans tt (fun k hk => .inl (.inl hk)))
  have d2 : W.drew.cell? ⟨c, 2, none⟩ = some sv := by simpa using cell_at (tW.drew.heap hh (fun h => h)) 2
  have e2 : W2.cell? ⟨c, 2, none⟩ = some sv := by simpa using cell_at (t2.heap hh (fun h => h)) 2
  have a2 : WA.cell? ⟨c, 2, none⟩ = some sv := by simpa using cell_at (tA.heap hh (fun h => h)) 2
  have c12 : W1.cell? ⟨c, 2, none⟩ = some sv := by simpa using cell_at hc1 2
  have c11 : W1.cell? ⟨c, 1, none⟩ = some (.int .i64 live) := by simpa using cell_at hc1 1
  have f2 := free_at hc1 2
  have f1 := free_at hc1 1
  have b0 : W.drew.cell? ⟨w.heap.size, 0, none⟩ = some (.int .i64 tk) := cell_at (w := W.drew) hbox 0
  have b1 : W.drew.cell? ⟨w.heap.size, 1, none⟩ = some (.int .i64 tpa) := cell_at (w := W.drew) hbox 1
  have b2 : W.drew.cell? ⟨w.heap.size, 2, none⟩ = some (.int .i64 ts) := cell_at (w := W.drew) hbox 2
  have b3 : W.drew.cell? ⟨w.heap.size, 3, none⟩ = some (.int .i64 tc) := cell_at (w := W.drew) hbox 3
  have b4 : W.drew.cell? ⟨w.heap.size, 4, none⟩ = some (.int .i64 tpo) := cell_at (w := W.drew) hbox 4
  have b5 : W.drew.cell? ⟨w.heap.size, 5, none⟩ = some (.int .i64 tcr) := cell_at (w := W.drew) hbox 5
  have hgs : W.drew.heap.size = w.heap.size + 1 := hsz
  obtain ⟨qp, qc, rfl⟩ := hr.sl
  unfold Tk.agg tp
  replace hW2 : W.drew.alloc (.cells #[.int .i64 tk, .int .i64 tpa, .int .i64 ts, .int .i64 tc, .int .i64 tpo, .int .i64 tcr, .slice none 0 0, .int .i64 0, .int .i64 0] 136) = W2 := hW2
  rw [hs2] at hap
  clear hh hr hct hvc tW hsz hbox t2 hnew tA tA2 hrd h1 h2 h3 hc1 hb1 hblk hs hzP hiP hsP hbP
  go_enter Try.func63, Try.ntmps63
  go_wp2_with fail
  go_region_law (first
    | (refine step_append_run (by rfl) (.tmp 9) (.tmp 13) 123 123 (by rfl) _ _ (by rfl) (by rfl) _ _ (hap _) ?_))
  all_goals
    go_wp2
    go_ret
    exact ⟨rfl, _, _, HR.out⟩
end
end Go.Proofs.Ytabakjimlndhcaa
