/-
  What a line tells, round by round: who stands in it, from the first on, whoever of those that it has told is dropped meanwhile. No conditions but that the line lies in memory.
-/
import Derived.Test.YtabakjimlndhcaaBRange
import Derived.OwnWalkIn
import Derived.TacticsInMore
import Derived.LoopNIn
import Derived.LoopIn
import Derived.OrdersIn
import Derived.Sort.QuietIn
import Derived.Deep.DeepCutAuto
import Derived.RegionIn
import Derived.Stop.RegionWithIn
import Derived.BigRegionIn
namespace Go.Proofs.Ytabakjimlndhcaa
open Go.ChangeShapes Go.WideShapes Go.ChangeAt Go.RowKit Go.Shelf

attribute [local go_sem] Oper.semAt_some

/-- The place with number i of those told; behind the last the root. -/
def nxtP (r : Nat) (ps : List (Nat × Nat)) (i : Nat) : Nat := ((ps[i]?).map Prod.fst).getD r
/-- What the way reads, behind the first k. -/
structure LSee (Ba Bb c : Nat) (n : Int) (r : Nat) (ps : List (Nat × Nat)) (k : Nat) (W : World) : Prop where
  ba : W.heap[Ba]? = some (.cells #[.pointer (some ⟨c, 0, none⟩)] 23 (0, 0))
  bb : W.heap[Bb]? = some (.cells #[.int .i64 n] 3 (0, 0))
  ne : ∀ e ∈ ps, e.1 ≠ r
  tail : ∀ i e, k ≤ i → ps[i]? = some e → TBlk W r 149 ∧ TBlk W e.1 149 ∧ W.cell? ⟨e.1, 1, none⟩ = some (ptr e.2) ∧ W.cell? ⟨e.1, 3, none⟩ = some (ptr (nxtP r ps (i + 1)))
  first : k = 0 → ∃ lm, W.cell? ⟨c, 2, none⟩ = some (.map (some lm)) ∧
    ((ps = [] ∧ (∀ q, Sem.run Try.prog (Instr.lookup 96 (.map (some lm)) (.int .i64 n) true) (W.drewN q) = .ok (.tuple #[.pointer none, .bool false]) (W.drewN q))) ∨
    ((∀ q, Sem.run Try.prog (Instr.lookup 96 (.map (some lm)) (.int .i64 n) true) (W.drewN q) = .ok (.tuple #[.pointer (some ⟨r, 0, none⟩), .bool true]) (W.drewN q)) ∧ TBlk W r 149 ∧ W.cell? ⟨r, 3, none⟩ = some (ptr (nxtP r ps 0))))
theorem grown_turn {w w' : World} (t : Turn NoBlock w w') : w.grownBy w' none := ⟨t.os, t.tape, t.output, t.size, fun k hk _ => t.block k hk (fun h => h)⟩
theorem own_turn {A : Type} {B : Nat} {J : A → World → Prop} (h : OwnFrom B J) {s : A} {X Y : World} (hs : J s X) (t : Turn NoBlock X Y) : J s Y :=
  h s X Y none hs (grown_turn t) (fun r e => by cases e)
theorem round_wide {m m' : Nat} {l : Nat} {f : FuncId} {tmps : Array Value} {assign body : Code} {w : World} {R : Ending → World → Prop} (h : RoundIn Fence.wide m Try.prog l f tmps assign body w R) : RoundIn Fence.wide m' Try.prog l f tmps assign body w R :=
  ⟨h.1, fun c cs _ => h.2 c cs (fun d hd => by cases hd)⟩

set_option maxRecDepth 100000 in
set_option maxHeartbeats 4000000 in
theorem line_gives (Ba Bb c : Nat) (n : Int) (r : Nat) (ps : List (Nat × Nat)) :
    Gives 82 #[.pointer (some ⟨Ba, 0, none⟩), .pointer (some ⟨Bb, 0, none⟩)] (fun e : Nat × Nat => #[ptr e.2]) (fun pre e => ps[pre.length]? = some e) (fun xs => xs.length = ps.length) (fun _ => True) (fun pre W => LSee Ba Bb c n r ps pre.length W) := by
  intro l J Jx W hJ hJx hJR hY h0
  have hQ := hJR [] W h0
  have b0 : W.cell? ⟨Ba, 0, none⟩ = some (.pointer (some ⟨c, 0, none⟩)) := cell_at hQ.ba 0
  have b1 : W.cell? ⟨Bb, 0, none⟩ = some (.int .i64 n) := cell_at hQ.bb 0
  obtain ⟨lm, c2, hcase⟩ := hQ.first rfl
  have HJ := Lib.hid hJ
  have HX := Lib.hid hJx
  have HR := Lib.hid hJR
  have HY := Lib.hid hY
  have H0 := Lib.hid h0
  have HN := Lib.hid hQ.ne
  clear hQ hJ hJx hJR hY h0
  refine (callsIn_wide (n := 6)).1 ?_
  rcases hcase with ⟨rfl, hlk⟩ | ⟨hlk, tr, r3⟩
  · have l1 : Sem.run Try.prog (Instr.lookup 96 (.map (some lm)) (.int .i64 n) true) W.drew = .ok (.tuple #[.pointer none, .bool false]) W.drew := hlk 1
    clear hlk
    refine callsIn_of_wp (F := Fence.wide) Try.func82 rfl trivial ?_ rfl
    simp only [Try.ntmps82, List.size_toArray, List.length_cons, List.length_nil, Nat.reduceAdd, Nat.reduceSub, Array.replicate_succ, Array.replicate_zero, List.push_toArray, List.append_toArray, List.nil_append, List.cons_append]
    gi_wp2
    gi_region
    gi_wp2
    refine bodyPost_ret (results_none rfl _ _ _) rfl ?_
    exact ⟨⟨_, rfl⟩, .inl ⟨[], rfl, own_turn HJ.out H0.out (Turn.refl _ W).drew⟩⟩
  · have l1 : Sem.run Try.prog (Instr.lookup 96 (.map (some lm)) (.int .i64 n) true) W.drew = .ok (.tuple #[.pointer (some ⟨r, 0, none⟩), .bool true]) W.drew := hlk 1
    unfold ptr at r3
    clear hlk tr
    obtain ⟨N, hN⟩ : ∃ N, ps.length = N := ⟨_, rfl⟩
    have HL := Lib.hid hN
    clear hN
    refine callsIn_of_wp (F := Fence.wide) Try.func82 rfl trivial ?_ rfl
    simp only [Try.ntmps82, List.size_toArray, List.length_cons, List.length_nil, Nat.reduceAdd, Nat.reduceSub, Array.replicate_succ, Array.replicate_zero, List.push_toArray, List.append_toArray, List.nil_append, List.cons_append]
    gi_wp2
    gi_region
    gi_wp2
    gi_loopg [6, 7] N (fun z s6 s7 wr => ∃ (j : Nat) (pre : List (Nat × Nat)), j ≤ N ∧ z = N - j ∧ s6 = .pointer (some ⟨nxtP r ps j, 0, none⟩) ∧ Hid (pre.length = j) ∧ Hid (J pre wr ∧ W.heap.size ≤ wr.heap.size))
    case atStart => exact ⟨0, [], by omega, by omega, rfl, Lib.hid rfl, Lib.hid ⟨own_turn HJ.out H0.out (Turn.refl _ W).drew, by simp⟩⟩
    case round =>
      obtain ⟨j, pre, hj, hg, rfl, HP, HI⟩ := hrel
      have hQ := HR.out _ wr HI.out.1
      rw [HP.out] at hQ
      by_cases hlt : j < N
      · obtain ⟨e, he⟩ : ∃ e, ps[j]? = some e := ⟨_, List.getElem?_eq_getElem (by rw [HL.out]; exact hlt)⟩
        obtain ⟨t0, t1, e1, e3⟩ := hQ.tail j e (Nat.le_refl _) he
        have hne := HN.out e (List.mem_of_getElem? he)
        have hnx : nxtP r ps j = e.1 := by unfold nxtP; rw [he]; rfl
        rw [hnx]
        have hd : decide (e.1 ≠ r) = true := by simp [hne]
        have hcmp := neq_pl t1 t0
        rw [hd] at hcmp
        obtain ⟨eb, ex⟩ := e
        obtain ⟨fn, tmps, assign, body, hyy, hR⟩ := HY.out pre (eb, ex) wr HI.out.1 (by show ps[pre.length]? = some (eb, ex); rw [HP.out]; exact he) HI.out.2
        unfold ptr at e1 e3
        dsimp only [ptr] at hyy hcmp e1 e3 ⊢
        have hPL := Lib.hid (show (pre ++ [(eb, ex)]).length = j + 1 by rw [List.length_append, HP.out]; rfl)
        clear hQ t0 t1 hne hnx hd he
        gi_wp2
        refine (round_wide hR).mono ?_
        rintro e W3 ⟨⟨rfl, hJ3⟩ | ⟨rfl, hJx3⟩, hk3⟩
        · have HJ3 := Lib.hid (And.intro hJ3 (Nat.le_trans HI.out.2 hk3.size))
          clear hk3 hJ3
          gi_wp2
          gi_roundg (N - (j + 1))
          case measure => omega
          case rel => exact ⟨j + 1, _, by omega, by omega, rfl, hPL, HJ3⟩
        · gi_wp2
          refine bodyPost_ret (results_none rfl _ _ _) rfl ?_
          exact ⟨⟨_, rfl⟩, .inr ⟨_, trivial, hJx3⟩⟩
      · obtain rfl : j = N := by omega
        have hnx : nxtP r ps j = r := by unfold nxtP; rw [List.getElem?_eq_none (by rw [HL.out]; exact Nat.le_refl _)]; rfl
        rw [hnx]
        have hcmp : (binOp .neq 145 (.pointer (some ⟨r, 0, none⟩)) (.pointer (some ⟨r, 0, none⟩))).run Try.prog wr = .ok (.bool false) wr := by
          obtain ⟨jj, h1, h2⟩ := info_size infoPl (by decide)
          have h : ∀ d : Nat, (Op.equalIn (d + 1) 145 (.pointer (some ⟨r, 0, none⟩)) (.pointer (some ⟨r, 0, none⟩))).run Try.prog wr = .ok true wr := fun d => by
            simp [Op.equalIn, run_underlying pplaceU, Go.sizeOf, typeInfo, h1, run_sameAddr_same]
          simp only [binOp]
          simp [Op.equal, Op.maxDepth, h 9999]
        clear hQ hnx
        gi_wp2
        go_end0
        exact ⟨⟨_, rfl⟩, .inl ⟨pre, by rw [HP.out, HL.out], HI.out.1⟩⟩
end Go.Proofs.Ytabakjimlndhcaa
