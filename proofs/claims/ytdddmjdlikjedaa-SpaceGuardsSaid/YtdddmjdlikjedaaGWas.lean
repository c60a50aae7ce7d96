/-
  An array of sixteen pieces in memory: how it is made, how one of them is stored, how all of it is read. No conditions.
-/
import Derived.Test.YtdddmjdlikjedaaGGuard
import Derived.Deep.MidRow
namespace Go.Proofs.Ytdddmjdlikjedaa
open Go.ChangeShapes Go.WideShapes Go.ChangeAt Go.RowKit

def was0 : List Pc := List.replicate 16 Pc.zero
theorem was_zero : ∀ w, Sem.run Try.prog (zeroValue 74) w = .ok (.agg (pcs was0).toArray) w := fun w => by kernel_rfl
/-- The array at block b. -/
def WasAt (w : World) (b : Nat) (l : List Pc) : Prop := l.length = 16 ∧ w.heap[b]? = some (.cells (pcs l).toArray 74 (0, 0))
theorem WasAt.past {w w' : World} {b : Nat} {l : List Pc} {F : Nat → Prop} (h : WasAt w b l) (t : Turn F w w') (hF : ¬ F b) : WasAt w' b l := ⟨h.1, t.heap h.2 hF⟩
theorem was_new (w : World) : WasAt (w.alloc (.cells (pcs was0).toArray 74)) w.heap.size was0 := ⟨rfl, heap_alloc_new w _⟩
theorem WasAt.range {w : World} {b : Nat} {l : List Pc} (h : WasAt w b l) : w.rangeAt b 0 (pcs l) := by
  intro j v hv
  have := cell_at h.2 j
  rw [Nat.zero_add, this]
  simpa using hv
theorem WasAt.there {w : World} {b : Nat} {l : List Pc} (h : WasAt w b l) (i : Nat) (hi : i < 16) : w.there b (i * 5) 5 := by
  intro j hj
  refine ⟨?_, free_at h.2 _⟩
  rw [cell_at h.2]
  have : i * 5 + j < (pcs l).length := by rw [pcs_len, h.1]; omega
  rw [List.getElem?_toArray, List.getElem?_eq_getElem this]
  rfl
theorem pcs_set (p : Pc) : ∀ (l : List Pc) (i : Nat), i < l.length → (((((pcs l).set (i * 5) (.int .i64 p.at')).set (i * 5 + 1) (.int .i64 p.len)).set (i * 5 + 2) (.int .i64 p.vmo)).set (i * 5 + 3) (.int .i64 p.from')).set (i * 5 + 4) (.int .i64 p.prot) = pcs (l.set i p)
  | [], i, h => by simp at h
  | q :: l, 0, _ => by rfl
  | q :: l, i + 1, h => by
    have h1 := pcs_set p l i (by simpa using h)
    have e : ∀ (m : List Value) (j : Nat) (v : Value), (q.cells ++ m).set (j + 5) v = q.cells ++ m.set j v := fun m j v => by rfl
    rw [pcs_cons, List.set_cons_succ, pcs_cons, ← h1, show (i + 1) * 5 = i * 5 + 5 by omega]
    have f0 := e (pcs l) (i * 5) (.int .i64 p.at')
    have f1 := fun m => e m (i * 5 + 1) (.int .i64 p.len)
    have f2 := fun m => e m (i * 5 + 2) (.int .i64 p.vmo)
    have f3 := fun m => e m (i * 5 + 3) (.int .i64 p.from')
    have f4 := fun m => e m (i * 5 + 4) (.int .i64 p.prot)
    rw [show i * 5 + 5 + 1 = (i * 5 + 1) + 5 by omega, show i * 5 + 5 + 2 = (i * 5 + 2) + 5 by omega, show i * 5 + 5 + 3 = (i * 5 + 3) + 5 by omega, show i * 5 + 5 + 4 = (i * 5 + 4) + 5 by omega]
    rw [f0, f1, f2, f3, f4]
theorem WasAt.set {w : World} {b : Nat} {l : List Pc} (h : WasAt w b l) (i : Nat) (hi : i < 16) (p : Pc) : WasAt (w.setCells b (i * 5) p.cells) b (l.set i p) := by
  have hl : i < l.length := by rw [h.1]; exact hi
  refine ⟨by rw [List.length_set]; exact h.1, ?_⟩
  have h1 := heap_setCell_same _ b (i * 5) _ _ (.int .i64 p.at') h.2
  have h2 := heap_setCell_same _ b (i * 5 + 1) _ _ (.int .i64 p.len) h1
  have h3 := heap_setCell_same _ b (i * 5 + 2) _ _ (.int .i64 p.vmo) h2
  have h4 := heap_setCell_same _ b (i * 5 + 3) _ _ (.int .i64 p.from') h3
  have h5 := heap_setCell_same _ b (i * 5 + 4) _ _ (.int .i64 p.prot) h4
  have e : w.setCells b (i * 5) p.cells = ((((w.setCell ⟨b, i * 5, none⟩ (.int .i64 p.at')).setCell ⟨b, i * 5 + 1, none⟩ (.int .i64 p.len)).setCell ⟨b, i * 5 + 2, none⟩ (.int .i64 p.vmo)).setCell ⟨b, i * 5 + 3, none⟩ (.int .i64 p.from')).setCell ⟨b, i * 5 + 4, none⟩ (.int .i64 p.prot) := rfl
  have e2 : ((((((pcs l).toArray.setIfInBounds (i * 5) (.int .i64 p.at')).setIfInBounds (i * 5 + 1) (.int .i64 p.len)).setIfInBounds (i * 5 + 2) (.int .i64 p.vmo)).setIfInBounds (i * 5 + 3) (.int .i64 p.from')).setIfInBounds (i * 5 + 4) (.int .i64 p.prot)) = (pcs (l.set i p)).toArray := by
    rw [← pcs_set p l i hl]
    simp only [List.setIfInBounds_toArray]
  rw [e, h5, e2]
theorem pcs_five {ws : List Pc} {i : Nat} {p : Pc} (hp : ws[i]? = some p) : List.take 5 (List.drop (i * 5) (pcs ws)) = [.int .i64 p.at', .int .i64 p.len, .int .i64 p.vmo, .int .i64 p.from', .int .i64 p.prot] := by
  have hlt := (List.getElem?_eq_some_iff.1 hp).1
  rw [pcs_drop, List.drop_eq_getElem_cons hlt, (List.getElem?_eq_some_iff.1 hp).2, pcs_cons]
  rfl
theorem was_d : Try.prog.underlying 74 = some (.array 16 61) := by kernel_rfl
theorem was_s : (Try.prog.info? 74).map (·.size) = some 80 := by kernel_rfl
theorem WasAt.load {w : World} {b : Nat} {l : List Pc} (h : WasAt w b l) : (Instr.loadAt 74 (.pointer (some ⟨b, 0, none⟩))).run Try.prog w = .ok (.agg (pcs l).toArray) w :=
  run_loadAt_mid w b 0 _ (pcs l) _ h.range was_d rfl (by rw [was_s, pcs_len, h.1])
theorem WasAt.load2 {w : World} {b : Nat} {l : List Pc} (h : WasAt w b l) : (loadVar 74 ⟨b, 0, none⟩).run Try.prog w = .ok (.agg (pcs l).toArray) w :=
  run_loadVar_mid w b 0 _ (pcs l) _ h.range was_d rfl (by rw [was_s, pcs_len, h.1])
theorem was_index {ws : List Pc} (_h : ws.length = 16) {i : Nat} (hi : i < 16) {p : Pc} (hp : ws[i]? = some p) (w : World) :
    (Instr.index 74 (.agg (pcs ws).toArray) (.int .i64 (i : Int))).run Try.prog w = .ok (.agg #[.int .i64 p.at', .int .i64 p.len, .int .i64 p.vmo, .int .i64 p.from', .int .i64 p.prot]) w := by
  have h5 := pcs_five hp
  simp [Instr.index, run_underlying was_d, asIntOf, go_sem, hi, h5]
end Go.Proofs.Ytdddmjdlikjedaa
