/-
  An array of sixteen pieces in memory: how it is made, how one of them is stored, how all of it is read. No conditions.
-/
import Derived.Test.YtdddmjdlikjedaaGreatGGuard
import Derived.Deep.MidRow
namespace Go.Proofs.YtdddmjdlikjedaaGreat
open Go.ChangeShapes Go.WideShapes Go.ChangeAt Go.RowKit

def was0 : List Pc := List.replicate 16 Pc.zero
theorem pcs_set (p : Pc) : ∀ (l : List Pc) (i : Nat), i < l.length → (((((pcs l).set (i * 5) (.int .i64 p.at')).set (i * 5 + 1) (.int .i64 p.len)).set (i * 5 + 2) (.int .i64 p.vmo)).set (i * 5 + 3) (.int .i64 p.from')).set (i * 5 + 4) (.int .i64 p.prot) = pcs (l.set i p)
  | [], i, h => by simp at h
  | q :: l, 0, _ => by rfl
  | q :: l, i + 1, h => by
    have h1 := pcs_set p l i (by simpa using h)
    have e : ∀ (m : List Value) (j : Nat) (v : Value), (q.cells ++ m).set (j + 5) v = q.cells ++ m.set j v := fun m j v => by rfl
    rw [pcs_cons, List.set_cons_succ, pcs_cons, ← h1, show (i + 1) * 5 = i * 5 + 5 by omega]
    have f0 := e (pcs l) (i * 5) (.int .i64 p.at')
    have f1 := fun m => e m (i * 5 + 1) (.int .i64 p.len)
    have f2 := fun m => e m (i * 5 + 2) (.int .i64 p.vmo)
    have f3 := fun m => e m (i * 5 + 3) (.int .i64 p.from')
    have f4 := fun m => e m (i * 5 + 4) (.int .i64 p.prot)
    rw [show i * 5 + 5 + 1 = (i * 5 + 1) + 5 by omega, show i * 5 + 5 + 2 = (i * 5 + 2) + 5 by omega, show i * 5 + 5 + 3 = (i * 5 + 3) + 5 by omega, show i * 5 + 5 + 4 = (i * 5 + 4) + 5 by omega]
    rw [f0, f1, f2, f3, f4]
theorem pcs_five {ws : List Pc} {i : Nat} {p : Pc} (hp : ws[i]? = some p) : List.take 5 (List.drop (i * 5) (pcs ws)) = [.int .i64 p.at', .int .i64 p.len, .int .i64 p.vmo, .int .i64 p.from', .int .i64 p.prot] := by
  have hlt := (List.getElem?_eq_some_iff.1 hp).1
  rw [pcs_drop, List.drop_eq_getElem_cons hlt, (List.getElem?_eq_some_iff.1 hp).2, pcs_cons]
  rfl
end Go.Proofs.YtdddmjdlikjedaaGreat
