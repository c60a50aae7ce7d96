/-
  A map from numbers to numbers, and a range over it. No conditions.
-/
import Derived.Test.YtabakjimlndhcaaBTwo
import Derived.Test.YtabakjimlndhcaaBView
import Derived.Maps.OwnOps
import Derived.Maps.Views
import Derived.Maps.RangeWalk
namespace Go.Proofs.Ytabakjimlndhcaa
open Go.ChangeShapes Go.WideShapes Go.ChangeAt Go.RowKit Go.Maps Go.Shelf

theorem pmapUnder : Try.prog.underlying 62 = some (.map 3 3) := by kernel_rfl
theorem zeroInt (w : World) : (zeroValue 3).run Try.prog w = .ok (.int .i64 0) w := by kernel_rfl
def PMap (w : World) (b : Nat) (L : Int → Option Int) (s : Nat) : Prop := IMap (plainElem Try.prog 3) w b L s
theorem PMap.kept {w w' : World} {b s : Nat} {L : Int → Option Int} {G : Nat → Prop} (h : PMap w b L s) (t : Turn G w w') (hG : ¬ G b) : PMap w' b L s := IMap.past h t hG
section
variable {w : World} {b s : Nat} {L : Int → Option Int}
theorem PMap.look (h : PMap w b L s) (i : Int) (hi : fit i) : Sem.run Try.prog (Instr.lookup 62 (.map (some b)) (.int .i64 i) true) w = .ok (.tuple #[.int .i64 ((L i).getD 0), .bool (L i).isSome]) w := by
  obtain ⟨D, hm, hS⟩ := h
  obtain ⟨v, ps, hrun, hv⟩ := hm.look_ok intKey pmapUnder (zeroInt w) (plainElem_int Try.underlying3 (by decide)) (key_int hi)
  rw [(hS.1 i).1] at hrun
  rw [(hS.1 i).2] at hv
  obtain ⟨c, rfl, hc, hwc⟩ := plainElem_int_inv Try.underlying3 hv
  rw [hrun]
  cases hL : L i with
  | none =>
    rw [hL] at hc
    simp at hc
    rw [hc.1]; rfl
  | some z =>
    rw [hL] at hc
    simp at hc
    rw [hc.1]; rfl
theorem PMap.look1 (h : PMap w b L s) (i : Int) (hi : fit i) : Sem.run Try.prog (Instr.lookup 62 (.map (some b)) (.int .i64 i) false) w = .ok (.int .i64 ((L i).getD 0)) w := by
  obtain ⟨D, hm, hS⟩ := h
  obtain ⟨v, ps, hrun, hv⟩ := hm.lookup intKey pmapUnder (zeroInt w) (plainElem_int Try.underlying3 (by decide)) (key_int hi)
  rw [(hS.1 i).2] at hv
  obtain ⟨c, rfl, hc, hwc⟩ := plainElem_int_inv Try.underlying3 hv
  rw [hrun]
  cases hL : L i with
  | none =>
    rw [hL] at hc
    simp at hc
    rw [hc.1]; rfl
  | some z =>
    rw [hL] at hc
    simp at hc
    rw [hc.1]; rfl
theorem PMap.put (h : PMap w b L s) (hs : s < maxLen) (i v : Int) (hi : fit i) (hv : fit v) :
    ∃ w', Sem.run Try.prog (Instr.mapUpdate 62 (.map (some b)) (.int .i64 i) (.int .i64 v)) w = .ok () w' ∧ PMap w' b (updI L i (some v)) (if (L i).isSome then s else s + 1) ∧ Turn (fun k => k = b) w w' :=
  IMap.put h pmapUnder hs hi (plainElem_int Try.underlying3 (wf_int hv))
theorem PMap.drop (h : PMap w b L s) (i : Int) (hi : fit i) (ty : TypeId) :
    ∃ w', Sem.run Try.prog (Builtin.delete_ #[62, 3] ty #[.map (some b), .int .i64 i]) w = .ok (.tuple #[]) w' ∧ PMap w' b (updI L i none) (if (L i).isSome then s - 1 else s) ∧ Turn (fun k => k = b) w w' := IMap.drop h pmapUnder hi ty
theorem PMap.len (h : PMap w b L s) (ty : TypeId) : Sem.run Try.prog (Builtin.len_ #[62] ty #[.map (some b)]) w = .ok (.int .i64 s) w := IMap.len h pmapUnder ty

end
theorem ranges_turn {w w' : World} {b it n cnt : Nat} {D : DataW Unit} {left : Lit → Bool} {G : Nat → Prop} (h : w.ranges Try.prog 3 (plainElem Try.prog 3) b it n D left cnt) (t : Turn G w w') (hb : ¬ G b) (hi : ¬ G it) : w'.ranges Try.prog 3 (plainElem Try.prog 3) b it n D left cnt := by
  obtain ⟨es, clock, since, seen, c0, h1, F, hs, hD, hr, rest⟩ := h
  exact ⟨es, clock, since, seen, c0, t.heap h1 hb, F, hs, hD, t.heap hr hi, rest⟩
theorem pmap_of {w : World} {b n : Nat} {D : DataW Unit} {L : Int → Option Int} {s : Nat} (h : w.ownsMap Try.prog 3 (plainElem Try.prog 3) b n D) (hS : Says D L s) : PMap w b L s := ⟨D, hS.2 ▸ own_tight h, hS⟩

/-- The step of a range over a map of numbers, what it tells hidden. -/
theorem wp_next_I (w : World) {ops : Array Oper} {rest : List Oper} {o : Oper} {a : Act} {Q : Exit → Act → World → Prop} (hg : o.guard = none) (it : Operand) (hop : o.op = Op.next it false)
    (b r n : Nat) (D : DataW Unit) (left : Lit → Bool) (cnt : Nat) (hit : a.eval it = .pointer (some ⟨r, 0, none⟩)) (h : w.ranges Try.prog 3 (plainElem Try.prog 3) b r n D left cnt)
    (hDone : Hid (∀ kl, left kl = false) → wpList Try.prog ops Q rest (a.put o.dst (.tuple #[.bool false])) w)
    (hMore : ∀ (x c : Int) (w' : World) (cnt' : Nat), Hid (fit x ∧ (∀ zd, D.atKey (.int .i64 x) zd = .lit (.int .i64 c)) ∧ w'.ranges Try.prog 3 (plainElem Try.prog 3) b r n D (fun z => left z && !z.sameKey (.int .i64 x)) cnt' ∧ cnt' < cnt ∧ w.grownBy w' (some r)) →
      (Instr.entry (.pointer (some ⟨r, 0, none⟩))).run Try.prog w' = .ok (.tuple #[.int .i64 x, .int .i64 c]) w' → wpList Try.prog ops Q rest (a.put o.dst (.tuple #[.bool true, .int .i64 x, .int .i64 c])) w') :
    wpList Try.prog ops Q (o :: rest) a w :=
  wpList_next_ranges_ii w hg it hop 3 3 .i64 .i64 intKey Try.underlying3 Try.underlying3 b r n D left cnt hit h (fun _ hl => hDone hl) (fun x c w' cnt' hwx _ _ hat hrg hlt hgr _ hen => hMore x c w' cnt' ⟨fit_wf hwx, hat, hrg, hlt, hgr⟩ hen)

end Go.Proofs.Ytabakjimlndhcaa
