/-
  'append' of one piece to a row of pieces; the regions of split by number.
-/
import Derived.Test.YtdddmjdlikjedaaGRound
namespace Go.Proofs.Ytdddmjdlikjedaa
open Go.ChangeShapes Go.WideShapes Go.ChangeAt Go.RowKit Go.Shelf

def fiveOf (p : Pc) : Array Value := #[.int .i64 p.at', .int .i64 p.len, .int .i64 p.vmo, .int .i64 p.from', .int .i64 p.prot]
theorem append_one {w : World} {v : Value} {l : List Pc} (h : PRow v l w) (p : Pc) (hb : l.length ≤ 1048576) :
    ∃ v' W', (∀ ty, (Builtin.append_ #[65, 65] ty #[v, .slice (some ⟨w.heap.size, 0, none⟩) 1 1]).run Try.prog (w.alloc (.cells #[.int .i64 p.at', .int .i64 p.len, .int .i64 p.vmo, .int .i64 p.from', .int .i64 p.prot] 61)) = .ok v' W') ∧
      PRow v' (l ++ [p]) W' ∧ (∀ k, Blk v' k → Blk v k ∨ w.heap.size < k) ∧ Turn (Blk v) (w.alloc (.cells #[.int .i64 p.at', .int .i64 p.len, .int .i64 p.vmo, .int .i64 p.from', .int .i64 p.prot] 61)) W' := by
  obtain ⟨iv, hiv, hz0, hz1, hz2⟩ := info_parts infoP
  have hr := prow_one w p
  have t0 : Turn NoBlock w (w.alloc (.cells #[.int .i64 p.at', .int .i64 p.len, .int .i64 p.vmo, .int .i64 p.from', .int .i64 p.prot] 61)) := (Turn.refl _ _).alloc _
  have h1 := h.past t0
  have hc : ∀ j u, p.cells[j]? = some u → (w.alloc (.cells #[.int .i64 p.at', .int .i64 p.len, .int .i64 p.vmo, .int .i64 p.from', .int .i64 p.prot] 61)).cell? ((⟨w.heap.size, 0, none⟩ : Addr).add j) = some u := fun j u hj => by
    have hj5 : j < 5 := (List.getElem?_eq_some_iff.1 hj).1
    have h0 := hr.piece (i := 0) (p := p) rfl j hj5
    have ha : ((⟨w.heap.size, 0, none⟩ : Addr).add j) = ⟨w.heap.size, j, none⟩ := by by_cases e : j = 0 <;> simp [Addr.add, e]
    rw [ha]
    simp only [Nat.zero_mul, Nat.zero_add] at h0
    rw [h0]
    exact hj
  obtain ⟨g, cap, w', hrun, h2, h3, h4, h5⟩ := run_append_lies (P := Try.prog) (w := w.alloc (.cells #[.int .i64 p.at', .int .i64 p.len, .int .i64 p.vmo, .int .i64 p.from', .int .i64 p.prot] 61)) 65 0 0 61 iv _ 5 40 pieces_s hiv hz0 hz1 hz2 rfl (by decide) v l.length (pcs l) h1 ⟨w.heap.size, 0, none⟩ 1 1 p.cells rfl hc p.cells_one (by decide) (by unfold maxLen; omega) (by omega) (Nat.zero_le _) _ rfl
  refine ⟨.slice (some ⟨g, 0, none⟩) (l.length + 1) cap, w', fun ty => ?_, ?_, fun k hk => ?_, (Turn.refl _ _).grown h3 (fun k hk => .inl hk)⟩
  · rw [← hrun]
    rfl
  · unfold PRow
    rw [List.length_append, pcs_app]
    simpa [pcs] using h2
  · simp [Blk, Value.ownBlock] at hk
    subst hk
    rcases h4 with h4 | h4
    · exact .inl h4
    · simp at h4
      exact .inr (by omega)

/-- A region of a function's code. -/
def findG (n : Nat) : Code → Option Code
  | .region k ops dr => if k = n then some (.region k ops dr) else none
  | .seq x y => match findG n x with
    | some z => some z
    | none => findG n y
  | .loop x => findG n x
  | .block _ x => findG n x
  | .rangeFunc _ _ _ x => findG n x
  | .cond _ x y => match findG n x with
    | some z => some z
    | none => findG n y
  | _ => none
noncomputable def regS (n : Nat) : Code := (Try.f72.body.bind (findG n)).getD .skip
end Go.Proofs.Ytdddmjdlikjedaa
