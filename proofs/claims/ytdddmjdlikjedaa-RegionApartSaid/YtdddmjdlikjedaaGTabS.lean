/-
  RegionApart's state inside its loops. No conditions.
-/
import Derived.Test.YtdddmjdlikjedaaGTab
namespace Go.Proofs.Ytdddmjdlikjedaa
open Go.ChangeShapes Go.WideShapes Go.ChangeAt Go.RowKit

theorem cell_keep {w : World} {b o B O : Nat} {v u : Value} (hne : B ≠ b) (h : w.cell? ⟨B, O, none⟩ = some u) : (w.setCell ⟨b, o, none⟩ v).cell? ⟨B, O, none⟩ = some u :=
  ((Turn.refl (fun j => j = b) w).setCell (p := ⟨b, o, none⟩) (.inl (show b = b from rfl)) v).cell h hne
theorem tab_ix1 (b i : Nat) (h : i < 16) (w : World) : (Instr.indexAt 59 (.pointer (some ⟨b, 0, none⟩)) (.int .i64 (i : Int))).run Try.prog w = .ok (.pointer (some ⟨b, i, none⟩)) w := by
  have := tab_ix b i 0 h w
  simpa using this
/-- What is found at a cell's last number. -/
theorem ap_find {l : List Pc} {V F P : Nat → Int} {size : Int} (ok : GOK size l) (h : ApIs (fun v => IntKind.i64.wrap (v + 1)) l V F P) {i : Nat} (hi : i < 16) {e : Ending}
    (hh : (∃ p, e = .returned (.tuple #[p.agg, .bool true]) ∧ HasP l (64 * (i : Int) + 63) p) ∨ (e = .returned (.tuple #[Pc.zero.agg, .bool false]) ∧ Free l (64 * (i : Int) + 63))) :
    ∃ r : Pc, e = .returned (.tuple #[.agg #[.int .i64 r.at', .int .i64 r.len, .int .i64 r.vmo, .int .i64 r.from', .int .i64 r.prot], .bool (decide (V i ≠ 0))]) ∧
      (V i ≠ 0 → IntKind.i64.wrap (r.vmo + 1) = V i ∧ F i = r.from' - r.at' + 64 * (i : Int) ∧ P i = r.prot ∧ PcOK size r) := by
  rcases hh with ⟨p, h1, h2⟩ | ⟨h1, h2⟩
  · have hv := (vw_cell ok i).1 h2.vw
    rcases h i hi with ⟨h3, h4⟩ | ⟨h3, t, h4, h5, h6, h7⟩
    · exact absurd hv (vw_free.1 h4 _)
    · have h8 := vw_uniq ok hv h4
      subst h8
      exact ⟨p, by rw [decide_eq_true h3]; exact h1, fun _ => ⟨h5.symm, h6, h7, ok.each p h2.1⟩⟩
  · rcases h i hi with ⟨h3, h4⟩ | ⟨h3, t, h4, _⟩
    · exact ⟨Pc.zero, by rw [decide_eq_false (fun h => h h3)]; exact h1, fun hh => absurd h3 hh⟩
    · exact absurd ((vw_cell ok i).2 h4) (vw_free.1 h2 _)
theorem cnt_bd (f : Nat → Bool) : ∀ m : Nat, 0 ≤ cnt f m ∧ cnt f m ≤ 64 * (m : Int)
  | 0 => by unfold cnt; omega
  | m + 1 => by
    have := cnt_bd f m
    unfold cnt
    split <;> omega
/-- The region, the three tables, and a block that is read again. -/
structure TS (W : World) (a b4 b5 b6 b8 : Nat) (T8 : TypeId) (l : List Pc) (V F P : Nat → Int) (cs : Array Value) (w : World) : Prop where
  gt : GT (fun j => j = b4 ∨ j = b5 ∨ j = b6) W a 1024 100 l w
  t4 : Tab w b4 V
  t5 : Tab w b5 F
  t6 : Tab w b6 P
  t8 : w.heap[b8]? = some (.cells cs T8 (0, 0))
  ge : W.heap.size ≤ b4 ∧ W.heap.size ≤ b5 ∧ W.heap.size ≤ b6
  ne : b4 ≠ b5 ∧ b4 ≠ b6 ∧ b5 ≠ b6
  n8 : b8 ≠ b4 ∧ b8 ≠ b5 ∧ b8 ≠ b6
section
variable {W w w' : World} {a b4 b5 b6 b8 A i : Nat} {T8 : TypeId} {l : List Pc} {V F P f : Nat → Int} {cs : Array Value}
theorem TS.past (h : TS W a b4 b5 b6 b8 T8 l V F P cs w) (t : Turn NoBlock w w') : TS W a b4 b5 b6 b8 T8 l V F P cs w' :=
  ⟨h.gt.past t, h.t4.past t id, h.t5.past t id, h.t6.past t id, t.heap h.t8 id, h.ge, h.ne, h.n8⟩
theorem TS.set4 (h : TS W a b4 b5 b6 b8 T8 l (updR V A i f) F P cs w) (hi : A + i < 16) : TS W a b4 b5 b6 b8 T8 l (updR V A (i + 1) f) F P cs (w.setCell ⟨b4, A + i, none⟩ (.int .i64 (f (A + i)))) := by
  have t : Turn (fun j => j = b4) w (w.setCell ⟨b4, A + i, none⟩ (.int .i64 (f (A + i)))) := (Turn.refl (fun j => j = b4) w).setCell (p := ⟨b4, A + i, none⟩) (.inl (show b4 = b4 from rfl)) _
  exact ⟨h.gt.kept t (fun j hj _ => ⟨.inl hj, by rw [hj]; exact h.ge.1⟩), h.t4.step hi, h.t5.past t (fun e => h.ne.1 e.symm), h.t6.past t (fun e => h.ne.2.1 e.symm), t.heap h.t8 h.n8.1, h.ge, h.ne, h.n8⟩
theorem TS.set5 (h : TS W a b4 b5 b6 b8 T8 l V (updR F A i f) P cs w) (hi : A + i < 16) : TS W a b4 b5 b6 b8 T8 l V (updR F A (i + 1) f) P cs (w.setCell ⟨b5, A + i, none⟩ (.int .i64 (f (A + i)))) := by
  have t : Turn (fun j => j = b5) w (w.setCell ⟨b5, A + i, none⟩ (.int .i64 (f (A + i)))) := (Turn.refl (fun j => j = b5) w).setCell (p := ⟨b5, A + i, none⟩) (.inl (show b5 = b5 from rfl)) _
  exact ⟨h.gt.kept t (fun j hj _ => ⟨.inr (.inl hj), by rw [hj]; exact h.ge.2.1⟩), h.t4.past t h.ne.1, h.t5.step hi, h.t6.past t (fun e => h.ne.2.2 e.symm), t.heap h.t8 h.n8.2.1, h.ge, h.ne, h.n8⟩
theorem TS.set6 (h : TS W a b4 b5 b6 b8 T8 l V F (updR P A i f) cs w) (hi : A + i < 16) : TS W a b4 b5 b6 b8 T8 l V F (updR P A (i + 1) f) cs (w.setCell ⟨b6, A + i, none⟩ (.int .i64 (f (A + i)))) := by
  have t : Turn (fun j => j = b6) w (w.setCell ⟨b6, A + i, none⟩ (.int .i64 (f (A + i)))) := (Turn.refl (fun j => j = b6) w).setCell (p := ⟨b6, A + i, none⟩) (.inl (show b6 = b6 from rfl)) _
  exact ⟨h.gt.kept t (fun j hj _ => ⟨.inr (.inr hj), by rw [hj]; exact h.ge.2.2⟩), h.t4.past t h.ne.2.1, h.t5.past t h.ne.2.2, h.t6.step hi, t.heap h.t8 h.n8.2.2, h.ge, h.ne, h.n8⟩
theorem TS.put3 {vw qf qr : Int} (h : TS W a b4 b5 b6 b8 T8 l (updR V A i (fun _ => vw)) (updR F A i (fun j => qf + 64 * ((j : Int) - (A : Int)))) (updR P A i (fun _ => qr)) cs w) (hi : A + i < 16) :
    TS W a b4 b5 b6 b8 T8 l (updR V A (i + 1) (fun _ => vw)) (updR F A (i + 1) (fun j => qf + 64 * ((j : Int) - (A : Int)))) (updR P A (i + 1) (fun _ => qr)) cs (((w.setCell ⟨b4, A + i, none⟩ (.int .i64 vw)).setCell ⟨b5, A + i, none⟩ (.int .i64 (qf + 64 * (i : Int)))).setCell ⟨b6, A + i, none⟩ (.int .i64 qr)) := by
  have h1 := ((h.set4 hi).set5 hi).set6 hi
  have e : qf + 64 * (((A + i : Nat) : Int) - (A : Int)) = qf + 64 * (i : Int) := by omega
  simp only [e] at h1
  exact h1
theorem TS.congr {V' F' P' : Nat → Int} (h : TS W a b4 b5 b6 b8 T8 l V F P cs w) (hV : ∀ i, V i = V' i) (hF : ∀ i, F i = F' i) (hP : ∀ i, P i = P' i) : TS W a b4 b5 b6 b8 T8 l V' F' P' cs w := by
  rw [← show V = V' from funext hV, ← show F = F' from funext hF, ← show P = P' from funext hP]
  exact h
theorem TS.aps (h : TS W a b4 b5 b6 b8 T8 l V F P cs w) (hA : ApIs (fun v => IntKind.i64.wrap (v + 1)) l V F P) : ApS W a b4 b5 b6 w :=
  ⟨⟨l, V, F, P, h.gt, h.t4, h.t5, h.t6, hA⟩, h.ge, h.ne⟩
theorem ApS.past (h : ApS W a b4 b5 b6 w) (t : Turn NoBlock w w') : ApS W a b4 b5 b6 w' := by
  obtain ⟨l, V, F, P, h1, h2, h3, h4, h5⟩ := h.st
  exact ⟨⟨l, V, F, P, h1.past t, h2.past t id, h3.past t id, h4.past t id, h5⟩, h.ge, h.ne⟩
end
end Go.Proofs.Ytdddmjdlikjedaa
