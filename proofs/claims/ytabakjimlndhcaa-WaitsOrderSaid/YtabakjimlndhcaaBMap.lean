/-
  Maps from numbers to pointers, as a plain function and how many entries they have. No conditions.
-/
import Derived.Test.YtabakjimlndhcaaBRow
import Derived.Maps.OwnSet
import Derived.Maps.OwnOps
import Derived.Maps.Views
import Derived.Maps.RangeWalk
namespace Go.Proofs.Ytabakjimlndhcaa
open Go.ChangeShapes Go.WideShapes Go.ChangeAt Go.RowKit Go.Maps

theorem tmapU : Try.prog.underlying 95 = some (.map 3 102) := by kernel_rfl
theorem lmapU : Try.prog.underlying 96 = some (.map 3 145) := by kernel_rfl
theorem zeroT (w : World) : (zeroValue 102).run Try.prog w = .ok (.pointer none) w := by kernel_rfl
theorem zeroL (w : World) : (zeroValue 145).run Try.prog w = .ok (.pointer none) w := by kernel_rfl
theorem intKey : Keyed Try.prog 3 := int_keyed Try.underlying3

theorem wf_int {i : Int} (h : fit i) : (Lit.int .i64 i).wf = true := by
  unfold fit at h
  have e1 : IntKind.i64.min = -9223372036854775808 := rfl
  have e2 : IntKind.i64.max = 9223372036854775807 := rfl
  simp only [Lit.wf, Bool.and_eq_true, decide_eq_true_eq]
  omega
theorem key_int {i : Int} (h : fit i) : keyOf Try.prog 3 (.int .i64 i) = some (.int .i64 i) := keyOf_int_mk Try.underlying3 (wf_int h)

/-- How an element that points to an object reads: as the number of its block. -/
def ptrElem (v : Value) : Option (DataW Unit × List MemPlace) :=
  match v with
  | .pointer none => some (.lit (.int .i64 (-1)), [])
  | .pointer (some ⟨b, 0, none⟩) => some (.lit (.int .i64 (b : Int)), [])
  | _ => none
def ptrOf : Option Nat → Value
  | none => .pointer none
  | some b => .pointer (some ⟨b, 0, none⟩)
theorem ptrElem_of (x : Option Nat) : ptrElem (ptrOf x) = some (.lit (.int .i64 ((x.map fun (b : Nat) => (b : Int)).getD (-1))), []) := by
  cases x <;> rfl
theorem ptrElem_inv {v : Value} {ps : List MemPlace} {x : Option Nat} (h : ptrElem v = some (.lit (.int .i64 ((x.map fun (b : Nat) => (b : Int)).getD (-1))), ps)) : v = ptrOf x := by
  unfold ptrElem at h
  split at h
  · cases x with
    | none => rfl
    | some b =>
      exfalso
      simp at h
  · cases x with
    | none =>
      exfalso
      simp at h
    | some b =>
      simp at h
      have hb := h.1
      rw [Int.natCast_inj] at hb
      subst hb
      rfl
  · cases h

/-- The datum D says what L says, and has s keys. -/
def Says (D : DataW Unit) (L : Int → Option Int) (s : Nat) : Prop :=
  (∀ i : Int, has D (.int .i64 i) = (L i).isSome ∧ ∀ z, D.atKey (.int .i64 i) z = ((L i).map fun v => DataW.lit (.int .i64 v)).getD z) ∧ size D = s
def IMap (R : Value → Option (DataW Unit × List MemPlace)) (w : World) (b : Nat) (L : Int → Option Int) (s : Nat) : Prop := ∃ D, w.ownsMap Try.prog 3 R b s D ∧ Says D L s
def OMap (w : World) (b : Nat) (A : Int → Option Nat) (s : Nat) : Prop := IMap ptrElem w b (fun i => (A i).map fun (n : Nat) => (n : Int)) s

def updI {α : Type} (L : Int → Option α) (i : Int) (v : Option α) : Int → Option α := fun j => if j = i then v else L j

section
variable {R : Value → Option (DataW Unit × List MemPlace)} {w w' : World} {b s : Nat} {L : Int → Option Int}
theorem own_tight {n : Nat} {D : DataW Unit} (h : w.ownsMap Try.prog 3 R b n D) : w.ownsMap Try.prog 3 R b (size D) D := by
  obtain ⟨es, clock, hb, F, hs, rfl⟩ := h
  refine ⟨es, clock, hb, F, ?_, rfl⟩
  simp [Maps.size, length_sorted]
theorem IMap.lt (h : IMap R w b L s) : b < w.heap.size := by obtain ⟨D, h1, _⟩ := h; exact h1.lt
theorem IMap.past {G : Nat → Prop} (h : IMap R w b L s) (t : Turn G w w') (hG : ¬ G b) : IMap R w' b L s := by
  obtain ⟨D, ⟨es, clock, hb, r⟩, hS⟩ := h
  exact ⟨D, ⟨es, clock, t.heap hb hG, r⟩, hS⟩
theorem IMap.isMap (h : IMap R w b L s) : ∃ es clock, w.heap[b]? = some (.map es clock) := by
  obtain ⟨D, ⟨es, clock, hb, r⟩, hS⟩ := h
  exact ⟨es, clock, hb⟩
theorem says_made : Says (.map []) (fun _ => none) 0 := ⟨fun _ => ⟨rfl, fun _ => rfl⟩, rfl⟩
theorem IMap.made (w : World) : IMap R (w.alloc (.map #[] 0)) w.heap.size (fun _ => none) 0 := ⟨_, World.ownsMap_made w Try.prog 3 R, says_made⟩
theorem int_ne {i j : Int} (h : j ≠ i) : (Lit.int .i64 j) ≠ (Lit.int .i64 i) := fun e => h (by injection e)
theorem turn_map {b : Nat} {w w' : World} (h : w.mapTurned w' b) : Turn (fun k => k = b) w w' := (Turn.refl _ w).grown h.grown (fun k hk => by cases hk; exact .inl rfl)

theorem IMap.put {t e : TypeId} (h : IMap R w b L s) (ht : Try.prog.underlying t = some (.map 3 e)) (hs : s < maxLen) {i v : Int} (hi : fit i) {val : Value} {ps : List MemPlace} (hv : R val = some (.lit (.int .i64 v), ps)) :
    ∃ w', Sem.run Try.prog (Instr.mapUpdate t (.map (some b)) (.int .i64 i) val) w = .ok () w' ∧ IMap R w' b (updI L i (some v)) (if (L i).isSome then s else s + 1) ∧ Turn (fun k => k = b) w w' := by
  obtain ⟨D, hm, hS⟩ := h
  obtain ⟨w', hrun, hown, hturn⟩ := hm.store intKey ht hs (key_int hi) hv
  have hT : Tidy D := hm.tidy intKey
  have hk : WideAt.IsKeyLit (.int .i64 i) := trivial
  have hsz : size (D.put (.int .i64 i) (.lit (.int .i64 v))) = if (L i).isSome then s else s + 1 := by
    rw [size_put hT, (hS.1 i).1, hS.2]
  refine ⟨w', hrun, ⟨_, hsz ▸ own_tight hown, fun j => ?_, hsz⟩, turn_map hturn⟩
  unfold updI
  by_cases hj : j = i
  · subst hj
    simp only [if_pos]
    exact ⟨has_put_same hT.isMap hk _, fun z => atKey_put_same hT.isMap hk _ z⟩
  · simp only [if_neg hj]
    rw [has_put_other (int_ne hj) _]
    exact ⟨(hS.1 j).1, fun z => by rw [atKey_put_other (int_ne hj) _ z]; exact (hS.1 j).2 z⟩

theorem says_del {D : DataW Unit} (hS : Says D L s) (hT : Tidy D) (i : Int) : Says (D.del (.int .i64 i)) (updI L i none) (if (L i).isSome then s - 1 else s) := by
  refine ⟨fun j => ?_, ?_⟩
  · unfold updI
    by_cases hj : j = i
    · subst hj
      simp only [if_pos]
      exact ⟨has_del_same, fun z => atKey_del_same z⟩
    · simp only [if_neg hj]
      rw [has_del_other (int_ne hj)]
      exact ⟨(hS.1 j).1, fun z => by rw [atKey_del_other (int_ne hj) z]; exact (hS.1 j).2 z⟩
  · have h1 := size_del (k := .int .i64 i) hT
    rw [(hS.1 i).1, hS.2] at h1
    by_cases hL : (L i).isSome = true
    · rw [if_pos hL] at h1 ⊢
      omega
    · rw [if_neg hL] at h1 ⊢
      omega
theorem IMap.drop {t e : TypeId} (h : IMap R w b L s) (ht : Try.prog.underlying t = some (.map 3 e)) {i : Int} (hi : fit i) (ty : TypeId) :
    ∃ w', Sem.run Try.prog (Builtin.delete_ #[t, 3] ty #[.map (some b), .int .i64 i]) w = .ok (.tuple #[]) w' ∧ IMap R w' b (updI L i none) (if (L i).isSome then s - 1 else s) ∧ Turn (fun k => k = b) w w' := by
  obtain ⟨D, hm, hS⟩ := h
  obtain ⟨w', hrun, hown, hturn⟩ := hm.drop intKey ht (key_int hi) ty
  have hS2 := says_del hS (hm.tidy intKey) i
  exact ⟨w', hrun, ⟨_, hS2.2 ▸ own_tight hown, hS2⟩, turn_map hturn⟩
theorem IMap.len {t e : TypeId} (h : IMap R w b L s) (ht : Try.prog.underlying t = some (.map 3 e)) (ty : TypeId) : Sem.run Try.prog (Builtin.len_ #[t] ty #[.map (some b)]) w = .ok (.int .i64 s) w := by
  obtain ⟨D, hm, hS⟩ := h
  rw [← hS.2]
  exact hm.len ht ty
end

section
variable {w w' : World} {b s : Nat} {A : Int → Option Nat} {t e : TypeId}
theorem OMap.look (h : OMap w b A s) (ht : Try.prog.underlying t = some (.map 3 e)) (hz : ∀ w, (zeroValue e).run Try.prog w = .ok (.pointer none) w) (i : Int) (hi : fit i) : Sem.run Try.prog (Instr.lookup t (.map (some b)) (.int .i64 i) false) w = .ok (ptrOf (A i)) w := by
  obtain ⟨D, hm, hS⟩ := h
  obtain ⟨v, ps, hrun, hv⟩ := hm.lookup intKey ht (hz w) (zd := .lit (.int .i64 (-1))) (zp := []) rfl (key_int hi)
  rw [(hS.1 i).2] at hv
  have : v = ptrOf (A i) := by
    cases hA : A i with
    | none => simp only [hA] at hv; exact ptrElem_inv (x := none) hv
    | some a => simp only [hA] at hv; exact ptrElem_inv (x := some a) hv
  rw [hrun, this]
theorem OMap.look2 (h : OMap w b A s) (ht : Try.prog.underlying t = some (.map 3 e)) (hz : ∀ w, (zeroValue e).run Try.prog w = .ok (.pointer none) w) (i : Int) (hi : fit i) : Sem.run Try.prog (Instr.lookup t (.map (some b)) (.int .i64 i) true) w = .ok (.tuple #[ptrOf (A i), .bool (A i).isSome]) w := by
  obtain ⟨D, hm, hS⟩ := h
  obtain ⟨v, ps, hrun, hv⟩ := hm.look_ok intKey ht (hz w) (zd := .lit (.int .i64 (-1))) (zp := []) rfl (key_int hi)
  rw [(hS.1 i).1] at hrun
  rw [(hS.1 i).2] at hv
  have : v = ptrOf (A i) := by
    cases hA : A i with
    | none => simp only [hA] at hv; exact ptrElem_inv (x := none) hv
    | some a => simp only [hA] at hv; exact ptrElem_inv (x := some a) hv
  rw [hrun, this]
  simp
theorem OMap.kept {G : Nat → Prop} (h : OMap w b A s) (tt : Turn G w w') (hG : ¬ G b) : OMap w' b A s := IMap.past h tt hG
theorem OMap.past (h : OMap w b A s) (tt : Turn NoBlock w w') : OMap w' b A s := IMap.past h tt (fun h => h)
theorem OMap.made (w : World) : OMap (w.alloc (.map #[] 0)) w.heap.size (fun _ => none) 0 := IMap.made w
theorem OMap.lt (h : OMap w b A s) : b < w.heap.size := IMap.lt h
theorem OMap.no_cells (h : OMap w b A s) {e : TypeId} : ¬ TBlk w b e := by
  rintro ⟨cur, hc⟩
  obtain ⟨es, clock, hb⟩ := IMap.isMap h
  rw [hc] at hb
  cases hb
theorem omap_upd (i : Int) (v : Option Nat) : (fun j => (updI A i v j).map fun (n : Nat) => (n : Int)) = updI (fun j => (A j).map fun (n : Nat) => (n : Int)) i (v.map fun (n : Nat) => (n : Int)) := by
  funext j
  unfold updI
  by_cases h : j = i
  · simp [h]
  · simp [h]
theorem OMap.put (h : OMap w b A s) (ht : Try.prog.underlying t = some (.map 3 e)) (hs : s < maxLen) (i : Int) (a : Nat) (hi : fit i) :
    ∃ w', Sem.run Try.prog (Instr.mapUpdate t (.map (some b)) (.int .i64 i) (.pointer (some ⟨a, 0, none⟩))) w = .ok () w' ∧ OMap w' b (updI A i (some a)) (if (A i).isSome then s else s + 1) ∧ Turn (fun k => k = b) w w' := by
  obtain ⟨w', h1, h2, h3⟩ := IMap.put h ht hs hi (val := .pointer (some ⟨a, 0, none⟩)) (v := a) (ps := []) rfl
  refine ⟨w', h1, ?_, h3⟩
  unfold OMap
  rw [omap_upd]
  simpa using h2
theorem OMap.drop (h : OMap w b A s) (ht : Try.prog.underlying t = some (.map 3 e)) (i : Int) (hi : fit i) (ty : TypeId) :
    ∃ w', Sem.run Try.prog (Builtin.delete_ #[t, 3] ty #[.map (some b), .int .i64 i]) w = .ok (.tuple #[]) w' ∧ OMap w' b (updI A i none) (if (A i).isSome then s - 1 else s) ∧ Turn (fun k => k = b) w w' := by
  obtain ⟨w', h1, h2, h3⟩ := IMap.drop h ht hi ty
  refine ⟨w', h1, ?_, h3⟩
  unfold OMap
  rw [omap_upd]
  simpa using h2
theorem OMap.len (h : OMap w b A s) (ht : Try.prog.underlying t = some (.map 3 e)) (ty : TypeId) : Sem.run Try.prog (Builtin.len_ #[t] ty #[.map (some b)]) w = .ok (.int .i64 s) w := IMap.len h ht ty
end
end Go.Proofs.Ytabakjimlndhcaa
