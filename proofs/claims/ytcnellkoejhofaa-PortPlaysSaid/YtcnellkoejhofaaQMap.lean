/-
  A map from numbers to slices, as a plain function and how many entries it has. No conditions.
-/
import Derived.Test.YtcnellkoejhofaaQBase
import Derived.Maps.OwnSet
import Derived.Maps.OwnOps
import Derived.Maps.Views
import Derived.Maps.RangeWalk
namespace Go.Proofs.Ytcnellkoejhofaa
open Go.ChangeShapes Go.WideShapes Go.ChangeAt Go.RowKit Go.Maps

theorem intKey : Keyed Try.prog 3 := int_keyed Try.underlying3
theorem wmapUnder : Try.prog.underlying 60 = some (.map 3 64) := by kernel_rfl
theorem zeroSl (w : World) : (zeroValue 64).run Try.prog w = .ok (.slice none 0 0) w := by kernel_rfl
theorem wf_int {i : Int} (h : fit i) : (Lit.int .i64 i).wf = true := by
  unfold fit at h
  have e1 : IntKind.i64.min = -9223372036854775808 := rfl
  have e2 : IntKind.i64.max = 9223372036854775807 := rfl
  simp only [Lit.wf, Bool.and_eq_true, decide_eq_true_eq]
  omega
theorem key_int {i : Int} (h : fit i) : keyOf Try.prog 3 (.int .i64 i) = some (.int .i64 i) := keyOf_int_mk Try.underlying3 (wf_int h)

/-- How an element that is a slice reads: as the numbers of its block, place, length and room. -/
def slElem (v : Value) : Option (DataW Unit × List MemPlace) :=
  match v with
  | .slice none n c => some (.agg [.lit (.int .i64 (n : Int)), .lit (.int .i64 (c : Int))], [])
  | .slice (some ⟨g, o, none⟩) n c => some (.agg [.lit (.int .i64 (g : Int)), .lit (.int .i64 (o : Int)), .lit (.int .i64 (n : Int)), .lit (.int .i64 (c : Int))], [])
  | _ => none
theorem slElem_inj {u v : Value} {d : DataW Unit} {p q : List MemPlace} (h : slElem u = some (d, p)) (k : slElem v = some (d, q)) : u = v := by
  unfold slElem at h k
  split at h
  · split at k
    · simp only [Option.some.injEq, Prod.mk.injEq] at h k
      have := h.1.trans k.1.symm
      simp at this
      rw [Int.natCast_inj, Int.natCast_inj] at this
      rw [this.1, this.2]
    · simp only [Option.some.injEq, Prod.mk.injEq] at h k
      have := h.1.trans k.1.symm
      simp at this
    · cases k
  · split at k
    · simp only [Option.some.injEq, Prod.mk.injEq] at h k
      have := h.1.trans k.1.symm
      simp at this
    · simp only [Option.some.injEq, Prod.mk.injEq] at h k
      have := h.1.trans k.1.symm
      simp at this
      rw [Int.natCast_inj, Int.natCast_inj, Int.natCast_inj, Int.natCast_inj] at this
      rw [this.1, this.2.1, this.2.2.1, this.2.2.2]
    · cases k
  · cases h
def dat (v : Value) : DataW Unit := ((slElem v).map (·.1)).getD .nil
def Sl (v : Value) : Prop := slElem v = some (dat v, [])
theorem sl_nil : Sl (.slice none 0 0) := rfl
theorem sl_some (g o n c : Nat) : Sl (.slice (some ⟨g, o, none⟩) n c) := rfl
theorem WRow.isSl {w : World} {e size n : Nat} {v : Value} {xs : List Value} (h : WRow w e size v n xs) : Sl v := by
  rcases h.form with ⟨rfl, _⟩ | ⟨g, o, cap, rfl, _⟩
  · exact sl_nil
  · exact sl_some _ _ _ _

/-- The datum D says what L says, and has s keys. -/
def Says (D : DataW Unit) (L : Int → Option Value) (s : Nat) : Prop :=
  (∀ i : Int, has D (.int .i64 i) = (L i).isSome ∧ ∀ z, D.atKey (.int .i64 i) z = ((L i).map dat).getD z) ∧ size D = s ∧ ∀ i v, L i = some v → Sl v
def SMap (w : World) (b : Nat) (L : Int → Option Value) (s : Nat) : Prop := ∃ D, w.ownsMap Try.prog 3 slElem b s D ∧ Says D L s
def updI {α : Type} (L : Int → Option α) (i : Int) (v : Option α) : Int → Option α := fun j => if j = i then v else L j

section
variable {w w' : World} {b s : Nat} {L : Int → Option Value}
theorem own_tight {n : Nat} {D : DataW Unit} (h : w.ownsMap Try.prog 3 slElem b n D) : w.ownsMap Try.prog 3 slElem b (size D) D := by
  obtain ⟨es, clock, hb, F, hs, rfl⟩ := h
  refine ⟨es, clock, hb, F, ?_, rfl⟩
  simp [Maps.size, length_sorted]
theorem SMap.lt (h : SMap w b L s) : b < w.heap.size := by obtain ⟨D, h1, _⟩ := h; exact h1.lt
theorem SMap.kept {G : Nat → Prop} (h : SMap w b L s) (t : Turn G w w') (hG : ¬ G b) : SMap w' b L s := by
  obtain ⟨D, ⟨es, clock, hb, r⟩, hS⟩ := h
  exact ⟨D, ⟨es, clock, t.heap hb hG, r⟩, hS⟩
theorem SMap.past (h : SMap w b L s) (t : Turn NoBlock w w') : SMap w' b L s := h.kept t (fun h => h)
theorem SMap.isMap (h : SMap w b L s) : ∃ es clock, w.heap[b]? = some (.map es clock) := by
  obtain ⟨D, ⟨es, clock, hb, r⟩, hS⟩ := h
  exact ⟨es, clock, hb⟩
theorem SMap.no_cells (h : SMap w b L s) {e : TypeId} : ¬ TBlk w b e := by
  rintro ⟨cur, hc⟩
  obtain ⟨es, clock, hb⟩ := h.isMap
  rw [hc] at hb
  cases hb
theorem SMap.made (w : World) : SMap (w.alloc (.map #[] 0)) w.heap.size (fun _ => none) 0 := ⟨_, World.ownsMap_made w Try.prog 3 slElem, fun _ => ⟨rfl, fun _ => rfl⟩, rfl, fun _ _ h => by cases h⟩
theorem int_ne {i j : Int} (h : j ≠ i) : (Lit.int .i64 j) ≠ (Lit.int .i64 i) := fun e => h (by injection e)
theorem turn_map {b : Nat} {w w' : World} (h : w.mapTurned w' b) : Turn (fun k => k = b) w w' := (Turn.refl _ w).grown h.grown (fun k hk => by cases hk; exact .inl rfl)

theorem SMap.put (h : SMap w b L s) (hs : s < maxLen) {i : Int} (hi : fit i) {v : Value} (hv : Sl v) :
    ∃ w', Sem.run Try.prog (Instr.mapUpdate 60 (.map (some b)) (.int .i64 i) v) w = .ok () w' ∧ SMap w' b (updI L i (some v)) (if (L i).isSome then s else s + 1) ∧ Turn (fun k => k = b) w w' := by
  obtain ⟨D, hm, hS⟩ := h
  obtain ⟨w', hrun, hown, hturn⟩ := hm.store intKey wmapUnder hs (key_int hi) hv
  have hT : Tidy D := hm.tidy intKey
  have hk : WideAt.IsKeyLit (.int .i64 i) := trivial
  have hsz : size (D.put (.int .i64 i) (dat v)) = if (L i).isSome then s else s + 1 := by
    rw [size_put hT, (hS.1 i).1, hS.2.1]
  refine ⟨w', hrun, ⟨_, hsz ▸ own_tight hown, fun j => ?_, hsz, fun j u hu => ?_⟩, turn_map hturn⟩
  · unfold updI
    by_cases hj : j = i
    · subst hj
      simp only [if_pos]
      exact ⟨has_put_same hT.isMap hk _, fun z => atKey_put_same hT.isMap hk _ z⟩
    · simp only [if_neg hj]
      rw [has_put_other (int_ne hj) _]
      exact ⟨(hS.1 j).1, fun z => by rw [atKey_put_other (int_ne hj) _ z]; exact (hS.1 j).2 z⟩
  · unfold updI at hu
    by_cases hj : j = i
    · rw [if_pos hj] at hu
      cases hu
      exact hv
    · rw [if_neg hj] at hu
      exact hS.2.2 j u hu

theorem says_del {D : DataW Unit} (hS : Says D L s) (hT : Tidy D) (i : Int) : Says (D.del (.int .i64 i)) (updI L i none) (if (L i).isSome then s - 1 else s) := by
  refine ⟨fun j => ?_, ?_, fun j u hu => ?_⟩
  · unfold updI
    by_cases hj : j = i
    · subst hj
      simp only [if_pos]
      exact ⟨has_del_same, fun z => atKey_del_same z⟩
    · simp only [if_neg hj]
      rw [has_del_other (int_ne hj)]
      exact ⟨(hS.1 j).1, fun z => by rw [atKey_del_other (int_ne hj) z]; exact (hS.1 j).2 z⟩
  · have h1 := size_del (k := .int .i64 i) hT
    rw [(hS.1 i).1, hS.2.1] at h1
    by_cases hL : (L i).isSome = true
    · rw [if_pos hL] at h1 ⊢
      omega
    · rw [if_neg hL] at h1 ⊢
      omega
  · unfold updI at hu
    by_cases hj : j = i
    · rw [if_pos hj] at hu; cases hu
    · rw [if_neg hj] at hu; exact hS.2.2 j u hu
theorem SMap.drop (h : SMap w b L s) {i : Int} (hi : fit i) (ty : TypeId) :
    ∃ w', Sem.run Try.prog (Builtin.delete_ #[60, 3] ty #[.map (some b), .int .i64 i]) w = .ok (.tuple #[]) w' ∧ SMap w' b (updI L i none) (if (L i).isSome then s - 1 else s) ∧ Turn (fun k => k = b) w w' := by
  obtain ⟨D, hm, hS⟩ := h
  obtain ⟨w', hrun, hown, hturn⟩ := hm.drop intKey wmapUnder (key_int hi) ty
  have hS2 := says_del hS (hm.tidy intKey) i
  exact ⟨w', hrun, ⟨_, hS2.2.1 ▸ own_tight hown, hS2⟩, turn_map hturn⟩
theorem SMap.look (h : SMap w b L s) {i : Int} (hi : fit i) : Sem.run Try.prog (Instr.lookup 60 (.map (some b)) (.int .i64 i) false) w = .ok ((L i).getD (.slice none 0 0)) w := by
  obtain ⟨D, hm, hS⟩ := h
  obtain ⟨v, ps, hrun, hv⟩ := hm.lookup intKey wmapUnder (zeroSl w) (zd := dat (.slice none 0 0)) (zp := []) rfl (key_int hi)
  rw [(hS.1 i).2] at hv
  have : v = (L i).getD (.slice none 0 0) := by
    cases hL : L i with
    | none => rw [hL] at hv; exact slElem_inj hv rfl
    | some u => rw [hL] at hv; exact slElem_inj hv (hS.2.2 i u hL)
  rw [hrun, this]
end
end Go.Proofs.Ytcnellkoejhofaa
