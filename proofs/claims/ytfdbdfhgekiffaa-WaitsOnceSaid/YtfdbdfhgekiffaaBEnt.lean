/-
  A map from numbers to the law's entries, as a plain function and how many there are. No conditions.
-/
import Derived.Test.YtfdbdfhgekiffaaBView
namespace Go.Proofs.Ytfdbdfhgekiffaa
open Go.ChangeShapes Go.WideShapes Go.ChangeAt Go.RowKit Go.Maps

def entA (d : Int) (s : Value) : Value := .agg #[.int .i64 d, s]
theorem emapUnder : Try.prog.underlying 60 = some (.map 3 62) := by kernel_rfl
theorem zeroEn (w : World) : (zeroValue 62).run Try.prog w = .ok (entA 0 (.slice none 0 0)) w := by kernel_rfl
/-- How an entry reads: its deadline, and the numbers of its slice. -/
def eElem (v : Value) : Option (DataW Unit × List MemPlace) :=
  match v with
  | .agg a => (match a.toList with
    | [.int .i64 d, .slice none n c] => some (.agg [.lit (.int .i64 d), .lit (.int .i64 (n : Int)), .lit (.int .i64 (c : Int))], [])
    | [.int .i64 d, .slice (some ⟨g, o, none⟩) n c] => some (.agg [.lit (.int .i64 d), .lit (.int .i64 (g : Int)), .lit (.int .i64 (o : Int)), .lit (.int .i64 (n : Int)), .lit (.int .i64 (c : Int))], [])
    | _ => none)
  | _ => none
theorem eElem_form {u : Value} {x : DataW Unit × List MemPlace} (h : eElem u = some x) : (∃ (d : Int) (n c : Nat), u = entA d (.slice none n c) ∧ x = (.agg [.lit (.int .i64 d), .lit (.int .i64 (n : Int)), .lit (.int .i64 (c : Int))], [])) ∨ ∃ (d : Int) (g o n c : Nat), u = entA d (.slice (some ⟨g, o, none⟩) n c) ∧ x = (.agg [.lit (.int .i64 d), .lit (.int .i64 (g : Int)), .lit (.int .i64 (o : Int)), .lit (.int .i64 (n : Int)), .lit (.int .i64 (c : Int))], []) := by
  unfold eElem at h
  split at h
  · rename_i a
    split at h
    · rename_i d n c he
      refine .inl ⟨d, n, c, ?_, ?_⟩
      · unfold entA
        rw [Value.agg.injEq]
        exact Array.toList_inj.1 he
      · exact (Option.some.inj h).symm
    · rename_i d g o n c he
      refine .inr ⟨d, g, o, n, c, ?_, ?_⟩
      · unfold entA
        rw [Value.agg.injEq]
        exact Array.toList_inj.1 he
      · exact (Option.some.inj h).symm
    · cases h
  · cases h
theorem eElem_inj {u v : Value} {d : DataW Unit} {p q : List MemPlace} (h : eElem u = some (d, p)) (k : eElem v = some (d, q)) : u = v := by
  rcases eElem_form h with ⟨d1, n1, c1, rfl, e1⟩ | ⟨d1, g1, o1, n1, c1, rfl, e1⟩ <;> rcases eElem_form k with ⟨d2, n2, c2, rfl, e2⟩ | ⟨d2, g2, o2, n2, c2, rfl, e2⟩
  · have e3 := congrArg Prod.fst e1
    have e4 := congrArg Prod.fst e2
    have e5 := e3.symm.trans e4
    simp only [DataW.agg.injEq, List.cons.injEq, DataW.lit.injEq, Lit.int.injEq, true_and, and_true, Int.natCast_inj] at e5
    rw [e5.1, e5.2.1, e5.2.2]
  · have e3 := congrArg Prod.fst e1
    have e4 := congrArg Prod.fst e2
    have e5 := e3.symm.trans e4
    simp at e5
  · have e3 := congrArg Prod.fst e1
    have e4 := congrArg Prod.fst e2
    have e5 := e3.symm.trans e4
    simp at e5
  · have e3 := congrArg Prod.fst e1
    have e4 := congrArg Prod.fst e2
    have e5 := e3.symm.trans e4
    simp only [DataW.agg.injEq, List.cons.injEq, DataW.lit.injEq, Lit.int.injEq, true_and, and_true, Int.natCast_inj] at e5
    rw [e5.1, e5.2.1, e5.2.2.1, e5.2.2.2.1, e5.2.2.2.2]
def datE (v : Value) : DataW Unit := ((eElem v).map (·.1)).getD .nil
def Se (v : Value) : Prop := eElem v = some (datE v, [])
theorem se_nil (d : Int) (n c : Nat) : Se (entA d (.slice none n c)) := rfl
theorem se_some (d : Int) (g o n c : Nat) : Se (entA d (.slice (some ⟨g, o, none⟩) n c)) := rfl
/-- A slice that can be read lies as slices do. -/
theorem RdIt.se {w : World} {v : Value} {its : List It} (h : RdIt w v its) (d : Int) (h0 : 0 < its.length) : Se (entA d v) := by
  obtain ⟨p, c, rfl, hn, hc⟩ := (h.1.rd h0).form
  cases p with
  | none => exact se_nil _ _ _
  | some a =>
    obtain ⟨g, o, rfl, _⟩ := hc a rfl
    exact se_some _ _ _ _ _

/-- The datum D says what L says, and has s keys. -/
def SaysE (D : DataW Unit) (L : Int → Option Value) (s : Nat) : Prop :=
  (∀ i : Int, has D (.int .i64 i) = (L i).isSome ∧ ∀ z, D.atKey (.int .i64 i) z = ((L i).map datE).getD z) ∧ size D = s ∧ ∀ i v, L i = some v → Se v
def EMap (w : World) (b : Nat) (L : Int → Option Value) (s : Nat) : Prop := ∃ D, w.ownsMap Try.prog 3 eElem b s D ∧ SaysE D L s

section
variable {w w' : World} {b s : Nat} {L : Int → Option Value}
theorem EMap.lt (h : EMap w b L s) : b < w.heap.size := by obtain ⟨D, h1, _⟩ := h; exact h1.lt
theorem EMap.kept {G : Nat → Prop} (h : EMap w b L s) (t : Turn G w w') (hG : ¬ G b) : EMap w' b L s := by
  obtain ⟨D, ⟨es, clock, hb, r⟩, hS⟩ := h
  exact ⟨D, ⟨es, clock, t.heap hb hG, r⟩, hS⟩
theorem EMap.past (h : EMap w b L s) (t : Turn NoBlock w w') : EMap w' b L s := h.kept t (fun h => h)
theorem EMap.isMap (h : EMap w b L s) : ∃ es clock, w.heap[b]? = some (.map es clock) := by
  obtain ⟨D, ⟨es, clock, hb, r⟩, hS⟩ := h
  exact ⟨es, clock, hb⟩
theorem EMap.no_cells (h : EMap w b L s) {e : TypeId} : ¬ TBlk w b e := by
  rintro ⟨cur, hc⟩
  obtain ⟨es, clock, hb⟩ := h.isMap
  rw [hc] at hb
  cases hb
theorem EMap.made (w : World) : EMap (w.alloc (.map #[] 0)) w.heap.size (fun _ => none) 0 := ⟨_, World.ownsMap_made w Try.prog 3 eElem, fun _ => ⟨rfl, fun _ => rfl⟩, rfl, fun _ _ h => by cases h⟩
theorem EMap.put (h : EMap w b L s) (hs : s < maxLen) {i : Int} (hi : fit i) {v : Value} (hv : Se v) :
    ∃ w', Sem.run Try.prog (Instr.mapUpdate 60 (.map (some b)) (.int .i64 i) v) w = .ok () w' ∧ EMap w' b (updI L i (some v)) (if (L i).isSome then s else s + 1) ∧ Turn (fun k => k = b) w w' := by
  obtain ⟨D, hm, hS⟩ := h
  obtain ⟨w', hrun, hown, hturn⟩ := hm.store intKey emapUnder hs (key_int hi) hv
  have hT : Tidy D := hm.tidy intKey
  have hk : WideAt.IsKeyLit (.int .i64 i) := trivial
  have hsz : size (D.put (.int .i64 i) (datE v)) = if (L i).isSome then s else s + 1 := by
    rw [size_put hT, (hS.1 i).1, hS.2.1]
  refine ⟨w', hrun, ⟨_, hsz ▸ own_tight hown, fun j => ?_, hsz, fun j u hu => ?_⟩, turn_map hturn⟩
  · unfold updI
    by_cases hj : j = i
    · subst hj
      simp only [if_pos]
      exact ⟨has_put_same hT.isMap hk _, fun z => atKey_put_same hT.isMap hk _ z⟩
    · simp only [if_neg hj]
      rw [has_put_other (int_ne hj) _]
      exact ⟨(hS.1 j).1, fun z => by rw [atKey_put_other (int_ne hj) _ z]; exact (hS.1 j).2 z⟩
  · unfold updI at hu
    by_cases hj : j = i
    · rw [if_pos hj] at hu
      cases hu
      exact hv
    · rw [if_neg hj] at hu
      exact hS.2.2 j u hu

theorem saysE_del {D : DataW Unit} (hS : SaysE D L s) (hT : Tidy D) (i : Int) : SaysE (D.del (.int .i64 i)) (updI L i none) (if (L i).isSome then s - 1 else s) := by
  refine ⟨fun j => ?_, ?_, fun j u hu => ?_⟩
  · unfold updI
    by_cases hj : j = i
    · subst hj
      simp only [if_pos]
      exact ⟨has_del_same, fun z => atKey_del_same z⟩
    · simp only [if_neg hj]
      rw [has_del_other (int_ne hj)]
      exact ⟨(hS.1 j).1, fun z => by rw [atKey_del_other (int_ne hj) z]; exact (hS.1 j).2 z⟩
  · have h1 := size_del (k := .int .i64 i) hT
    rw [(hS.1 i).1, hS.2.1] at h1
    by_cases hL : (L i).isSome = true
    · rw [if_pos hL] at h1 ⊢
      omega
    · rw [if_neg hL] at h1 ⊢
      omega
  · unfold updI at hu
    by_cases hj : j = i
    · rw [if_pos hj] at hu; cases hu
    · rw [if_neg hj] at hu; exact hS.2.2 j u hu
theorem EMap.drop (h : EMap w b L s) {i : Int} (hi : fit i) (ty : TypeId) :
    ∃ w', Sem.run Try.prog (Builtin.delete_ #[60, 3] ty #[.map (some b), .int .i64 i]) w = .ok (.tuple #[]) w' ∧ EMap w' b (updI L i none) (if (L i).isSome then s - 1 else s) ∧ Turn (fun k => k = b) w w' := by
  obtain ⟨D, hm, hS⟩ := h
  obtain ⟨w', hrun, hown, hturn⟩ := hm.drop intKey emapUnder (key_int hi) ty
  have hS2 := saysE_del hS (hm.tidy intKey) i
  exact ⟨w', hrun, ⟨_, hS2.2.1 ▸ own_tight hown, hS2⟩, turn_map hturn⟩
theorem EMap.look (h : EMap w b L s) {i : Int} (hi : fit i) : Sem.run Try.prog (Instr.lookup 60 (.map (some b)) (.int .i64 i) false) w = .ok ((L i).getD (entA 0 (.slice none 0 0))) w := by
  obtain ⟨D, hm, hS⟩ := h
  obtain ⟨v, ps, hrun, hv⟩ := hm.lookup intKey emapUnder (zeroEn w) (zd := datE (entA 0 (.slice none 0 0))) (zp := []) rfl (key_int hi)
  rw [(hS.1 i).2] at hv
  have : v = (L i).getD (entA 0 (.slice none 0 0)) := by
    cases hL : L i with
    | none => rw [hL] at hv; exact eElem_inj hv rfl
    | some u => rw [hL] at hv; exact eElem_inj hv (hS.2.2 i u hL)
  rw [hrun, this]
theorem EMap.look2 (h : EMap w b L s) {i : Int} (hi : fit i) : Sem.run Try.prog (Instr.lookup 60 (.map (some b)) (.int .i64 i) true) w = .ok (.tuple #[(L i).getD (entA 0 (.slice none 0 0)), .bool (L i).isSome]) w := by
  obtain ⟨D, hm, hS⟩ := h
  obtain ⟨v, ps, hrun, hv⟩ := hm.look_ok intKey emapUnder (zeroEn w) (zd := datE (entA 0 (.slice none 0 0))) (zp := []) rfl (key_int hi)
  rw [(hS.1 i).1] at hrun
  rw [(hS.1 i).2] at hv
  have : v = (L i).getD (entA 0 (.slice none 0 0)) := by
    cases hL : L i with
    | none => rw [hL] at hv; exact eElem_inj hv rfl
    | some u => rw [hL] at hv; exact eElem_inj hv (hS.2.2 i u hL)
  rw [hrun, this]
theorem EMap.len (h : EMap w b L s) (ty : TypeId) : Sem.run Try.prog (Builtin.len_ #[60] ty #[.map (some b)]) w = .ok (.int .i64 s) w := by
  obtain ⟨D, hm, hS⟩ := h
  rw [← hS.2.1]
  exact hm.len emapUnder ty
end
end Go.Proofs.Ytfdbdfhgekiffaa
