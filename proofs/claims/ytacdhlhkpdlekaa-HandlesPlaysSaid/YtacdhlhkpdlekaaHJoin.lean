/-
  'append(xs, ys...)' of two slices of numbers of the call's own, whatever their lengths; slices of one and of two numbers that a call lays. No conditions.
-/
import Derived.Test.YtacdhlhkpdlekaaHSw
import Derived.Maps.AppendAt
import Derived.Laws.OwnMore
import Derived.Deep.AppendLies
import Derived.RegionTactic
import Derived.WideShapes
namespace Go.Proofs.Ytacdhlhkpdlekaa
open Go.RowKit

theorem ints_new1 (w : World) (x : Int) : Ints (.slice (some ⟨w.heap.size, 0, none⟩) 1 1) [x] (w.alloc (.cells #[.int .i64 x] 3)) :=
  ⟨rfl, .inr ⟨w.heap.size, 1, #[.int .i64 x], rfl, Nat.zero_le _, heap_alloc_new w _, Nat.le_refl _, by decide, rfl, rfl⟩⟩

/-- What the append leaves, told of the slices alone. -/
def Joined (vs : Value) (xs ys : List Int) (w : World) (v' : Value) (w' : World) : Prop :=
  Ints v' (xs ++ ys) w' ∧ Turn (Blk vs) w w' ∧ (∀ k, Blk v' k → Blk vs k ∨ w.heap.size ≤ k) ∧ (vs = .slice none 0 0 → ys = [] → v' = .slice none 0 0)

/-- Numbers that can be read, wherever they lie. -/
def Src (w : World) (v : Value) (ys : List Int) : Prop :=
  (v = .slice none 0 0 ∧ ys = []) ∨ ∃ g off c, v = .slice (some ⟨g, off, none⟩) ys.length c ∧ ∀ j, j < ys.length → w.cell? ⟨g, off + j, none⟩ = some (.int .i64 (ys.getD j 0))

theorem Src.past {w w' : World} {v : Value} {ys : List Int} (h : Src w v ys) (ht : Turn NoBlock w w') : Src w' v ys := by
  rcases h with h | ⟨g, off, c, rfl, hc⟩
  · exact .inl h
  · exact .inr ⟨g, off, c, rfl, fun j hj => ht.cell (hc j hj) (fun h => h)⟩
theorem Src.of_ints {w : World} {v : Value} {ys : List Int} (h : Ints v ys w) : Src w v ys := by
  rcases h.2 with ⟨rfl, h0⟩ | ⟨g, cap, cur, rfl, _⟩
  · exact .inl ⟨rfl, List.eq_nil_of_length_eq_zero h0⟩
  · refine .inr ⟨g, 0, cap, rfl, fun j hj => ?_⟩
    rw [Nat.zero_add]
    exact ints_cell h j hj
/-- 'xs[:k]', 'xs[k:]' of a slice that is not nil. -/
theorem Src.take {w : World} {g n c k : Nat} {xs : List Int} (h : Ints (.slice (some ⟨g, 0, none⟩) n c) xs w) (hk : k ≤ xs.length) : Src w (.slice (some ⟨g, 0, none⟩) k c) (xs.take k) := by
  refine .inr ⟨g, 0, c, by rw [List.length_take, Nat.min_eq_left hk], fun j hj => ?_⟩
  rw [List.length_take] at hj
  rw [Nat.zero_add, ints_cell h j (by omega)]
  simp [List.getD, show j < k by omega]
theorem Src.drop {w : World} {g n c k d : Nat} {xs : List Int} (h : Ints (.slice (some ⟨g, 0, none⟩) n c) xs w) (hk : k < xs.length) : Src w (.slice (some ⟨g, k, none⟩) (xs.length - k) d) (xs.drop k) := by
  refine .inr ⟨g, k, d, by rw [List.length_drop], fun j hj => ?_⟩
  rw [List.length_drop] at hj
  rw [ints_cell h (k + j) (by omega)]
  simp [List.getD]
theorem Src.none_left {w : World} {g o c : Nat} : Src w (.slice (some ⟨g, o, none⟩) 0 c) [] := .inr ⟨g, o, c, rfl, fun j hj => absurd hj (Nat.not_lt_zero j)⟩

theorem ints_new0 (w : World) : Ints (.slice (some ⟨w.heap.size, 0, none⟩) 0 0) [] (w.alloc (.cells #[] 3)) :=
  ⟨rfl, .inr ⟨w.heap.size, 0, #[], rfl, Nat.zero_le _, heap_alloc_new w _, Nat.le_refl _, by decide, rfl, rfl⟩⟩

theorem run_join (w : World) (ty : TypeId) (vs vy : Value) (xs ys : List Int) (hs : Ints vs xs w) (hy : Src w vy ys) (hl : xs.length + ys.length ≤ 1000000) :
    ∃ v' w', (Builtin.append_ #[27, 27] ty #[vs, vy]).run Try.prog w = .ok v' w' ∧ Joined vs xs ys w v' w' := by
  obtain ⟨i0, hi, hz0, hz1, hz2⟩ := info_parts info3
  rcases hy with ⟨rfl, rfl⟩ | ⟨g, off, c, rfl, hc⟩
  · refine ⟨vs, w, run_append_owned_none (P := Try.prog) w 0 27 ty 3 i0 1 slice27 hi vs xs.length (xs.map (Value.int .i64)) hs, ?_, Turn.refl _ _, fun k h => .inl h, fun h _ => h⟩
    rw [List.append_nil]; exact hs
  · have hlm : (ys.map (Value.int .i64)).length = ys.length * 1 := by simp
    have hcells : ∀ (j : Nat) (u : Value), (ys.map (Value.int .i64))[j]? = some u → w.cell? ((⟨g, off, none⟩ : Addr).add j) = some u := by
      intro j u hu
      rw [Go.WideShapes.add_plain]
      have hj : j < ys.length := by
        have := (List.getElem?_eq_some_iff.1 hu).1
        simpa using this
      rw [hc j hj, ← hu]
      simp [List.getD, List.getElem?_eq_getElem hj]
    obtain ⟨v', w', hr, h2, h3, h4, h5⟩ := run_append_own_at (P := Try.prog) w 0 27 ty 3 i0 (.int .i64 0) 1 8 slice27 hi hz0 hz1 hz2 rfl (by decide) vs xs.length (xs.map (Value.int .i64)) hs ⟨g, off, none⟩ ys.length c (ys.map (Value.int .i64)) hlm hcells
      (fun u hu => by obtain ⟨x, _, rfl⟩ := List.mem_map.1 hu; rfl) (by unfold maxLen; omega) (by omega) (Nat.zero_le _)
    refine ⟨v', w', hr, ?_, (Turn.refl _ w).grown h3 (fun k hk => .inl hk), fun k hk => ?_, fun e hn => h4.2 ⟨e, by rw [hn]; rfl⟩⟩
    · unfold Ints
      rw [List.map_append, List.length_append]
      exact h2
    · rcases h5 with h5 | h5
      · left; unfold Blk at *; rw [← h5]; exact hk
      · right; unfold Blk at hk; rw [h5] at hk; injection hk with hk; omega

theorem wp_join (w : World) {o : Oper} {a : Act} {K : Act → World → Prop} {Q : Exit → Act → World → Prop} (s x : Operand)
    (ho : o.op = .call { callee := .builtin .append, args := #[s, x], argTypes := #[27, 27] }) (vs vy : Value) (xs ys : List Int) (hvs : a.eval s = vs) (hvy : a.eval x = vy)
    (hs : Ints vs xs w) (hy : Src w vy ys) (hl : xs.length + ys.length ≤ 1000000) (h : ∀ v' w', Joined vs xs ys w v' w' → K (a.put o.dst v') w') : o.wp Try.prog a w K Q := by
  obtain ⟨v', w', hr, hj⟩ := run_join w o.type vs vy xs ys hs hy hl
  unfold Oper.wp execOp
  simp only [ho, resolve, invoke, builtin, Sem.run_bind, Sem.run_pure, Result.andThen_ok, List.map_toArray, List.map_cons, List.map_nil, hvs, hvy, hr]
  exact h v' w' hj

/-- In a plain region. -/
theorem wpList_join (w : World) {ops : Array Oper} {rest : List Oper} {o : Oper} {a : Act} {Q : Exit → Act → World → Prop} (hg : o.guard = none) (s x : Operand)
    (ho : o.op = .call { callee := .builtin .append, args := #[s, x], argTypes := #[27, 27] }) (vs vy : Value) (xs ys : List Int) (hvs : a.eval s = vs) (hvy : a.eval x = vy)
    (hs : Ints vs xs w) (hy : Src w vy ys) (hl : xs.length + ys.length ≤ 1000000) (h : ∀ v' w', Joined vs xs ys w v' w' → wpList Try.prog ops Q rest (a.put o.dst v') w') : wpList Try.prog ops Q (o :: rest) a w :=
  wpList_plain hg fun _ hK => wp_join w s x ho vs vy xs ys hvs hvy hs hy hl fun v' w' hj => hK _ _ (h v' w' hj)

/-- At a step of a region that draws its order. -/
theorem step_join (w : World) {ops : Array Oper} {o : Oper} {a : Act} {K : Act → World → Prop} {Q : Exit → Act → World → Prop} {E : Prop} (hg : o.guard = none) (s x : Operand)
    (ho : o.op = .call { callee := .builtin .append, args := #[s, x], argTypes := #[27, 27] }) (vs vy : Value) (xs ys : List Int) (hvs : a.eval s = vs) (hvy : a.eval x = vy)
    (hs : Ints vs xs w) (hy : Src w vy ys) (hl : xs.length + ys.length ≤ 1000000) (h : ∀ v' w', Joined vs xs ys w v' w' → K (a.put o.dst v') w') :
    if Region.wanted o (yielded ops a.tmps) = true then Oper.wp Try.prog o a w K Q else E := by
  have hw : Region.wanted o (yielded ops a.tmps) = true := by simp [Region.wanted, hg]
  rw [if_pos hw]
  exact wp_join w s x ho vs vy xs ys hvs hvy hs hy hl h

/-- An append onto numbers that were laid just now. -/
theorem new_join0 {W Wd w1 : World} {v1 : Value} {ys : List Int} {n c m : Nat} (hT : Turn NoBlock W Wd) (J : Joined (.slice (some ⟨W.heap.size, 0, none⟩) n c) [] ys Wd v1 w1) (hm : ys.length = m) :
    ∃ pv cv, v1 = .slice pv m cv ∧ Ints (.slice pv m cv) ys w1 ∧ Turn NoBlock W w1 ∧ ∀ j, Blk (.slice pv m cv) j → W.heap.size ≤ j := by
  have hs := hT.size
  have h1 : Turn NoBlock W w1 := hT.trans J.2.1 (fun k hk => .inr (by simp [Blk, Value.ownBlock] at hk; omega))
  have h2 : ∀ j, Blk v1 j → W.heap.size ≤ j := fun k hk => by
    rcases J.2.2.1 k hk with h | h
    · simp [Blk, Value.ownBlock] at h; omega
    · omega
  have h3 := J.1
  rw [List.nil_append] at h3
  obtain ⟨pv, cv, hv⟩ := ints_slice h3
  rw [hm] at hv
  subst hv
  exact ⟨pv, cv, rfl, h3, h1, h2⟩
theorem ints_kept {w w' : World} {v : Value} {xs : List Int} {T : Nat → Prop} (h : Ints v xs w) (t : Turn T w w') (hn : ∀ j, Blk v j → ¬ T j) : Ints v xs w' := (own_ints _ _).kept _ _ _ h t hn
theorem ents_kept {w w' : World} {v : Value} {xs : List Ent} {T : Nat → Prop} (h : Ents v xs w) (t : Turn T w w') (hn : ∀ j, Blk v j → ¬ T j) : Ents v xs w' := (own_ents _ _).kept _ _ _ h t hn
end Go.Proofs.Ytacdhlhkpdlekaa
