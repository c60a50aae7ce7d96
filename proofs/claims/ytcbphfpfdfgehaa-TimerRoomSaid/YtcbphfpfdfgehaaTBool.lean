/-
  A map from numbers to bools as a set, beside timers. No walk, no conditions.
-/
import Derived.Test.YtcbphfpfdfgehaaTAwake
namespace Go.Proofs.Ytcbphfpfdfgehaa
open Go.ChangeShapes Go.WideShapes Go.ChangeAt Go.RowKit Go.Maps

theorem bmapUnder : Try.prog.underlying 82 = some (.map 3 4) := by kernel_rfl
theorem zeroBool (w : World) : (zeroValue 4).run Try.prog w = .ok (.bool false) w := by kernel_rfl
def boolElem (v : Value) : Option (DataW Unit × List MemPlace) :=
  match v with
  | .bool b => some (.lit (.int .i64 (if b = true then 1 else 0)), [])
  | _ => none
theorem boolElem_inv {v : Value} {ps : List MemPlace} {b : Bool} (h : boolElem v = some (.lit (.int .i64 (if b = true then 1 else 0)), ps)) : v = .bool b := by
  unfold boolElem at h
  split at h
  · rename_i c
    cases b <;> cases c <;> simp at h <;> rfl
  · cases h
/-- A set of numbers, as a map to true. -/
def BMap (w : World) (b : Nat) (K : Int → Bool) (s : Nat) : Prop := IMap boolElem w b (fun i => if K i = true then some 1 else none) s
section
variable {w w' : World} {b s : Nat} {K : Int → Bool}
theorem BMap.past {G : Nat → Prop} (h : BMap w b K s) (t : Turn G w w') (hG : ¬ G b) : BMap w' b K s := IMap.past h t hG
theorem bmap_made (w : World) : BMap (w.alloc (.map #[] 0)) w.heap.size (fun _ => false) 0 := by
  have := IMap.made (R := boolElem) w
  unfold BMap
  simpa using this
theorem BMap.look (h : BMap w b K s) (i : Int) (hi : fit i) : Sem.run Try.prog (Instr.lookup 82 (.map (some b)) (.int .i64 i) false) w = .ok (.bool (K i)) w := by
  obtain ⟨D, hm, hS⟩ := h
  obtain ⟨v, ps, hrun, hv⟩ := hm.lookup intKey bmapUnder (zeroBool w) (zd := .lit (.int .i64 (if false = true then 1 else 0))) (zp := []) rfl (key_int hi)
  rw [(hS.1 i).2] at hv
  have : v = .bool (K i) := by
    cases hK : K i with
    | false => simp only [hK] at hv; exact boolElem_inv (b := false) hv
    | true => simp only [hK] at hv; exact boolElem_inv (b := true) hv
  rw [hrun, this]
theorem BMap.put (h : BMap w b K s) (hs : s < maxLen) (i : Int) (hi : fit i) :
    ∃ w', Sem.run Try.prog (Instr.mapUpdate 82 (.map (some b)) (.int .i64 i) (.bool true)) w = .ok () w' ∧ BMap w' b (fun j => if j = i then true else K j) (if K i = true then s else s + 1) ∧ Turn (fun k => k = b) w w' := by
  obtain ⟨w', h1, h2, h3⟩ := IMap.put h bmapUnder hs hi (val := .bool true) (v := 1) (ps := []) rfl
  refine ⟨w', h1, ?_, h3⟩
  unfold BMap
  have e : (fun j => if (if j = i then true else K j) = true then some (1 : Int) else none) = updI (fun j => if K j = true then some (1 : Int) else none) i (some 1) := by
    funext j
    unfold updI
    by_cases hj : j = i <;> simp [hj]
  have e2 : (if (if K i = true then some (1 : Int) else none).isSome = true then s else s + 1) = if K i = true then s else s + 1 := by cases K i <;> rfl
  rw [e]
  rw [e2] at h2
  exact h2
theorem BMap.drop (h : BMap w b K s) (i : Int) (hi : fit i) :
    ∃ w', (∀ ty, Sem.run Try.prog (Builtin.delete_ #[82, 3] ty #[.map (some b), .int .i64 i]) w = .ok (.tuple #[]) w') ∧ BMap w' b (fun j => if j = i then false else K j) (if K i = true then s - 1 else s) ∧ Turn (fun k => k = b) w w' := by
  obtain ⟨w', h1, h2, h3⟩ := IMap.drop h bmapUnder hi 0
  refine ⟨w', fun ty => h1, ?_, h3⟩
  unfold BMap
  have e : (fun j => if (if j = i then false else K j) = true then some (1 : Int) else none) = updI (fun j => if K j = true then some (1 : Int) else none) i none := by
    funext j
    unfold updI
    by_cases hj : j = i <;> simp [hj]
  have e2 : (if (if K i = true then some (1 : Int) else none).isSome = true then s - 1 else s) = if K i = true then s - 1 else s := by cases K i <;> rfl
  rw [e]
  rw [e2] at h2
  exact h2
theorem BMap.len (h : BMap w b K s) (ty : TypeId) : Sem.run Try.prog (Builtin.len_ #[82] ty #[.map (some b)]) w = .ok (.int .i64 s) w := IMap.len h bmapUnder ty
theorem BMap.lt (h : BMap w b K s) : b < w.heap.size := IMap.lt h
theorem BMap.kp {X : Nat → Prop} (h : BMap w b K s) (k : Kp X w w') (hx : X b) : BMap w' b K s := by
  obtain ⟨F, t, hF⟩ := k
  exact h.past t (hF b hx)
end
/-- Timers, and a set beside them. -/
structure RS (w0 w : World) (c : Nat) (most : Int) (L : List En) (mb : Nat) (K : Int → Bool) (s : Nat) : Prop where
  st : TSt w0 w c most 0 L (fun k => k = mb)
  mp : BMap w mb K s
  lo : w0.heap.size ≤ mb
section
variable {w0 w w' : World} {c mb s : Nat} {most : Int} {L : List En} {K : Int → Bool}
theorem RS.same (h : RS w0 w c most L mb K s) {L' : List En} {K' : Int → Bool} {s' : Nat} (e1 : L = L') (e2 : K = K') (e3 : s = s') : RS w0 w c most L' mb K' s' := by
  subst e1 e2 e3; exact h
theorem RS.map (h : RS w0 w c most L mb K s) {K' : Int → Bool} {s' : Nat} (m : BMap w' mb K' s') (t : Turn (fun k => k = mb) w w') : RS w0 w' c most L mb K' s' :=
  ⟨h.st.turned t (fun k hk => ⟨hk, by have := h.lo; omega⟩) (fun _ hk => .inl hk), m, h.lo⟩
theorem RS.put (h : RS w0 w c most L mb K s) (hs : s < maxLen) (i : Int) (hi : fit i) : ∃ w', Sem.run Try.prog (Instr.mapUpdate 82 (.map (some mb)) (.int .i64 i) (.bool true)) w = .ok () w' ∧ RS w0 w' c most L mb (fun j => if j = i then true else K j) (if K i = true then s else s + 1) := by
  obtain ⟨w', h1, h2, h3⟩ := h.mp.put hs i hi
  exact ⟨w', h1, h.map h2 h3⟩
theorem RS.drop (h : RS w0 w c most L mb K s) (i : Int) (hi : fit i) : ∃ w', (∀ ty, Sem.run Try.prog (Builtin.delete_ #[82, 3] ty #[.map (some mb), .int .i64 i]) w = .ok (.tuple #[]) w') ∧ RS w0 w' c most L mb (fun j => if j = i then false else K j) (if K i = true then s - 1 else s) := by
  obtain ⟨w', h1, h2, h3⟩ := h.mp.drop i hi
  exact ⟨w', h1, h.map h2 h3⟩
theorem RS.set (h : RS w0 w c most L mb K s) (k d : Int) (hk : fit k) (hd : fit d) :
    Calls Try.prog 23 #[.pointer (some ⟨c, 0, none⟩), .int .i64 k, .int .i64 d] w fun x w' => x = .returned (.tuple #[.bool (setB 0 d), .int .i64 (setS most 0 L k d)]) ∧ RS w0 w' c most (setL most 0 L k d) mb K s :=
  (h.st.set k d hk hd).mono (fun _ _ hh => ⟨hh.1, hh.2.1, h.mp.kp hh.2.2 rfl, h.lo⟩)
end
end Go.Proofs.Ytcbphfpfdfgehaa
