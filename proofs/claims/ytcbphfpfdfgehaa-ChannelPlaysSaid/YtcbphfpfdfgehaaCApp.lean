/-
  What can be read of a slice, wherever it lies; append at a step of a walk. No walk of the program, no conditions.
-/
import Derived.Test.YtcbphfpfdfgehaaCSmall
import Derived.OwnWalkIn
import Derived.TacticsInMore
import Derived.Deep.AppendLies
namespace Go.Proofs.Ytcbphfpfdfgehaa
open Go.RowKit

/-- n elements can be read of a slice. -/
structure Rd (w : World) (size : Nat) (v : Value) (n : Nat) (xs : List Value) : Prop where
  len : xs.length = n * size
  form : ∃ p c, v = .slice p n c ∧ (p = none → n = 0) ∧ ∀ a, p = some a → ∃ g o, a = ⟨g, o, none⟩ ∧ ∀ j, j < n * size → w.cell? ⟨g, o + j, none⟩ = xs[j]?
theorem Rd.past {w w' : World} {size : Nat} {v : Value} {n : Nat} {xs : List Value} (h : Rd w size v n xs) (t : Turn NoBlock w w') : Rd w' size v n xs := by
  refine ⟨h.len, ?_⟩
  obtain ⟨p, c, rfl, h0, hc⟩ := h.form
  refine ⟨p, c, rfl, h0, fun a ha => ?_⟩
  obtain ⟨g, o, rfl, hj⟩ := hc a ha
  refine ⟨g, o, rfl, fun j hjn => ?_⟩
  have e := hj j hjn
  rw [← e]
  have hlt : j < xs.length := by rw [h.len]; exact hjn
  rw [List.getElem?_eq_getElem hlt] at e
  exact (t.cell e (fun h => h)).trans e.symm
theorem Rd.sl {w : World} {size : Nat} {v : Value} {n : Nat} {xs : List Value} (h : Rd w size v n xs) : ∃ p c, v = .slice p n c := by
  obtain ⟨p, c, rfl, _⟩ := h.form
  exact ⟨p, c, rfl⟩
theorem Rd.src {w : World} {size : Nat} {v : Value} {n : Nat} {xs : List Value} (h : Rd w size v n xs) (tx e : TypeId) (hk : Try.prog.underlying tx = some (.slice e)) (h1 : ∀ u ∈ xs, u.oneCell' = true) : Src Try.prog size tx v n xs w := by
  obtain ⟨p, c, rfl, h0, hc⟩ := h.form
  cases p with
  | none =>
    obtain rfl := h0 rfl
    have : xs = [] := List.eq_nil_of_length_eq_zero (by rw [h.len]; simp)
    subst this
    exact Src.ofNil w hk c
  | some a =>
    obtain ⟨g, o, rfl, hj⟩ := hc a rfl
    refine Src.ofSlice w hk _ n c xs h.len (fun j u hu => ?_) h1
    have hjl := (List.getElem?_eq_some_iff.1 hu).1
    rw [h.len] at hjl
    rw [Addr.add_lit, hj j hjl, hu]
theorem WRow.rd {w : World} {e size n : Nat} {v : Value} {xs : List Value} (h : WRow w e size v n xs) : Rd w size v n xs := by
  refine ⟨h.len, ?_⟩
  rcases h.form with ⟨rfl, rfl⟩ | ⟨g, o, cap, rfl, _, _, _, hc, _⟩
  · exact ⟨none, 0, rfl, fun _ => rfl, (fun a ha => by cases ha)⟩
  · exact ⟨_, cap, rfl, (fun h => by cases h), (fun a ha => by cases ha; exact ⟨g, o, rfl, hc⟩)⟩
/-- One element laid into a block of its own. -/
theorem rd_new (w : World) (t size : Nat) (cs : Array Value) (hs : cs.size = size) : Rd (w.alloc (.cells cs t)) size (.slice (some ⟨w.heap.size, 0, none⟩) 1 1) 1 cs.toList := by
  refine ⟨by rw [Array.length_toList, hs, Nat.one_mul], _, 1, rfl, (fun h => by cases h), fun a ha => ?_⟩
  cases ha
  exact ⟨_, 0, rfl, fun j hj => by rw [Nat.zero_add, World.cell?_alloc_new]; simp⟩
def RdB (w : World) (v : Value) (d : List UInt8) : Prop := Rd w 1 v d.length (bcells d)
def RdI (w : World) (v : Value) (h : List Int) : Prop := Rd w 1 v h.length (icells h)
theorem RdB.past {w w' : World} {v : Value} {d : List UInt8} (h : RdB w v d) (t : Turn NoBlock w w') : RdB w' v d := Rd.past h t
theorem RdI.past {w w' : World} {v : Value} {d : List Int} (h : RdI w v d) (t : Turn NoBlock w w') : RdI w' v d := Rd.past h t
theorem Byts.rd {w : World} {v : Value} {d : List UInt8} (h : Byts v d w) : RdB w v d := WRow.rd h
theorem Nums.rd {w : World} {v : Value} {d : List Int} (h : Nums v d w) : RdI w v d := WRow.rd h

section
variable {w : World} {e : TypeId} {size : Nat} {v : Value} {n : Nat} {xs : List Value}
theorem wp_append_w {o : Oper} {a : Act} {K : Act → World → Prop} {Q : Exit → Act → World → Prop} (s x : Operand) (t tx : TypeId)
    (ho : o.op = .call { callee := .builtin .append, args := #[s, x], argTypes := #[t, tx] }) (hr : WRow w e size v n xs)
    (i : TypeInfo) (z : Value) (bytes : Nat) (ht : Try.prog.underlying t = some (.slice e)) (hi : Try.prog.info? e = some i) (hz : i.zero = some z) (hsize : i.size = size) (hby : i.bytes = bytes) (hzs : z.cells.size = size)
    (hv : a.eval s = v) {xv : Value} {m : Nat} {news : List Value} (hx : a.eval x = xv) (hs : Src Try.prog size tx xv m news w) (h63 : n + m ≤ maxLen) (hbytes : (n + m) * bytes ≤ 140737488355328)
    (h : ∀ v' W, WRow W e size v' (n + m) (xs ++ news) → Turn (Blk v) w W → (∀ k, Blk v' k → Blk v k ∨ (k = w.heap.size ∧ k < W.heap.size)) → K (a.put o.dst v') W) : o.wp Try.prog a w K Q := by
  obtain ⟨v', W, hrun, h1, h2, h3⟩ := hr.append t tx i z bytes ht hi hz hsize hby hzs hs h63 hbytes
  exact Lib.wp_append_run w s x t tx ho v xv hv hx v' W (hrun _) (h v' W h1 h2 h3)
theorem wpList_append_w {ops : Array Oper} {rest : List Oper} {o : Oper} {a : Act} {Q : Exit → Act → World → Prop} (hgd : o.guard = none) (s x : Operand) (t tx : TypeId)
    (ho : o.op = .call { callee := .builtin .append, args := #[s, x], argTypes := #[t, tx] }) (hr : WRow w e size v n xs)
    (i : TypeInfo) (z : Value) (bytes : Nat) (ht : Try.prog.underlying t = some (.slice e)) (hi : Try.prog.info? e = some i) (hz : i.zero = some z) (hsize : i.size = size) (hby : i.bytes = bytes) (hzs : z.cells.size = size)
    (hv : a.eval s = v) {xv : Value} {m : Nat} {news : List Value} (hx : a.eval x = xv) (hs : Src Try.prog size tx xv m news w) (h63 : n + m ≤ maxLen) (hbytes : (n + m) * bytes ≤ 140737488355328)
    (h : ∀ v' W, WRow W e size v' (n + m) (xs ++ news) → Turn (Blk v) w W → (∀ k, Blk v' k → Blk v k ∨ (k = w.heap.size ∧ k < W.heap.size)) → wpList Try.prog ops Q rest (a.put o.dst v') W) : wpList Try.prog ops Q (o :: rest) a w :=
  wpList_plain hgd fun _ hK => wp_append_w s x t tx ho hr i z bytes ht hi hz hsize hby hzs hv hx hs h63 hbytes fun v' W h1 h2 h3 => hK _ _ (h v' W h1 h2 h3)
theorem step_append_w {ops : Array Oper} {o : Oper} {a : Act} {K : Act → World → Prop} {Q : Exit → Act → World → Prop} {E : Prop} (hgd : o.guard = none) (s x : Operand) (t tx : TypeId)
    (ho : o.op = .call { callee := .builtin .append, args := #[s, x], argTypes := #[t, tx] }) (hr : WRow w e size v n xs)
    (i : TypeInfo) (z : Value) (bytes : Nat) (ht : Try.prog.underlying t = some (.slice e)) (hi : Try.prog.info? e = some i) (hz : i.zero = some z) (hsize : i.size = size) (hby : i.bytes = bytes) (hzs : z.cells.size = size)
    (hv : a.eval s = v) {xv : Value} {m : Nat} {news : List Value} (hx : a.eval x = xv) (hs : Src Try.prog size tx xv m news w) (h63 : n + m ≤ maxLen) (hbytes : (n + m) * bytes ≤ 140737488355328)
    (h : ∀ v' W, WRow W e size v' (n + m) (xs ++ news) → Turn (Blk v) w W → (∀ k, Blk v' k → Blk v k ∨ (k = w.heap.size ∧ k < W.heap.size)) → K (a.put o.dst v') W) : if Region.wanted o (yielded ops a.tmps) = true then Oper.wp Try.prog o a w K Q else E := by
  have hw : Region.wanted o (yielded ops a.tmps) = true := by simp [Region.wanted, hgd]
  rw [if_pos hw]
  exact wp_append_w s x t tx ho hr i z bytes ht hi hz hsize hby hzs hv hx hs h63 hbytes h
theorem wpListIn_append_w {F : Fence} {nn : Nat} {ops : Array Oper} {rest : List Oper} {o : Oper} {a : Act} {Q : Exit → Act → World → Prop} (hgd : o.guard = none) (s x : Operand) (t tx : TypeId)
    (ho : o.op = .call { callee := .builtin .append, args := #[s, x], argTypes := #[t, tx] }) (hr : WRow w e size v n xs)
    (i : TypeInfo) (z : Value) (bytes : Nat) (ht : Try.prog.underlying t = some (.slice e)) (hi : Try.prog.info? e = some i) (hz : i.zero = some z) (hsize : i.size = size) (hby : i.bytes = bytes) (hzs : z.cells.size = size)
    (hv : a.eval s = v) {xv : Value} {m : Nat} {news : List Value} (hx : a.eval x = xv) (hs : Src Try.prog size tx xv m news w) (h63 : n + m ≤ maxLen) (hbytes : (n + m) * bytes ≤ 140737488355328)
    (h : ∀ v' W, WRow W e size v' (n + m) (xs ++ news) → Turn (Blk v) w W → (∀ k, Blk v' k → Blk v k ∨ (k = w.heap.size ∧ k < W.heap.size)) → wpListIn F nn Try.prog ops Q rest (a.put o.dst v') W) : wpListIn F nn Try.prog ops Q (o :: rest) a w := by
  refine wpListIn_plain hgd fun K hK' => ?_
  obtain ⟨v', W, hrun, h1, h2, h3⟩ := hr.append t tx i z bytes ht hi hz hsize hby hzs hs h63 hbytes
  unfold Oper.wpIn
  refine ⟨?_, ?_⟩
  · simp [Oper.about, ho, resolve, Target.leads, Sem.run_pure]
  · rw [Oper.semAt_plain F _ _ (by rw [ho]; intro c hc'; cases hc')]
    simp [execOp, ho, resolve, invoke, builtin, hv, hx, hrun, Result.andThen]
    exact hK' _ _ (h v' W h1 h2 h3)
end
end Go.Proofs.Ytcbphfpfdfgehaa
