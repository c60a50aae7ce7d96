/-
  Rows of integers and others in memory. No conditions but that what comes in can be read.
-/
import Derived.Test.YtabakjimlndhcaaCRow
import Derived.OwnWalk
import Derived.OwnWalkIn
import Derived.TacticsInMore
import Derived.Deep.AppendLies
import Derived.Deep.RegionHeld3
import Derived.Deep.QuietTactic
import Derived.BigQuiet
import Derived.Laws.OwnMore
import Derived.Laws.IdiomStrings
import Derived.Lib.Hide
namespace Go.Proofs.Ytabakjimlndhcaa
open Go.ChangeShapes Go.WideShapes Go.ChangeAt Go.RowKit

def icells (xs : List Int) : List Value := xs.map (Value.int .i64)
theorem icells_len (xs : List Int) : (icells xs).length = xs.length := by simp [icells]
theorem icells_one (xs : List Int) : ∀ u ∈ icells xs, u.oneCell' = true := by
  intro u hu
  obtain ⟨b, _, rfl⟩ := List.mem_map.1 hu
  rfl
/-- Integers in slices of the call's own. -/
def Nums (v : Value) (xs : List Int) (w : World) : Prop := WRow w 3 1 v xs.length (icells xs)
theorem Nums.kept {w w' : World} {F : Nat → Prop} {v : Value} {xs : List Int} (h : Nums v xs w) (t : Turn F w w') (hF : ∀ k, Blk v k → ¬ F k) : Nums v xs w' := WRow.kept h t hF
theorem Nums.past {w w' : World} {v : Value} {xs : List Int} (h : Nums v xs w) (t : Turn NoBlock w w') : Nums v xs w' := h.kept t (fun _ _ h => h)
theorem intsT : Try.prog.underlying 53 = some (.slice 3) := by kernel_rfl
theorem infoI : (Try.prog.info? 3).map (fun i => (i.zero, i.size, i.bytes)) = some (some (.int .i64 0), 1, 8) := by kernel_rfl
/-- n elements can be read of a slice. -/
structure Rd (w : World) (size : Nat) (v : Value) (n : Nat) (xs : List Value) : Prop where
  len : xs.length = n * size
  form : ∃ p c, v = .slice p n c ∧ (p = none → n = 0) ∧ ∀ a, p = some a → ∃ g o, a = ⟨g, o, none⟩ ∧ ∀ j, j < n * size → w.cell? ⟨g, o + j, none⟩ = xs[j]?
theorem Rd.past {w w' : World} {size : Nat} {v : Value} {n : Nat} {xs : List Value} (h : Rd w size v n xs) (t : Turn NoBlock w w') : Rd w' size v n xs := by
  refine ⟨h.len, ?_⟩
  obtain ⟨p, c, rfl, h0, hc⟩ := h.form
  refine ⟨p, c, rfl, h0, fun a ha => ?_⟩
  obtain ⟨g, o, rfl, hj⟩ := hc a ha
  refine ⟨g, o, rfl, fun j hjn => ?_⟩
  have e := hj j hjn
  rw [← e]
  have hlt : j < xs.length := by rw [h.len]; exact hjn
  rw [List.getElem?_eq_getElem hlt] at e
  exact (t.cell e (fun h => h)).trans e.symm
theorem Rd.sl {w : World} {size : Nat} {v : Value} {n : Nat} {xs : List Value} (h : Rd w size v n xs) : ∃ p c, v = .slice p n c := by
  obtain ⟨p, c, rfl, _⟩ := h.form
  exact ⟨p, c, rfl⟩
theorem Rd.src {w : World} {size : Nat} {v : Value} {n : Nat} {xs : List Value} (h : Rd w size v n xs) (tx e : TypeId) (hk : Try.prog.underlying tx = some (.slice e)) (h1 : ∀ u ∈ xs, u.oneCell' = true) : Src Try.prog size tx v n xs w := by
  obtain ⟨p, c, rfl, h0, hc⟩ := h.form
  cases p with
  | none =>
    obtain rfl := h0 rfl
    have : xs = [] := List.eq_nil_of_length_eq_zero (by rw [h.len]; simp)
    subst this
    exact Src.ofNil w hk c
  | some a =>
    obtain ⟨g, o, rfl, hj⟩ := hc a rfl
    refine Src.ofSlice w hk _ n c xs h.len (fun j u hu => ?_) h1
    have hjl := (List.getElem?_eq_some_iff.1 hu).1
    rw [h.len] at hjl
    rw [Addr.add_lit, hj j hjl, hu]
theorem WRow.rd {w : World} {e size n : Nat} {v : Value} {xs : List Value} (h : WRow w e size v n xs) : Rd w size v n xs := by
  refine ⟨h.len, ?_⟩
  rcases h.form with ⟨rfl, rfl⟩ | ⟨g, o, cap, rfl, _, _, _, hc, _⟩
  · exact ⟨none, 0, rfl, fun _ => rfl, (fun a ha => by cases ha)⟩
  · exact ⟨_, cap, rfl, (fun h => by cases h), (fun a ha => by cases ha; exact ⟨g, o, rfl, hc⟩)⟩
/-- One element laid into a block of its own. -/
theorem rd_new (w : World) (t size : Nat) (cs : Array Value) (hs : cs.size = size) : Rd (w.alloc (.cells cs t)) size (.slice (some ⟨w.heap.size, 0, none⟩) 1 1) 1 cs.toList := by
  refine ⟨by rw [Array.length_toList, hs, Nat.one_mul], _, 1, rfl, (fun h => by cases h), fun a ha => ?_⟩
  cases ha
  exact ⟨_, 0, rfl, fun j hj => by rw [Nat.zero_add, World.cell?_alloc_new]; simp⟩
def RdI (w : World) (v : Value) (h : List Int) : Prop := Rd w 1 v h.length (icells h)
theorem RdI.past {w w' : World} {v : Value} {d : List Int} (h : RdI w v d) (t : Turn NoBlock w w') : RdI w' v d := Rd.past h t
theorem Nums.rd {w : World} {v : Value} {d : List Int} (h : Nums v d w) : RdI w v d := WRow.rd h

section
variable {w : World} {e : TypeId} {size : Nat} {v : Value} {n : Nat} {xs : List Value}
theorem wp_append_w {o : Oper} {a : Act} {K : Act → World → Prop} {Q : Exit → Act → World → Prop} (s x : Operand) (t tx : TypeId)
    (ho : o.op = .call { callee := .builtin .append, args := #[s, x], argTypes := #[t, tx] }) (hr : WRow w e size v n xs)
    (i : TypeInfo) (z : Value) (bytes : Nat) (ht : Try.prog.underlying t = some (.slice e)) (hi : Try.prog.info? e = some i) (hz : i.zero = some z) (hsize : i.size = size) (hby : i.bytes = bytes) (hzs : z.cells.size = size)
    (hv : a.eval s = v) {xv : Value} {m : Nat} {news : List Value} (hx : a.eval x = xv) (hs : Src Try.prog size tx xv m news w) (h63 : n + m ≤ maxLen) (hbytes : (n + m) * bytes ≤ 140737488355328)
    (h : ∀ v' W, WRow W e size v' (n + m) (xs ++ news) → Turn (Blk v) w W → (∀ k, Blk v' k → Blk v k ∨ (k = w.heap.size ∧ k < W.heap.size)) → K (a.put o.dst v') W) : o.wp Try.prog a w K Q := by
  obtain ⟨v', W, hrun, h1, h2, h3⟩ := hr.append t tx i z bytes ht hi hz hsize hby hzs hs h63 hbytes
  exact Lib.wp_append_run w s x t tx ho v xv hv hx v' W (hrun _) (h v' W h1 h2 h3)
theorem wpList_append_w {ops : Array Oper} {rest : List Oper} {o : Oper} {a : Act} {Q : Exit → Act → World → Prop} (hgd : o.guard = none) (s x : Operand) (t tx : TypeId)
    (ho : o.op = .call { callee := .builtin .append, args := #[s, x], argTypes := #[t, tx] }) (hr : WRow w e size v n xs)
    (i : TypeInfo) (z : Value) (bytes : Nat) (ht : Try.prog.underlying t = some (.slice e)) (hi : Try.prog.info? e = some i) (hz : i.zero = some z) (hsize : i.size = size) (hby : i.bytes = bytes) (hzs : z.cells.size = size)
    (hv : a.eval s = v) {xv : Value} {m : Nat} {news : List Value} (hx : a.eval x = xv) (hs : Src Try.prog size tx xv m news w) (h63 : n + m ≤ maxLen) (hbytes : (n + m) * bytes ≤ 140737488355328)
    (h : ∀ v' W, WRow W e size v' (n + m) (xs ++ news) → Turn (Blk v) w W → (∀ k, Blk v' k → Blk v k ∨ (k = w.heap.size ∧ k < W.heap.size)) → wpList Try.prog ops Q rest (a.put o.dst v') W) : wpList Try.prog ops Q (o :: rest) a w :=
  wpList_plain hgd fun _ hK => wp_append_w s x t tx ho hr i z bytes ht hi hz hsize hby hzs hv hx hs h63 hbytes fun v' W h1 h2 h3 => hK _ _ (h v' W h1 h2 h3)
theorem step_append_w {ops : Array Oper} {o : Oper} {a : Act} {K : Act → World → Prop} {Q : Exit → Act → World → Prop} {E : Prop} (hgd : o.guard = none) (s x : Operand) (t tx : TypeId)
    (ho : o.op = .call { callee := .builtin .append, args := #[s, x], argTypes := #[t, tx] }) (hr : WRow w e size v n xs)
    (i : TypeInfo) (z : Value) (bytes : Nat) (ht : Try.prog.underlying t = some (.slice e)) (hi : Try.prog.info? e = some i) (hz : i.zero = some z) (hsize : i.size = size) (hby : i.bytes = bytes) (hzs : z.cells.size = size)
    (hv : a.eval s = v) {xv : Value} {m : Nat} {news : List Value} (hx : a.eval x = xv) (hs : Src Try.prog size tx xv m news w) (h63 : n + m ≤ maxLen) (hbytes : (n + m) * bytes ≤ 140737488355328)
    (h : ∀ v' W, WRow W e size v' (n + m) (xs ++ news) → Turn (Blk v) w W → (∀ k, Blk v' k → Blk v k ∨ (k = w.heap.size ∧ k < W.heap.size)) → K (a.put o.dst v') W) : if Region.wanted o (yielded ops a.tmps) = true then Oper.wp Try.prog o a w K Q else E := by
  have hw : Region.wanted o (yielded ops a.tmps) = true := by simp [Region.wanted, hgd]
  rw [if_pos hw]
  exact wp_append_w s x t tx ho hr i z bytes ht hi hz hsize hby hzs hv hx hs h63 hbytes h
theorem wpListIn_append_w {F : Fence} {nn : Nat} {ops : Array Oper} {rest : List Oper} {o : Oper} {a : Act} {Q : Exit → Act → World → Prop} (hgd : o.guard = none) (s x : Operand) (t tx : TypeId)
    (ho : o.op = .call { callee := .builtin .append, args := #[s, x], argTypes := #[t, tx] }) (hr : WRow w e size v n xs)
    (i : TypeInfo) (z : Value) (bytes : Nat) (ht : Try.prog.underlying t = some (.slice e)) (hi : Try.prog.info? e = some i) (hz : i.zero = some z) (hsize : i.size = size) (hby : i.bytes = bytes) (hzs : z.cells.size = size)
    (hv : a.eval s = v) {xv : Value} {m : Nat} {news : List Value} (hx : a.eval x = xv) (hs : Src Try.prog size tx xv m news w) (h63 : n + m ≤ maxLen) (hbytes : (n + m) * bytes ≤ 140737488355328)
    (h : ∀ v' W, WRow W e size v' (n + m) (xs ++ news) → Turn (Blk v) w W → (∀ k, Blk v' k → Blk v k ∨ (k = w.heap.size ∧ k < W.heap.size)) → wpListIn F nn Try.prog ops Q rest (a.put o.dst v') W) : wpListIn F nn Try.prog ops Q (o :: rest) a w := by
  refine wpListIn_plain hgd fun K hK' => ?_
  obtain ⟨v', W, hrun, h1, h2, h3⟩ := hr.append t tx i z bytes ht hi hz hsize hby hzs hs h63 hbytes
  unfold Oper.wpIn
  refine ⟨?_, ?_⟩
  · simp [Oper.about, ho, resolve, Target.leads, Sem.run_pure]
  · rw [Oper.semAt_plain F _ _ (by rw [ho]; intro c hc'; cases hc')]
    simp [execOp, ho, resolve, invoke, builtin, hv, hx, hrun, Result.andThen]
    exact hK' _ _ (h v' W h1 h2 h3)
end
theorem TT {A B C : World} (h : Turn NoBlock A B) (k : Turn NoBlock B C) : Turn NoBlock A C := h.trans k (fun _ h => .inl h)
theorem TU {A B : World} {F : Nat → Prop} (h : Turn NoBlock A B) : Turn F A B := h.mono (fun _ h => h.elim)
theorem nil_turn {A B : World} (h : Turn (Blk (.slice none 0 0)) A B) : Turn NoBlock A B := h.mono (fun k hk => (blk_nil k hk).elim)
section
variable (T size : Nat) (hT : Try.prog.underlying T = some (.slice (Try.prog.elem T))) (hS : ∀ w, (Go.sizeOf (Try.prog.elem T)).run Try.prog w = .ok size w) (g o n c : Nat)
include hT hS
theorem sl_lo (l : Nat) (hl : l ≤ n) (hc : n ≤ c) : ∃ D : Option Addr, (∀ w, Sem.run Try.prog (Instr.slice T (.slice (some ⟨g, o, none⟩) n c) (some (.int .i64 (l : Int))) none none) w = .ok (.slice D (n - l) (c - l)) w) ∧ (l < c → D = some ⟨g, o + l * size, none⟩) ∧ (c = l → D = some ⟨g, o, none⟩) := by
  refine ⟨if c = l then some ⟨g, o, none⟩ else some ⟨g, o + l * size, none⟩, fun w => ?_, fun h0 => by rw [if_neg (by omega)], fun h0 => by rw [if_pos h0]⟩
  have := run_slice_l (P := Try.prog) w T (some ⟨g, o, none⟩) n c hT .i64 (l : Int) (by omega) (by omega)
  rw [hS w] at this
  simp only [Result.andThen, Int.toNat_natCast] at this
  rw [this]
  by_cases h0 : c = l
  · subst h0
    have hn : n = c := by omega
    subst hn
    simp [sliced]
  · simp [sliced, h0, Addr.add_lit]
theorem sl_hi (h : Nat) (hc : h ≤ c) : ∀ w, Sem.run Try.prog (Instr.slice T (.slice (some ⟨g, o, none⟩) n c) none (some (.int .i64 (h : Int))) none) w = .ok (.slice (some ⟨g, o, none⟩) h c) w := by
  intro w
  have := run_slice_h (P := Try.prog) w T (some ⟨g, o, none⟩) n c hT .i64 (h : Int) (by omega) (by omega)
  rw [hS w] at this
  simp only [Result.andThen, Int.toNat_natCast] at this
  rw [this]
  by_cases h0 : c = 0
  · subst h0; simp [sliced]
  · simp [sliced, h0, Addr.add_lit]
theorem sl_lh (l h : Nat) (hl : l ≤ h) (hc : h ≤ c) : ∃ D : Option Addr, (∀ w, Sem.run Try.prog (Instr.slice T (.slice (some ⟨g, o, none⟩) n c) (some (.int .i64 (l : Int))) (some (.int .i64 (h : Int))) none) w = .ok (.slice D (h - l) (c - l)) w) ∧ (l < c → D = some ⟨g, o + l * size, none⟩) := by
  refine ⟨if c = l then some ⟨g, o, none⟩ else some ⟨g, o + l * size, none⟩, fun w => ?_, fun h0 => by rw [if_neg (by omega)]⟩
  have := run_slice_lh (P := Try.prog) w T (some ⟨g, o, none⟩) n c hT .i64 .i64 (l : Int) (h : Int) (by omega) (by omega) (by omega)
  rw [hS w] at this
  simp only [Result.andThen, Int.toNat_natCast] at this
  rw [this]
  by_cases h0 : c = l
  · subst h0; simp [sliced]
  · simp [sliced, h0, Addr.add_lit]
theorem sl_lhm (l h m : Nat) (hl : l ≤ h) (hm : h ≤ m) (hc : m ≤ c) : ∃ D : Option Addr, (∀ w, Sem.run Try.prog (Instr.slice T (.slice (some ⟨g, o, none⟩) n c) (some (.int .i64 (l : Int))) (some (.int .i64 (h : Int))) (some (.int .i64 (m : Int)))) w = .ok (.slice D (h - l) (m - l)) w) := by
  refine ⟨if m = l then some ⟨g, o, none⟩ else some ⟨g, o + l * size, none⟩, fun w => ?_⟩
  have := run_slice_lhm (P := Try.prog) w T (some ⟨g, o, none⟩) n c hT .i64 .i64 .i64 (l : Int) (h : Int) (m : Int) (by omega) (by omega) (by omega) (by omega)
  rw [hS w] at this
  simp only [Result.andThen, Int.toNat_natCast] at this
  rw [this]
  by_cases h0 : m = l
  · subst h0; simp [sliced]
  · simp [sliced, h0, Addr.add_lit]
end
theorem blk_typed {w : World} {g : Nat} {v : Value} {e size n : Nat} {xs : List Value} {t : TypeId} (h : WRow w e size v n xs) (hg : TBlk w g t) (hne : t ≠ e) : ¬ Blk v g := fun hk => (hg.unlike (h.typed hk) hne) rfl
theorem blks_typed {w : World} {v v' : Value} {e e' size size' n n' : Nat} {xs xs' : List Value} (h : WRow w e size v n xs) (h' : WRow w e' size' v' n' xs') (hne : e ≠ e') : ∀ k, Blk v k → ¬ Blk v' k := fun _ hk hk' => ((h.typed hk).unlike (h'.typed hk') hne) rfl
theorem cell_set_other {w : World} {c i j : Nat} {u : Value} (h : i ≠ j) : (w.setCell ⟨c, i, none⟩ u).cell? ⟨c, j, none⟩ = w.cell? ⟨c, j, none⟩ :=
  World.cell?_setCell_other w ⟨c, i, none⟩ ⟨c, j, none⟩ u (fun e => h (by simpa using e.symm))
def updN {A : Type} (f : Nat → A) (e : Nat) (x : A) : Nat → A := fun i => if i = e then x else f i
theorem updN_same {A : Type} (f : Nat → A) (e : Nat) (x : A) : updN f e x e = x := by simp [updN]
theorem updN_other {A : Type} (f : Nat → A) {e i : Nat} (x : A) (h : i ≠ e) : updN f e x i = f i := by simp [updN, h]
section
variable {w : World} {c : Nat}
theorem WRow.setC {e size n : Nat} {x : Value} {xs : List Value} {t : TypeId} {j : Nat} {u : Value} (h : WRow w e size x n xs) (hc : TBlk w c t) (hne : t ≠ e) : WRow (w.setCell ⟨c, j, none⟩ u) e size x n xs :=
  h.kept ((Turn.refl (fun k => k = c) w).setCell (p := ⟨c, j, none⟩) (.inl rfl) u) (fun _ hk e => blk_typed h hc hne (e ▸ hk))
end
def oth (e : Nat) : Nat := 1 - e
theorem turn_grown {w w' : World} (h : w.grownBy w' none) : Turn NoBlock w w' := (Turn.refl NoBlock w).grown h (fun k e => by cases e)
/-- As 'Rd', but of an empty slice nothing is asked. -/
structure Rz (w : World) (size : Nat) (v : Value) (n : Nat) (xs : List Value) : Prop where
  sl : ∃ p c, v = .slice p n c
  nil : n = 0 → xs = []
  rd : 0 < n → Rd w size v n xs
def RzI (w : World) (v : Value) (h : List Int) : Prop := Rz w 1 v h.length (icells h)
theorem Rz.past {w w' : World} {size : Nat} {v : Value} {n : Nat} {xs : List Value} (h : Rz w size v n xs) (t : Turn NoBlock w w') : Rz w' size v n xs := ⟨h.sl, h.nil, fun h0 => (h.rd h0).past t⟩
theorem RzI.past {w w' : World} {v : Value} {d : List Int} (h : RzI w v d) (t : Turn NoBlock w w') : RzI w' v d := Rz.past h t
theorem RdI.rz {w : World} {v : Value} {d : List Int} (h : RdI w v d) : RzI w v d := ⟨h.sl, fun h0 => by rw [List.eq_nil_of_length_eq_zero h0]; rfl, fun _ => h⟩
theorem Rz.src {w : World} {size : Nat} {v : Value} {n : Nat} {xs : List Value} (h : Rz w size v n xs) (tx e : TypeId) (hk : Try.prog.underlying tx = some (.slice e)) (h1 : ∀ u ∈ xs, u.oneCell' = true) : Src Try.prog size tx v n xs w := by
  by_cases h0 : 0 < n
  · exact (h.rd h0).src tx e hk h1
  · obtain rfl : n = 0 := by omega
    obtain ⟨p, c, rfl⟩ := h.sl
    rw [h.nil rfl]
    cases p with
    | none => exact Src.ofNil w hk c
    | some a => exact Src.ofSlice w hk a 0 c [] (by simp) (fun j u hu => by simp at hu) (fun u hu => by simp at hu)
theorem wrow_empty (w : World) (e : TypeId) : WRow (w.alloc (.cells #[] e)) e 1 (.slice (some ⟨w.heap.size, 0, none⟩) 0 0) 0 [] :=
  ⟨rfl, .inr ⟨_, 0, 0, rfl, Nat.le_refl _, by unfold maxLen; omega, ⟨_, heap_alloc_new w _⟩, (fun j hj => by omega), fun j hj => by omega⟩⟩
theorem step_append_r {w : World} {e : TypeId} {size : Nat} {v : Value} {n : Nat} {xs : List Value} {ops : Array Oper} {o : Oper} {a : Act} {K : Act → World → Prop} {Q : Exit → Act → World → Prop} {E : Prop} (hgd : o.guard = none) (s x : Operand) (t tx : TypeId)
    (ho : o.op = .call { callee := .builtin .append, args := #[s, x], argTypes := #[t, tx] }) (hr : WRow w e size v n xs)
    (i : TypeInfo) (z : Value) (bytes : Nat) (ht : Try.prog.underlying t = some (.slice e)) (hi : Try.prog.info? e = some i) (hz : i.zero = some z) (hsize : i.size = size) (hby : i.bytes = bytes) (hzs : z.cells.size = size)
    (hv : a.eval s = v) {xv : Value} {m : Nat} {news : List Value} (hx : a.eval x = xv) (hs : Src Try.prog size tx xv m news w) (h63 : n + m ≤ maxLen) (hbytes : (n + m) * bytes ≤ 140737488355328)
    (h : ∀ v' W, WRow w e size v n xs → WRow W e size v' (n + m) (xs ++ news) → Turn (Blk v) w W → (∀ k, Blk v' k → Blk v k ∨ (k = w.heap.size ∧ k < W.heap.size)) → K (a.put o.dst v') W) : if Region.wanted o (yielded ops a.tmps) = true then Oper.wp Try.prog o a w K Q else E :=
  step_append_w hgd s x t tx ho hr i z bytes ht hi hz hsize hby hzs hv hx hs h63 hbytes (fun v' W => h v' W hr)
theorem app_turn {W W' WH : World} {B : Nat} {vH : Value} (t : Turn NoBlock W W') (hB : W.heap.size ≤ B) (tH : Turn (Blk (.slice (some ⟨B, 0, none⟩) 0 0)) W' WH) (kH : ∀ k, Blk vH k → Blk (.slice (some ⟨B, 0, none⟩) 0 0) k ∨ (k = W'.heap.size ∧ k < WH.heap.size)) : Turn NoBlock W WH ∧ ∀ k, Blk vH k → W.heap.size ≤ k := by
  have hb : ∀ k, Blk (.slice (some ⟨B, 0, none⟩) 0 0) k → W.heap.size ≤ k := fun k hk => by
    have : k = B := by simpa [Blk, Value.ownBlock, eq_comm] using hk
    omega
  refine ⟨t.trans tH (fun k hk => .inr (hb k hk)), fun k hk => ?_⟩
  rcases kH k hk with h | h
  · exact hb k h
  · have := t.size; omega
end Go.Proofs.Ytabakjimlndhcaa
