/-
  Tell and Cancel: who is told, and who waits still. Conditions: the waits lie in memory.
-/
import Derived.Test.YtabakjimlndhcaaBWake
namespace Go.Proofs.Ytabakjimlndhcaa
open Go.ChangeShapes Go.WideShapes Go.ChangeAt Go.RowKit Go.Shelf

/-- A mask meets what is shown. -/
def meetB (m s : Int) : Bool := bits .and .i64 m s != 0
theorem meets_any (a b : Int) (w : World) :
    Calls Try.prog 55 #[.int .i64 a, .int .i64 b] w fun e w' => e = .returned (.int .i64 (bits .and .i64 a b)) ∧ w = w' := by
  go_enter Try.func55, Try.ntmps55
  go_wp2
  go_ret
  exact ⟨rfl, rfl⟩
theorem clos_met (S0 : Nat) (s m : Int) (W : World) (h : W.cell? ⟨S0, 0, none⟩ = some (.int .i64 s)) : Calls Try.prog 54 (#[.int .i64 m] ++ #[.pointer (some ⟨S0, 0, none⟩)]) W fun e w' => e = .returned (.bool (meetB m s)) ∧ Turn NoBlock W w' := by
  go_enter Try.func54, Try.ntmps54
  go_wp2_with (go_at_call 55; (with_reducible refine (meets_any _ _ _).mono ?_); rintro e w2 ⟨rfl, rfl⟩)
  go_ret
  exact ⟨rfl, Turn.refl _ _⟩
theorem clos_any (m : Int) (W : World) : Calls Try.prog 62 (#[.int .i64 m] ++ #[]) W fun e w' => e = .returned (.bool true) ∧ Turn NoBlock W w' := by
  go_enter Try.func62, Try.ntmps62
  go_wp2
  go_ret
  exact ⟨rfl, Turn.refl _ _⟩
section
variable {w : World} {c tm lm : Nat} {most : Int} {G : List Gw} {r : Int → Nat} {K : List Int}
/-- What Tell and Cancel leave. -/
structure Waked (w : World) (c : Nat) (most : Int) (tm lm : Nat) (G : List Gw) (r : Int → Nat) (K : List Int) (P : Int → Bool) (o s f : Int) (v : Value) (w' : World) : Prop where
  row : KRow v (G.filterMap (wkG P o s f)) w'
  mem : ∃ K', (∀ n ∈ K', n ∈ K) ∧ WM w' c most tm lm (G.filter (keepG P o)) r K'
  turn : Turn (GFoot c tm lm G r K) w w'
  fr : ∀ k, Blk v k → w.heap.size ≤ k
theorem waked {P : Int → Bool} {o s f : Int} {N : Nat} {caps : Array Value} (h : WM w c most tm lm G r K) (ho : fit o) (hE0 : ∀ a W, Sem.run Try.prog (callFunc N a) W = .ok (.enter N a) W)
    (hP : ∀ W F, Turn F w W → (∀ k, F k → GFoot c tm lm G r K k ∨ w.heap.size ≤ k) → ∀ m, fit m → Calls Try.prog N (#[.int .i64 m] ++ caps) W fun e w' => e = .returned (.bool (P m)) ∧ Turn NoBlock W w') :
    Calls Try.prog 56 #[.pointer (some ⟨c, 0, none⟩), .int .i64 o, .func (.func N) #[] caps, .agg #[.int .i64 0, .int .i64 0, .int .i64 s, .int .i64 f]] w fun e w' => ∃ v, e = .returned v ∧ Waked w c most tm lm G r K P o s f v w' :=
  (wake_any h o ho N caps P s f hE0 hP).mono fun _ _ ⟨v, h1, h2, h3, h4, h5⟩ => ⟨v, h1, ⟨h2, h3, h4, h5⟩⟩
theorem tell_any (h : WM w c most tm lm G r K) (o : Int) (ho : fit o) (s : Int) : Calls Try.prog 17 #[.pointer (some ⟨c, 0, none⟩), .int .i64 o, .int .i64 s] w fun e w' => ∃ v, e = .returned v ∧ Waked w c most tm lm G r K (fun m => meetB m s) o 0 s v w' := by
  have t1 : Turn NoBlock w (w.alloc (.cells #[.int .i64 s] 38)) := (Turn.refl _ w).alloc _
  have hb := heap_alloc_new w (.cells #[.int .i64 s] 38)
  have hE : ∀ a W, Sem.run Try.prog (callFunc 54 a) W = .ok (.enter 54 a) W := enters_of Try.func54 (by kernel_rfl) rfl
  have C := Lib.hid (waked (P := fun m => meetB m s) (o := o) (s := 0) (f := s) (caps := #[.pointer (some ⟨w.heap.size, 0, none⟩)]) (h.past t1) ho hE (fun W F t hF m _ => clos_met w.heap.size s m W (by
    have := t.heap hb (fun hf => by
      rcases hF _ hf with h1 | h1
      · have := h.mem.lt h1; omega
      · simp at h1; omega)
    rw [cell_at this]; rfl)))
  have HH := Lib.hid t1
  clear h hb hE t1
  go_enter Try.func17, Try.ntmps17
  go_wp2_with (go_at_call 56; (with_reducible refine C.out.mono ?_); rintro e w2 ⟨v, rfl, h2⟩; have H2 := Lib.hid h2; clear h2)
  go_ret
  exact ⟨_, rfl, H2.out.row, H2.out.mem, (TU HH.out).trans H2.out.turn (fun _ h => .inl h), fun k hk => Nat.le_trans HH.out.size (H2.out.fr k hk)⟩
theorem cancel_any (h : WM w c most tm lm G r K) (o : Int) (ho : fit o) : Calls Try.prog 21 #[.pointer (some ⟨c, 0, none⟩), .int .i64 o] w fun e w' => ∃ v, e = .returned v ∧ Waked w c most tm lm G r K (fun _ => true) o (-23) 0 v w' := by
  have hE : ∀ a W, Sem.run Try.prog (callFunc 62 a) W = .ok (.enter 62 a) W := enters_of Try.func62 (by kernel_rfl) rfl
  have C := Lib.hid (waked (P := fun _ => true) (o := o) (s := -23) (f := 0) (caps := #[]) h ho hE (fun W F t hF m _ => clos_any m W))
  clear h hE
  go_enter Try.func21, Try.ntmps21
  go_wp2_with (go_at_call 56; (with_reducible refine C.out.mono ?_); rintro e w2 ⟨v, rfl, h2⟩; have H2 := Lib.hid h2; clear h2)
  go_ret
  exact ⟨_, rfl, H2.out⟩
end
end Go.Proofs.Ytabakjimlndhcaa
