/-
  PortPlays' state within a round: both ports, and the call's box. A block and a region of the law's code by their numbers. No walk, no conditions.
-/
import Derived.Test.YtcnellkoejhofaaRCanAll
import Derived.Test.YtcnellkoejhofaaQViewO
namespace Go.Proofs.Ytcnellkoejhofaa
open Go.ChangeShapes Go.WideShapes Go.ChangeAt Go.RowKit

/-- A block of a function's code, by its number. -/
def findK (n : Nat) : Code → Option Code
  | .block i y => if (i == n) = true then some (.block i y) else findK n y
  | .cond _ x y => match findK n x with
    | some z => some z
    | none => findK n y
  | .seq x y => match findK n x with
    | some z => some z
    | none => findK n y
  | .loop x => findK n x
  | .scope x => findK n x
  | _ => none
noncomputable def blkP (n : Nat) : Code := (Try.f3.body.bind (findK n)).getD .skip
/-- A region of a function's code, by its number. -/
def findR (n : Nat) : Code → Option Code
  | .region i ops dr => if (i == n) = true then some (.region i ops dr) else none
  | .cond _ x y => match findR n x with
    | some z => some z
    | none => findR n y
  | .seq x y => match findR n x with
    | some z => some z
    | none => findR n y
  | .loop x => findR n x
  | .block _ x => findR n x
  | .scope x => findR n x
  | _ => none
noncomputable def regP (n : Nat) : Code := (Try.f3.body.bind (findR n)).getD .skip

theorem box4 {W : World} {g : Nat} {T : TypeId} {a b c d : Value} (h : W.heap[g]? = some (.cells #[a, b, c, d] T (0, 0))) : W.cell? ⟨g, 0, none⟩ = some a ∧ W.cell? ⟨g, 1, none⟩ = some b ∧ W.cell? ⟨g, 2, none⟩ = some c ∧ W.cell? ⟨g, 3, none⟩ = some d := ⟨cell_at h 0, cell_at h 1, cell_at h 2, cell_at h 3⟩
/-- Both ports, and the call in its box. -/
structure PB (w0 w : World) (c x : Nat) (depth most : Int) (Q : List Pk) (Ws : List Wc) (RQ : List Pk) (RWs : List Wc) (B : Nat) (kind ob ky n : Int) (Y : Nat → Prop) : Prop where
  pp : PP w0 w c x depth most Q Ws RQ RWs (fun k => k = B ∨ Y k)
  bx : w.heap[B]? = some (.cells #[.int .i64 kind, .int .i64 ob, .int .i64 ky, .int .i64 n] 32 (0, 0))
section
variable {w0 w w' : World} {c x : Nat} {depth most : Int} {Q Q' RQ RQ' : List Pk} {Ws Ws' RWs RWs' : List Wc} {X Y Z : Nat → Prop} {B : Nat} {kind ob ky n : Int}
theorem PB.past (h : PB w0 w c x depth most Q Ws RQ RWs B kind ob ky n Y) (t : Turn NoBlock w w') : PB w0 w' c x depth most Q Ws RQ RWs B kind ob ky n Y := ⟨h.pp.past t, t.heap h.bx (fun h => h)⟩
theorem PB.kp (h : PB w0 w c x depth most Q Ws RQ RWs B kind ob ky n Y) (g : PP w0 w' c x depth most Q' Ws' RQ' RWs' (fun k => k = B ∨ Y k) ∧ Kp (fun k => k = B ∨ Y k) w w') : PB w0 w' c x depth most Q' Ws' RQ' RWs' B kind ob ky n Y := ⟨g.1, g.2.heap h.bx (.inl rfl)⟩
theorem PB.cells (h : PB w0 w c x depth most Q Ws RQ RWs B kind ob ky n Y) : w.cell? ⟨B, 0, none⟩ = some (.int .i64 kind) ∧ w.cell? ⟨B, 1, none⟩ = some (.int .i64 ob) ∧ w.cell? ⟨B, 2, none⟩ = some (.int .i64 ky) ∧ w.cell? ⟨B, 3, none⟩ = some (.int .i64 n) := box4 h.bx
theorem PB.fewer (h : PB w0 w c x depth most Q Ws RQ RWs B kind ob ky n Y) (hZ : ∀ k, Z k → Y k) : PB w0 w c x depth most Q Ws RQ RWs B kind ob ky n Z := ⟨h.pp.fewer (fun k hk => hk.imp id (hZ k)), h.bx⟩
theorem PB.beside (h : PB w0 w c x depth most Q Ws RQ RWs B kind ob ky n Y) (o : Obj) : PB w0 (w.alloc o) c x depth most Q Ws RQ RWs B kind ob ky n (fun k => Y k ∨ k = w.heap.size) :=
  ⟨(h.pp.beside o).fewer (fun _ hk => hk.elim (fun h => .inl (.inl h)) (fun h => h.elim (fun h => .inl (.inr h)) .inr)), ((Turn.refl NoBlock w).alloc o).heap h.bx (fun h => h)⟩
theorem PB.queue (h : PB w0 w c x depth most Q Ws RQ RWs B kind ob ky n Y) (k m : Int) : Calls Try.prog 10 #[.pointer (some ⟨c, 0, none⟩), .int .i64 k, .int .i64 m] w fun e w' => e = .returned (.int .i64 (queS depth Q)) ∧ PB w0 w' c x depth most (queL depth Q k m) Ws RQ RWs B kind ob ky n Y :=
  (h.pp.queue k m).mono (fun _ _ g => ⟨g.1, h.kp g.2⟩)
theorem PB.radd (h : PB w0 w c x depth most Q Ws RQ RWs B kind ob ky n Y) (ok : POk depth most RQ RWs) (k m : Int) : Calls Try.prog 11 #[.pointer (some ⟨x, 0, none⟩), .int .i64 k, .int .i64 m] w fun e w' => e = .returned (.int .i64 (queS depth RQ)) ∧ PB w0 w' c x depth most Q Ws (queL depth RQ k m) RWs B kind ob ky n Y :=
  (h.pp.radd ok k m).mono (fun _ _ g => ⟨g.1, h.kp g.2⟩)
theorem PB.take (h : PB w0 w c x depth most Q Ws RQ RWs B kind ob ky n Y) : Calls Try.prog 12 #[.pointer (some ⟨c, 0, none⟩)] w fun e w' => e = .returned (.tuple #[(takP Q).agg, .int .i64 (takS Q)]) ∧ PB w0 w' c x depth most Q.tail Ws RQ RWs B kind ob ky n Y :=
  (h.pp.take).mono (fun _ _ g => ⟨g.1, h.kp g.2⟩)
theorem PB.rtake (h : PB w0 w c x depth most Q Ws RQ RWs B kind ob ky n Y) : Calls Try.prog 13 #[.pointer (some ⟨x, 0, none⟩)] w fun e w' => e = .returned (.tuple #[(takP RQ).agg, .int .i64 (takS RQ)]) ∧ PB w0 w' c x depth most Q Ws RQ.tail RWs B kind ob ky n Y ∧ ∀ (b : Nat) (o : Obj), Y b → w.heap[b]? = some o → w'.heap[b]? = some o :=
  (h.pp.rtake).mono (fun _ _ g => ⟨g.1, h.kp g.2, fun _ _ hb hz => g.2.2.heap hz (.inr hb)⟩)
theorem PB.watch (h : PB w0 w c x depth most Q Ws RQ RWs B kind ob ky n Y) (o k m : Int) (ho : fit o) : Calls Try.prog 15 #[.pointer (some ⟨c, 0, none⟩), .int .i64 o, .int .i64 k, .int .i64 m] w fun e w' => e = .returned (.int .i64 (watS most Q Ws o m)) ∧ PB w0 w' c x depth most Q (watL most Q Ws o k m) RQ RWs B kind ob ky n Y :=
  (h.pp.watch o k m ho).mono (fun _ _ g => ⟨g.1, h.kp g.2⟩)
theorem PB.rwatch (h : PB w0 w c x depth most Q Ws RQ RWs B kind ob ky n Y) (ok : POk depth most RQ RWs) (o k m : Int) : Calls Try.prog 16 #[.pointer (some ⟨x, 0, none⟩), .int .i64 o, .int .i64 k, .int .i64 m] w fun e w' => e = .returned (.int .i64 (watS most RQ RWs o m)) ∧ PB w0 w' c x depth most Q Ws RQ (watL most RQ RWs o k m) B kind ob ky n Y :=
  (h.pp.rwatch ok o k m).mono (fun _ _ g => ⟨g.1, h.kp g.2⟩)
theorem PB.tell (h : PB w0 w c x depth most Q Ws RQ RWs B kind ob ky n Y) (o s : Int) (ho : fit o) : Calls Try.prog 17 #[.pointer (some ⟨c, 0, none⟩), .int .i64 o, .int .i64 s] w fun e w' => e = .returned (.int .i64 (telN Ws o s : Int)) ∧ PB w0 w' c x depth most (Q ++ packs (ofO Ws o) o s) (telL Ws o s) RQ RWs B kind ob ky n Y :=
  (h.pp.tell o s ho).mono (fun _ _ g => ⟨g.1, h.kp g.2⟩)
theorem PB.rtell (h : PB w0 w c x depth most Q Ws RQ RWs B kind ob ky n Y) (ok : POk depth most RQ RWs) (o s : Int) : Calls Try.prog 18 #[.pointer (some ⟨x, 0, none⟩), .int .i64 o, .int .i64 s] w fun e w' => e = .returned (.int .i64 (telN RWs o s : Int)) ∧ PB w0 w' c x depth most Q Ws (RQ ++ packs (ofO RWs o) o s) (telL RWs o s) B kind ob ky n Y :=
  (h.pp.rtell ok o s).mono (fun _ _ g => ⟨g.1, h.kp g.2⟩)
theorem PB.forget (h : PB w0 w c x depth most Q Ws RQ RWs B kind ob ky n Y) (o : Int) (ho : fit o) : Calls Try.prog 21 #[.pointer (some ⟨c, 0, none⟩), .int .i64 o] w fun e w' => e = .returned (.int .i64 (frgN Ws o : Int)) ∧ PB w0 w' c x depth most Q (frgL Ws o) RQ RWs B kind ob ky n Y :=
  (h.pp.forget o ho).mono (fun _ _ g => ⟨g.1, h.kp g.2⟩)
theorem PB.rforget (h : PB w0 w c x depth most Q Ws RQ RWs B kind ob ky n Y) (ok : POk depth most RQ RWs) (o : Int) : Calls Try.prog 22 #[.pointer (some ⟨x, 0, none⟩), .int .i64 o] w fun e w' => e = .returned (.int .i64 (frgN RWs o : Int)) ∧ PB w0 w' c x depth most Q Ws RQ (frgL RWs o) B kind ob ky n Y :=
  (h.pp.rforget ok o).mono (fun _ _ g => ⟨g.1, h.kp g.2⟩)
theorem PB.cancel (h : PB w0 w c x depth most Q Ws RQ RWs B kind ob ky n Y) (o k : Int) (ho : fit o) : Calls Try.prog 19 #[.pointer (some ⟨c, 0, none⟩), .int .i64 o, .int .i64 k] w fun e w' => e = .returned (.int .i64 (canR Q Ws o k)) ∧ PB w0 w' c x depth most (canQ Q o k) (canL Ws o k) RQ RWs B kind ob ky n Y :=
  (h.pp.cancel o k ho).mono (fun _ _ g => ⟨g.1, h.kp g.2⟩)
theorem PB.rcancel (h : PB w0 w c x depth most Q Ws RQ RWs B kind ob ky n Y) (ok : POk depth most RQ RWs) (o k : Int) : Calls Try.prog 20 #[.pointer (some ⟨x, 0, none⟩), .int .i64 o, .int .i64 k] w fun e w' => e = .returned (.int .i64 (canR RQ RWs o k)) ∧ PB w0 w' c x depth most Q Ws (canQ RQ o k) (canL RWs o k) B kind ob ky n Y :=
  (h.pp.rcancel ok o k).mono (fun _ _ g => ⟨g.1, h.kp g.2⟩)
end
/-- A packet in a box, another box, and two slices of one. -/
theorem two_boxes {w4 : World} {g : Nat} {a b d : Int} (h : w4.heap[g]? = some (.cells #[.int .i64 a, .int .i64 b, .int .i64 d] 37 (0, 0))) :
    ∃ W5, w4.alloc (.cells #[.int .i64 a, .int .i64 b, .int .i64 d] 40) = W5 ∧ ∃ W6, W5.alloc (.cells #[.int .i64 a, .int .i64 b, .int .i64 d] 37) = W6 ∧ ∃ W7, W6.alloc (.cells #[.int .i64 a, .int .i64 b, .int .i64 d] 40) = W7 ∧
      (W5.cell? ⟨g, 0, none⟩ = some (.int .i64 a) ∧ W5.cell? ⟨g, 1, none⟩ = some (.int .i64 b) ∧ W5.cell? ⟨g, 2, none⟩ = some (.int .i64 d)) ∧
      (W6.cell? ⟨w4.heap.size, 0, none⟩ = some (.int .i64 a) ∧ W6.cell? ⟨w4.heap.size, 1, none⟩ = some (.int .i64 b) ∧ W6.cell? ⟨w4.heap.size, 2, none⟩ = some (.int .i64 d)) ∧
      PkRd W7 (.slice (some ⟨W5.heap.size, 0, none⟩) 1 1) [⟨a, b, d⟩] ∧ PkRd W7 (.slice (some ⟨W6.heap.size, 0, none⟩) 1 1) [⟨a, b, d⟩] ∧ Turn NoBlock w4 W7 ∧ W5.heap.size = w4.heap.size + 1 ∧ W6.heap.size = w4.heap.size + 2 := by
  refine ⟨_, rfl, _, rfl, _, rfl, ?_, ?_, ?_, ?_, ?_, by simp, by simp⟩
  · exact pk3 (((Turn.refl NoBlock w4).alloc _).heap h (fun h => h))
  · exact rk3 (((Turn.refl NoBlock (w4.alloc _)).alloc _).heap (heap_alloc_new w4 _) (fun h => h))
  · exact one_rdp ⟨a, b, d⟩ (((Turn.refl NoBlock ((w4.alloc _).alloc _)).alloc _).heap (heap_alloc_new (w4.alloc _) _) (fun h => h))
  · exact one_rdp ⟨a, b, d⟩ (heap_alloc_new ((w4.alloc _).alloc _) _)
  · exact (((Turn.refl NoBlock w4).alloc _).alloc _).alloc _
theorem two_same {W : World} {g1 g2 : Nat} {p : Pk} (h1 : PkRd W (.slice (some ⟨g1, 0, none⟩) 1 1) [p]) (h2 : PkRd W (.slice (some ⟨g2, 0, none⟩) 1 1) [p]) (k1 k2 : Nat) (e1 : k1 = g1) (e2 : k2 = g2) :
    Calls Try.prog 14 #[.slice (some ⟨k1, 0, none⟩) 1 1, .slice (some ⟨k2, 0, none⟩) 1 1] W fun e w' => e = .returned (.bool true) ∧ Turn NoBlock W w' := by
  subst e1 e2
  exact same_any W _ _ [p] h1 h2 (by simp)
end Go.Proofs.Ytcnellkoejhofaa
