/-
  Merged: RCPl5, LawStep1, RCPl6, LawStep2, LawStep3, LawStep4, LawStep5, LawStepNo, LawStepAll. No conditions but theirs.
-/
import Derived.Test.YtcbphfpfdfgehaaCPlA
import Derived.OwnWalk
import Derived.Deep.DeepCutAuto
import Derived.Deep.RegionHeld3

namespace Go.Proofs.Ytcbphfpfdfgehaa
open Go.RowKit

/-- Within a step: the boxes of the call and of its message, the message's copies, and both channels. -/
structure SM (w0 w : World) (c x depth N : Nat) (K1 K : Nat → MS) (B C : Nat) (ob : Array Value) (tx : Int) (a b : Value) (d : List UInt8) (hh : List Int) : Prop where
  ps : PSx w0 w c x depth N (X4 B C a b) K1 K
  b10 : w.heap[B]? = some (.cells ob 40 (0, 0))
  b11 : w.heap[C]? = some (.cells #[.int .i64 tx, a, b] 49 (0, 0))
  ra : Byts a d w
  rb : Nums b hh w
section
variable {w0 w w' wr w2 : World} {c x depth N M B C : Nat} {K K1 K2 K3 : Nat → MS} {ob : Array Value} {tx : Int} {a b : Value} {d : List UInt8} {hh : List Int}
theorem kp_heap5 {X : Nat → Prop} {k : Nat} {o : Obj} (h : Kp X w w') (hk : w.heap[k]? = some o) (hx : X k) : w'.heap[k]? = some o := by
  obtain ⟨F, t, hF⟩ := h
  exact t.heap hk (hF k hx)
theorem sm_start (h : PSx w0 wr c x depth N NoBlock K1 K) (t : Turn NoBlock (wr.alloc (.cells ob 40)) w2) (ha : Byts a d w2) (hb : Nums b hh w2) (hf : ∀ k, Blk a k ∨ Blk b k → wr.heap.size + 1 ≤ k) : SM w0 (w2.alloc (.cells #[.int .i64 tx, a, b] 49)) c x depth N K1 K wr.heap.size w2.heap.size ob tx a b d hh := by
  have hs := t.size
  simp at hs
  have t2 : Turn NoBlock w2 (w2.alloc (.cells #[.int .i64 tx, a, b] 49)) := (Turn.refl _ _).alloc _
  have t3 : Turn NoBlock wr w2 := TT ((Turn.refl _ _).alloc _) t
  have hlt : ∀ k, X4 wr.heap.size w2.heap.size a b k → wr.heap.size ≤ k ∧ k < (w2.alloc (.cells #[.int .i64 tx, a, b] 49)).heap.size := fun k hk => by
    rcases hk with rfl | rfl | hk | hk
    · simp; omega
    · simp; omega
    · have := WRow.lt ha hk; have := hf k (.inl hk); simp; omega
    · have := WRow.lt hb hk; have := hf k (.inr hk); simp; omega
  exact ⟨h.more (TT t3 t2) (fun k hk => .inr (hlt k hk)), t2.heap (t.heap (heap_alloc_new wr _) (fun h => h)) (fun h => h), heap_alloc_new w2 _, ha.past t2, hb.past t2⟩
theorem SM.next (h : SM w0 w c x depth N K1 K B C ob tx a b d hh) (p : PSx w0 w' c x depth M (X4 B C a b) K2 K3) (kp : Kp (X4 B C a b) w w') : SM w0 w' c x depth M K2 K3 B C ob tx a b d hh :=
  ⟨p, kp_heap5 kp h.b10 (.inl rfl), kp_heap5 kp h.b11 (.inr (.inl rfl)), kp.row h.ra (fun _ hk => .inr (.inr (.inl hk))), kp.row h.rb (fun _ hk => .inr (.inr (.inr hk)))⟩
theorem SM.past (h : SM w0 w c x depth N K1 K B C ob tx a b d hh) (t : Turn NoBlock w w') : SM w0 w' c x depth N K1 K B C ob tx a b d hh := h.next (h.ps.past t) (Kp.of_past t)
theorem SM.spoilt (h : SM w0 w c x depth N K1 K B C ob tx a b d hh) (t : Turn (fun k => Blk a k ∨ Blk b k) w w') (hM : N ≤ M) : PSx w0 w' c x depth M NoBlock K1 K :=
  PSx.mono (PSx.fewer (Z := NoBlock) (PSx.more (Z := X4 B C a b) h.ps (t.mono (fun k (hk : Blk a k ∨ Blk b k) => Or.inl (show X4 B C a b k from .inr (.inr hk)))) (fun _ hk => .inl hk)) (fun _ hk => hk.elim)) hM
theorem SM.cells (h : SM w0 w c x depth N K1 K B C ob tx a b d hh) : w.cell? ⟨C, 0, none⟩ = some (.int .i64 tx) ∧ w.cell? ⟨C, 1, none⟩ = some a ∧ w.cell? ⟨C, 2, none⟩ = some b :=
  ⟨by rw [cell_at h.b11]; rfl, by rw [cell_at h.b11]; rfl, by rw [cell_at h.b11]; rfl⟩
theorem SM.box {y0 y1 y2 y3 y4 y5 y6 : Value} (h : SM w0 w c x depth N K1 K B C #[y0, y1, y2, y3, y4, y5, y6] tx a b d hh) : w.cell? ⟨B, 0, none⟩ = some y0 ∧ w.cell? ⟨B, 1, none⟩ = some y1 ∧ w.cell? ⟨B, 2, none⟩ = some y2 ∧ w.cell? ⟨B, 3, none⟩ = some y3 ∧ w.cell? ⟨B, 4, none⟩ = some y4 ∧ w.cell? ⟨B, 5, none⟩ = some y5 ∧ w.cell? ⟨B, 6, none⟩ = some y6 :=
  ⟨by rw [cell_at h.b10]; rfl, by rw [cell_at h.b10]; rfl, by rw [cell_at h.b10]; rfl, by rw [cell_at h.b10]; rfl, by rw [cell_at h.b10]; rfl, by rw [cell_at h.b10]; rfl, by rw [cell_at h.b10]; rfl⟩
theorem psx_offx {Y : Nat → Prop} {v : Value} {xs : List Int} (h : PSx w0 w c x depth N Y K1 K) (hn : Nums v xs w) : ∀ k, Blk v k → k ≠ x := fun k hk e => by
  obtain ⟨U, V, Q, h⟩ := h
  subst e
  exact blk_typed hn h.r.typ (by decide) hk
/-- The reference's Close, behind the program's: of all that lies beside, nothing but its own block is turned. -/
theorem p_close3 {Y : Nat → Prop} (e : Int) (h : PSx w0 w c x depth N Y (at2 (clK K) K e) K) (hN : N ≤ 100000) :
    Calls Try.prog 47 #[.pointer (some ⟨x, 0, none⟩), .int .i64 e] w fun y w' => ∃ vh vc, y = .returned (.tuple #[vh, vc, .int .i64 (at2 (clS K) (-10) e)]) ∧ Nums vh (at2 (clH K) [] e) w' ∧ Nums vc (at2 (clW K) [] e) w' ∧ PSx w0 w' c x depth N Y (at2 (clK K) K e) (at2 (clK K) K e) ∧ Kp Y w w' ∧ Turn (fun k => k = x) w w' := by
  obtain ⟨U, V, Q, h⟩ := h
  have l0 := h.ln 0 (by omega)
  have l1 := h.ln 1 (by omega)
  by_cases e0 : e = 0
  · subst e0
    simp only [at2_0] at h ⊢
    refine (rcloseT0 h.r h.k.turn (fun e he => by have := h.ln e he; omega) (by omega)).mono ?_
    rintro y w' ⟨vh, vc, rfl, h1, h2, h3⟩
    obtain ⟨p, kp⟩ := pst_ref h h3
    exact ⟨vh, vc, rfl, h1, h2, p, kp, h3.choose_spec.choose_spec.choose_spec.2.1⟩
  · by_cases e1 : e = 1
    · subst e1
      simp only [at2_1] at h ⊢
      refine (rcloseT1 h.r h.k.turn (fun e he => by have := h.ln e he; omega) (by omega)).mono ?_
      rintro y w' ⟨vh, vc, rfl, h1, h2, h3⟩
      obtain ⟨p, kp⟩ := pst_ref h h3
      exact ⟨vh, vc, rfl, h1, h2, p, kp, h3.choose_spec.choose_spec.choose_spec.2.1⟩
    · simp only [at2_no _ _ e0 e1] at h ⊢
      exact (rclose_bad x e w e0 e1).mono (fun y w' hh => by
        obtain ⟨rfl, rfl⟩ := hh
        exact ⟨_, _, rfl, wrow_nil _ _ _, wrow_nil _ _ _, ⟨U, V, Q, h⟩, Kp.of_past (Turn.refl _ _), Turn.refl _ _⟩)
/-- The messages that wait are small. -/
theorem cst_fits {Y : Nat → Prop} (h : CSt w0 w c depth N K Y) : ∀ e, e < 2 → ∀ m ∈ (K e).q, m.h.length ≤ 64 := by
  obtain ⟨S, V, h1, rfl, -, -, -⟩ := h
  intro e he m hm
  have h2 : m ∈ ((S e).q.map (·.m)) := hm
  obtain ⟨q, hq, rfl⟩ := List.mem_map.1 h2
  have h3 := (h1.s e he).ok q (by simpa [Sd.q] using hq)
  exact h3.fits.2
theorem flat_le (l : List Msg) (h : ∀ m ∈ l, m.h.length ≤ 64) : (l.flatMap (·.h)).length ≤ 64 * l.length := by
  induction l with
  | nil => simp
  | cons a r ih =>
    have h1 := h a (by simp)
    have h2 := ih (fun m hm => h m (by simp [hm]))
    simp only [List.flatMap_cons, List.length_append, List.length_cons]
    omega
/-- What a close leaves behind is not much. -/
theorem psx_cl_len {Y : Nat → Prop} (h : PSx w0 w c x depth N Y K K) (hN : N ≤ 100000) (e : Int) : (at2 (clH K) [] e).length ≤ 1000000000 ∧ (at2 (clW K) [] e).length ≤ 1000000000 := by
  obtain ⟨U, V, Q, h⟩ := h
  have go : ∀ e, e < 2 → (clH K e).length ≤ 1000000000 ∧ (clW K e).length ≤ 1000000000 := fun e he => by
    have l0 := h.ln e he
    have l1 := h.ln (oth e) (by unfold oth; omega)
    have f := flat_le _ (cst_fits h.k e he)
    unfold clH clW
    split
    · simp
    · simp only [List.length_append, List.length_map]
      omega
  by_cases e0 : e = 0
  · subst e0; exact go 0 (by omega)
  · by_cases e1 : e = 1
    · subst e1; exact go 1 (by omega)
    · rw [at2_no _ _ e0 e1, at2_no _ _ e0 e1]; simp
end
end Go.Proofs.Ytcbphfpfdfgehaa

namespace Go.Proofs.Ytcbphfpfdfgehaa
open Go.ChangeShapes Go.WideShapes Go.ChangeAt Go.RowKit

set_option linter.unusedVariables false
set_option maxRecDepth 20000 in
set_option maxHeartbeats 4000000 in
theorem step1 {w0 wr : World} {c x depth N : Nat} {K : Nat → MS} (h : PSx w0 wr c x depth N NoBlock K K) (hN : N ≤ 90000) (en n k tx : Int) (d : List UInt8) (hh : List Int) (pd ph : Option Addr) (cd ch : Nat) (hq : RzB w0 (.slice pd d.length cd) d ∧ RzI w0 (.slice ph hh.length ch) hh) (hl : d.length ≤ 300 ∧ hh.length ≤ 80) :
    Calls Try.prog 12 #[.pointer (some ⟨c, 0, none⟩), .pointer (some ⟨x, 0, none⟩), .agg #[.int .i64 1, .int .i64 en, .int .i64 n, .int .i64 k, .int .i64 tx, .slice pd d.length cd, .slice ph hh.length ch]] wr fun e w' => e = .returned (.bool true) ∧ ∃ K', PSx w0 w' c x depth (N + 4) NoBlock K' K' := by
  have HQ := Lib.hid hq
  have HS := Lib.hid h
  have HL := Lib.hid hl
  have hl1 : d.length ≤ 300 := hl.1
  have CM := Lib.hid (fun W (t : Turn NoBlock wr W) => message_any W tx d hh _ _ (HQ.out.1.past (TT h.turn t)) (HQ.out.2.past (TT h.turn t)) (by omega))
  clear h hq hl hl1
  go_enter Try.func12, Try.ntmps12
  go_upto_region 3 with (go_at_call 38; (with_reducible refine (CM.out _ ((Turn.refl _ _).alloc _)).mono ?_); rintro e w2 ⟨a, b, rfl, ha, hb, hf, t2⟩; obtain ⟨pa, ca, rfl⟩ := ha.sl; obtain ⟨pb, cb, rfl⟩ := hb.sl; have S2 := Lib.hid (And.intro ha (And.intro hb (And.intro hf t2))); clear ha hb hf t2)
  have START := Lib.hid (sm_start (tx := tx) HS.out S2.out.2.2.2 S2.out.1 S2.out.2.1 (fun k hk => by have := S2.out.2.2.1 k hk; simpa using this))
  clear S2 CM
  generalize w2.alloc (.cells #[.int .i64 tx, .slice pa d.length ca, .slice pb hh.length cb] 49) = W at *
  generalize wr.heap.size = B at *
  generalize w2.heap.size = C at *
  obtain ⟨x0, x1, x2, x3, x4, x5, x6⟩ := START.out.box
  obtain ⟨m0, m1, m2⟩ := START.out.cells
  have PW := Lib.hid (show Calls Try.prog 36 #[.pointer (some ⟨c, 0, none⟩), .int .i64 en, .agg #[.int .i64 tx, .slice pa d.length ca, .slice pb hh.length cb]] W _ from p_write START.out.ps (by omega) en ⟨tx, d, hh⟩ _ _ ⟨by have := HL.out.1; show d.length ≤ 100000; omega, by have := HL.out.2; show hh.length ≤ 100000; omega⟩ (Byts.rd START.out.ra) (Nums.rd START.out.rb) (fun j hj => .inr (.inr hj)))
  have PX := Lib.hid (fun W3 (p : PSx w0 W3 c x depth (N + 2) (X4 B C (.slice pa d.length ca) (.slice pb hh.length cb)) (at2 (fun i => cwK depth K i ⟨tx, d, hh⟩) K en) K) => show Calls Try.prog 39 #[.pointer (some ⟨x, 0, none⟩), .int .i64 en, .agg #[.int .i64 tx, .slice pd d.length cd, .slice ph hh.length ch]] W3 _ from p_write2 en ⟨tx, d, hh⟩ _ _ p (by omega) HQ.out.1 HQ.out.2)
  generalize at2 (fun i => cwN depth K i ⟨tx, d, hh⟩) 0 en = wn at *
  generalize at2 (fun i => cwS depth K i ⟨tx, d, hh⟩) (-10) en = ws at *
  generalize at2 (fun i => cwK depth K i ⟨tx, d, hh⟩) K en = K2 at *
  go_wp2_with (first
    | (go_at_call 36; (with_reducible refine PW.out.mono ?_); rintro e w3 ⟨rfl, p3, kp3⟩; have S3 := Lib.hid (START.out.next p3 kp3); obtain ⟨y0, y1, y2, y3, y4, y5, y6⟩ := S3.out.box; clear p3 kp3)
    | (go_at_call 39; (with_reducible refine (PX.out _ S3.out.ps).mono ?_); rintro e w4 ⟨rfl, p4, kp4⟩; have S4 := Lib.hid (S3.out.next p4 kp4); obtain ⟨z0, z1, z2⟩ := S4.out.cells; clear p4 kp4)
    | (go_at_call 41; (with_reducible refine (spoil_any _ tx _ _ _ _ (uk_byts S4.out.ra) (uk_nums S4.out.rb)).mono ?_); rintro e w9 ⟨⟨u, rfl⟩, t9⟩; have D9 := Lib.hid (S4.out.spoilt (M := N + 4) t9 (by omega)); clear t9))
  go_ret
  exact ⟨rfl, K2, D9.out⟩
end Go.Proofs.Ytcbphfpfdfgehaa

namespace Go.Proofs.Ytcbphfpfdfgehaa
open Go.RowKit

/-- Behind the program's Read: what it told, in a box of its own. -/
structure SR (w0 w : World) (c x depth N : Nat) (K1 K : Nat → MS) (B C : Nat) (ob : Array Value) (tx : Int) (a b : Value) (d : List UInt8) (hh : List Int) (q : QM) (D : Nat) : Prop where
  sm : SM w0 w c x depth N K1 K B C ob tx a b d hh
  ps : PSx w0 w c x depth N (fun k => X4 B C a b k ∨ q.F k ∨ k = D) K1 K
  ok : q.Ok w
  bx : w.heap[D]? = some (.cells #[.int .i64 q.m.tx, q.vd, q.vh] 49 (0, 0))
  ap : ∀ j, q.F j → ¬ X4 B C a b j
section
variable {w0 w w' w3 : World} {c x depth N M B C D : Nat} {K K1 K2 K3 : Nat → MS} {ob : Array Value} {tx : Int} {a b : Value} {d : List UInt8} {hh : List Int} {q : QM}
theorem sr_start (h : SM w0 w c x depth N K1 K B C ob tx a b d hh) (hq : q.Ok w3) (p : PSx w0 w3 c x depth M (fun j => X4 B C a b j ∨ q.F j) K2 K) (kp : Kp (X4 B C a b) w w3) (ap : ∀ j, q.F j → ¬ X4 B C a b j) : SR w0 (w3.alloc (.cells #[.int .i64 q.m.tx, q.vd, q.vh] 49)) c x depth M K2 K B C ob tx a b d hh q w3.heap.size := by
  have t : Turn NoBlock w3 (w3.alloc (.cells #[.int .i64 q.m.tx, q.vd, q.vh] 49)) := (Turn.refl _ _).alloc _
  refine ⟨(h.next (PSx.fewer p (fun _ hk => .inl hk)) kp).past t, PSx.more p (t.mono (fun _ hk => hk.elim)) (fun k hk => ?_), hq.kept t (fun _ _ h => h), heap_alloc_new w3 _, ap⟩
  rcases hk with hk | hk | hk
  · exact .inl (.inl hk)
  · exact .inl (.inr hk)
  · subst hk
    exact .inr ⟨Nat.le_refl _, by simp⟩
theorem SR.next (h : SR w0 w c x depth N K1 K B C ob tx a b d hh q D) (p : PSx w0 w' c x depth M (fun k => X4 B C a b k ∨ q.F k ∨ k = D) K2 K3) (kp : Kp (fun k => X4 B C a b k ∨ q.F k ∨ k = D) w w') : SR w0 w' c x depth M K2 K3 B C ob tx a b d hh q D := by
  obtain ⟨F, t, hF⟩ := kp
  exact ⟨h.sm.next (PSx.fewer p (fun _ hk => .inl hk)) ⟨F, t, fun k hk => hF k (.inl hk)⟩, p, h.ok.kept t (fun k hk => hF k (.inr (.inl hk))), t.heap h.bx (hF D (.inr (.inr rfl))), h.ap⟩
theorem SR.past (h : SR w0 w c x depth N K1 K B C ob tx a b d hh q D) (t : Turn NoBlock w w') : SR w0 w' c x depth N K1 K B C ob tx a b d hh q D := h.next (h.ps.past t) (Kp.of_past t)
theorem SR.cells (h : SR w0 w c x depth N K1 K B C ob tx a b d hh q D) : w.cell? ⟨D, 0, none⟩ = some (.int .i64 q.m.tx) ∧ w.cell? ⟨D, 1, none⟩ = some q.vd ∧ w.cell? ⟨D, 2, none⟩ = some q.vh :=
  ⟨by rw [cell_at h.bx]; rfl, by rw [cell_at h.bx]; rfl, by rw [cell_at h.bx]; rfl⟩
theorem SR.spoilt (h : SR w0 w c x depth N K1 K B C ob tx a b d hh q D) (t : Turn (fun k => Blk q.vd k ∨ Blk q.vh k) w w') : SM w0 w' c x depth N K1 K B C ob tx a b d hh := by
  refine ⟨PSx.more (Z := X4 B C a b) h.ps (t.mono (fun k (hk : Blk q.vd k ∨ Blk q.vh k) => .inl (.inr (.inl hk)))) (fun _ hk => .inl (.inl hk)), t.heap h.sm.b10 (fun hk => h.ap _ hk (.inl rfl)), t.heap h.sm.b11 (fun hk => h.ap _ hk (.inr (.inl rfl))), h.sm.ra.kept t (fun k hk hf => h.ap k hf (.inr (.inr (.inl hk)))), h.sm.rb.kept t (fun k hk hf => h.ap k hf (.inr (.inr (.inr hk))))⟩
end
end Go.Proofs.Ytcbphfpfdfgehaa

namespace Go.Proofs.Ytcbphfpfdfgehaa
open Go.ChangeShapes Go.WideShapes Go.ChangeAt Go.RowKit

set_option linter.unusedVariables false
set_option maxRecDepth 20000 in
set_option maxHeartbeats 4000000 in
theorem step2 {w0 wr : World} {c x depth N : Nat} {K : Nat → MS} (h : PSx w0 wr c x depth N NoBlock K K) (hN : N ≤ 90000) (en n k tx : Int) (d : List UInt8) (hh : List Int) (pd ph : Option Addr) (cd ch : Nat) (hq : RzB w0 (.slice pd d.length cd) d ∧ RzI w0 (.slice ph hh.length ch) hh) (hl : d.length ≤ 300 ∧ hh.length ≤ 80) :
    Calls Try.prog 12 #[.pointer (some ⟨c, 0, none⟩), .pointer (some ⟨x, 0, none⟩), .agg #[.int .i64 2, .int .i64 en, .int .i64 n, .int .i64 k, .int .i64 tx, .slice pd d.length cd, .slice ph hh.length ch]] wr fun e w' => e = .returned (.bool true) ∧ ∃ K', PSx w0 w' c x depth (N + 4) NoBlock K' K' := by
  have HQ := Lib.hid hq
  have HS := Lib.hid h
  have HL := Lib.hid hl
  have hl1 : d.length ≤ 300 := hl.1
  have CM := Lib.hid (fun W (t : Turn NoBlock wr W) => message_any W tx d hh _ _ (HQ.out.1.past (TT h.turn t)) (HQ.out.2.past (TT h.turn t)) (by omega))
  clear h hq hl hl1
  go_enter Try.func12, Try.ntmps12
  go_upto_region 3 with (go_at_call 38; (with_reducible refine (CM.out _ ((Turn.refl _ _).alloc _)).mono ?_); rintro e w2 ⟨a, b, rfl, ha, hb, hf, t2⟩; obtain ⟨pa, ca, rfl⟩ := ha.sl; obtain ⟨pb, cb, rfl⟩ := hb.sl; have S2 := Lib.hid (And.intro ha (And.intro hb (And.intro hf t2))); clear ha hb hf t2)
  have START := Lib.hid (sm_start (tx := tx) HS.out S2.out.2.2.2 S2.out.1 S2.out.2.1 (fun k hk => by have := S2.out.2.2.1 k hk; simpa using this))
  clear S2 CM
  generalize w2.alloc (.cells #[.int .i64 tx, .slice pa d.length ca, .slice pb hh.length cb] 49) = W at *
  generalize wr.heap.size = B at *
  generalize w2.heap.size = C at *
  obtain ⟨x0, x1, x2, x3, x4, x5, x6⟩ := START.out.box
  obtain ⟨m0, m1, m2⟩ := START.out.cells
  have PR := Lib.hid (p_read START.out.ps (by omega) en n k)
  have P2 := Lib.hid (fun W3 (Y : Nat → Prop) (p : PSx w0 W3 c x depth N Y (at2 (fun a => crK K a n k) K en) K) => p_read2 en n k p (by omega))
  generalize at2 (fun a => crS K a n k) (-10) en = rs at *
  generalize at2 (fun a => crM K a n k) zM en = rm at *
  generalize at2 (fun a => crK K a n k) K en = K2 at *
  go_upto_region 10 with (go_at_call 37; (with_reducible refine PR.out.mono ?_); rintro e w3 ⟨q, rfl, hqm, hok, p3, kp3, ap⟩; obtain ⟨⟨qt, qd, qh⟩, qvd, qvh⟩ := q; obtain ⟨qp, qc, e1⟩ := hok.d.sl; obtain ⟨rp, rc, e2⟩ := hok.h.sl; (try dsimp only at e1 e2); subst e1; subst e2; (try dsimp only at hqm); subst hqm; have S3 := Lib.hid (sr_start START.out hok p3 kp3 ap); unfold QM.agg; clear hok p3 kp3 ap PR)
  generalize w3.alloc (.cells #[.int .i64 qt, .slice qp qd.length qc, .slice rp qh.length rc] 49) = W3 at *
  generalize w3.heap.size = D at *
  obtain ⟨y0, y1, y2, y3, y4, y5, y6⟩ := S3.out.sm.box
  go_upto_region 11 with (go_at_call 40; (with_reducible refine (P2.out _ _ S3.out.ps).mono ?_); rintro e w4 ⟨v, rfl, ⟨ud, uh, rfl, u1, u2⟩, p4, kp4⟩; obtain ⟨up, uc, e1⟩ := u1.sl; obtain ⟨vp, vc, e2⟩ := u2.sl; (try dsimp only at e1 e2 u1 u2); subst e1; subst e2; have S4 := Lib.hid (S3.out.next p4 kp4); have U4 := Lib.hid (And.intro u1 u2); have OL := Lib.hid (show qh.length ≤ 1000000000 from by have := S4.out.ok.fits.2; dsimp only at this; omega); clear p4 kp4 u1 u2)
  have S5 := Lib.hid (S4.out.past ((Turn.refl NoBlock w4).alloc (.cells #[.int .i64 qt, .slice up qd.length uc, .slice vp qh.length vc] 38)))
  have U5 := Lib.hid (And.intro (RzB.past U4.out.1 ((Turn.refl NoBlock w4).alloc (.cells #[.int .i64 qt, .slice up qd.length uc, .slice vp qh.length vc] 38))) (RzI.past U4.out.2 ((Turn.refl NoBlock w4).alloc (.cells #[.int .i64 qt, .slice up qd.length uc, .slice vp qh.length vc] 38))))
  have BX5 := heap_alloc_new w4 (.cells #[.int .i64 qt, .slice up qd.length uc, .slice vp qh.length vc] 38)
  generalize w4.alloc (.cells #[.int .i64 qt, .slice up qd.length uc, .slice vp qh.length vc] 38) = W5 at *
  generalize w4.heap.size = E at *
  obtain ⟨s0, s1, s2⟩ := S5.out.cells
  dsimp only at s0 s1 s2
  obtain ⟨b0, b1, b2⟩ := box3 BX5
  clear BX5
  go_wp2_with (first
    | (go_at_call 18; (with_reducible refine (same_eq _ _ _ _ _ _ _ _ OL.out (Byts.rd S5.out.ok.d) (Nums.rd S5.out.ok.h) U5.out.1 U5.out.2).mono ?_); rintro e w6 ⟨rfl, t6⟩; have S6 := Lib.hid (S5.out.past t6); have q6 := S6.out.cells; dsimp only at q6; obtain ⟨r0, r1, r2⟩ := q6; clear t6)
    | (go_at_call 41; (with_reducible refine (spoil_any _ qt _ _ _ _ (uk_byts S6.out.ok.d) (uk_nums S6.out.ok.h)).mono ?_); rintro e w7 ⟨⟨u, rfl⟩, t7⟩; have S7 := Lib.hid (S6.out.spoilt t7); obtain ⟨z0, z1, z2⟩ := S7.out.cells; clear t7)
    | (go_at_call 41; (with_reducible refine (spoil_any _ tx _ _ _ _ (uk_byts S7.out.ra) (uk_nums S7.out.rb)).mono ?_); rintro e w9 ⟨⟨u, rfl⟩, t9⟩; have D9 := Lib.hid (S7.out.spoilt (M := N + 4) t9 (by omega)); clear t9))
  go_ret
  exact ⟨rfl, K2, D9.out⟩
end Go.Proofs.Ytcbphfpfdfgehaa

namespace Go.Proofs.Ytcbphfpfdfgehaa
open Go.ChangeShapes Go.WideShapes Go.ChangeAt Go.RowKit

theorem e_of3 {w0 W : World} {c x depth N B C : Nat} {K1 K : Nat → MS} {kd en n k tx : Int} {d : List UInt8} {hh : List Int} {vd vh a b : Value} (h : SM w0 W c x depth N K1 K B C #[.int .i64 kd, .int .i64 en, .int .i64 n, .int .i64 k, .int .i64 tx, vd, vh] tx a b d hh) : W.cell? ⟨B, 1, none⟩ = some (.int .i64 en) ∧ W.cell? ⟨B, 2, none⟩ = some (.int .i64 n) ∧ W.cell? ⟨B, 4, none⟩ = some (.int .i64 tx) ∧ W.cell? ⟨B, 5, none⟩ = some (vd) ∧ W.cell? ⟨B, 6, none⟩ = some (vh) ∧ W.cell? ⟨C, 0, none⟩ = some (.int .i64 tx) ∧ W.cell? ⟨C, 1, none⟩ = some (a) ∧ W.cell? ⟨C, 2, none⟩ = some (b) := by
  obtain ⟨x0, x1, x2, x3, x4, x5, x6⟩ := h.box
  obtain ⟨m0, m1, m2⟩ := h.cells
  exact ⟨x1, x2, x4, x5, x6, m0, m1, m2⟩
set_option linter.unusedVariables false
set_option maxRecDepth 20000 in
set_option maxHeartbeats 4000000 in
theorem step3 {w0 wr : World} {c x depth N : Nat} {K : Nat → MS} (h : PSx w0 wr c x depth N NoBlock K K) (hN : N ≤ 90000) (en n k tx : Int) (d : List UInt8) (hh : List Int) (pd ph : Option Addr) (cd ch : Nat) (hq : RzB w0 (.slice pd d.length cd) d ∧ RzI w0 (.slice ph hh.length ch) hh) (hl : d.length ≤ 300 ∧ hh.length ≤ 80) :
    Calls Try.prog 12 #[.pointer (some ⟨c, 0, none⟩), .pointer (some ⟨x, 0, none⟩), .agg #[.int .i64 3, .int .i64 en, .int .i64 n, .int .i64 k, .int .i64 tx, .slice pd d.length cd, .slice ph hh.length ch]] wr fun e w' => e = .returned (.bool true) ∧ ∃ K', PSx w0 w' c x depth (N + 4) NoBlock K' K' := by
  have HQ := Lib.hid hq
  have HS := Lib.hid h
  have HL := Lib.hid hl
  have hl1 : d.length ≤ 300 := hl.1
  have CM := Lib.hid (fun W (t : Turn NoBlock wr W) => message_any W tx d hh _ _ (HQ.out.1.past (TT h.turn t)) (HQ.out.2.past (TT h.turn t)) (by omega))
  clear h hq hl hl1
  go_enter Try.func12, Try.ntmps12
  go_upto_region 3 with (go_at_call 38; (with_reducible refine (CM.out _ ((Turn.refl _ _).alloc _)).mono ?_); rintro e w2 ⟨a, b, rfl, ha, hb, hf, t2⟩; obtain ⟨pa, ca, rfl⟩ := ha.sl; obtain ⟨pb, cb, rfl⟩ := hb.sl; have S2 := Lib.hid (And.intro ha (And.intro hb (And.intro hf t2))); clear ha hb hf t2)
  have START := Lib.hid (sm_start (tx := tx) HS.out S2.out.2.2.2 S2.out.1 S2.out.2.1 (fun k hk => by have := S2.out.2.2.1 k hk; simpa using this))
  clear S2 CM
  generalize w2.alloc (.cells #[.int .i64 tx, .slice pa d.length ca, .slice pb hh.length cb] 49) = W at *
  generalize wr.heap.size = B at *
  generalize w2.heap.size = C at *
  obtain ⟨x0, x1, x2, x3, x4, x5, x6⟩ := START.out.box
  obtain ⟨m0, m1, m2⟩ := START.out.cells
  have PF := Lib.hid (fun W3 (t : Turn NoBlock W W3) => show Calls Try.prog 42 #[.pointer (some ⟨c, 0, none⟩), .int .i64 en, .int .i64 n, .agg #[.int .i64 tx, .slice pa d.length ca, .slice pb hh.length cb]] W3 _ from p_call (START.out.past t).ps (by omega) en n ⟨tx, d, hh⟩ _ _ ⟨by have := HL.out.1; show d.length ≤ 100000; omega, by have := HL.out.2; show hh.length ≤ 100000; omega⟩ (Byts.rd (START.out.past t).ra) (Nums.rd (START.out.past t).rb) (fun j hj => .inr (.inr hj)))
  have PA := Lib.hid (fun W3 (t : Turn NoBlock W W3) => show Calls Try.prog 43 #[.pointer (some ⟨x, 0, none⟩), .int .i64 en, .int .i64 n, .agg #[.int .i64 tx, .slice pd d.length cd, .slice ph hh.length ch]] W3 _ from p_callA en n ⟨tx, d, hh⟩ _ _ (START.out.past t).ps (by omega) HQ.out.1 HQ.out.2)
  have P2 := Lib.hid (fun W3 (p : PSx w0 W3 c x depth (N + 2) (X4 B C (.slice pa d.length ca) (.slice pb hh.length cb)) (at2 (fun i => ccK depth K i ⟨tx, d, hh⟩ n) K en) K) => show Calls Try.prog 43 #[.pointer (some ⟨x, 0, none⟩), .int .i64 en, .int .i64 n, .agg #[.int .i64 tx, .slice pd d.length cd, .slice ph hh.length ch]] W3 _ from p_call2 en n ⟨tx, d, hh⟩ _ _ p (by omega) HQ.out.1 HQ.out.2)
  have PB := Lib.hid (fun W3 (p : PSx w0 W3 c x depth (N + 2) (X4 B C (.slice pa d.length ca) (.slice pb hh.length cb)) K (at2 (fun i => ccK depth K i ⟨tx, d, hh⟩ n) K en)) (ra : Byts (.slice pa d.length ca) d W3) (rb : Nums (.slice pb hh.length cb) hh W3) => show Calls Try.prog 42 #[.pointer (some ⟨c, 0, none⟩), .int .i64 en, .int .i64 n, .agg #[.int .i64 tx, .slice pa d.length ca, .slice pb hh.length cb]] W3 _ from p_callB p (by omega) en n ⟨tx, d, hh⟩ _ _ ⟨by have := HL.out.1; show d.length ≤ 100000; omega, by have := HL.out.2; show hh.length ≤ 100000; omega⟩ (Byts.rd ra) (Nums.rd rb) (fun j hj => .inr (.inr hj)))
  generalize at2 (fun i => ccS depth K i ⟨tx, d, hh⟩ n) (-10) en = fs at *
  generalize at2 (fun i => ccK depth K i ⟨tx, d, hh⟩ n) K en = K2 at *
  go_upto_region 14 with (fail)
  go_region_held3 (fun W => W.cell? ⟨B, 1, none⟩ = some (.int .i64 en) ∧ W.cell? ⟨B, 2, none⟩ = some (.int .i64 n) ∧ W.cell? ⟨B, 4, none⟩ = some (.int .i64 tx) ∧ W.cell? ⟨B, 5, none⟩ = some (.slice pd d.length cd) ∧ W.cell? ⟨B, 6, none⟩ = some (.slice ph hh.length ch) ∧ W.cell? ⟨C, 0, none⟩ = some (.int .i64 tx) ∧ W.cell? ⟨C, 1, none⟩ = some (.slice pa d.length ca) ∧ W.cell? ⟨C, 2, none⟩ = some (.slice pb hh.length cb)) (first | exact ⟨x1, x2, x4, x5, x6, m0, m1, m2⟩ | exact E5.out | exact E4.out | exact E3.out) (first
    | (go_at_call 42; (with_reducible refine (PB.out _ S4.out.ps S4.out.ra S4.out.rb).mono ?_); rintro e w5 ⟨rfl, p5, kp5⟩; have S5 := Lib.hid (S4.out.next p5 kp5); have E5 := Lib.hid (e_of3 S5.out); clear p5 kp5)
    | (go_at_call 42; (with_reducible refine (PF.out _ ((Turn.refl _ W).drew)).mono ?_); rintro e w3 ⟨rfl, p3, kp3⟩; have S3 := Lib.hid ((START.out.past ((Turn.refl _ W).drew)).next p3 kp3); have E3 := Lib.hid (e_of3 S3.out); clear p3 kp3)
    | (go_at_call 43; (with_reducible refine (P2.out _ S3.out.ps).mono ?_); rintro e w5 ⟨rfl, p5, kp5⟩; have S5 := Lib.hid (S3.out.next p5 kp5); have E5 := Lib.hid (e_of3 S5.out); clear p5 kp5)
    | (go_at_call 43; (with_reducible refine (PA.out _ ((Turn.refl _ W).drew)).mono ?_); rintro e w4 ⟨rfl, p4, kp4⟩; have S4 := Lib.hid ((START.out.past ((Turn.refl _ W).drew)).next p4 kp4); have E4 := Lib.hid (e_of3 S4.out); clear p4 kp4))
  all_goals
    obtain ⟨z0, z1, z2⟩ := S5.out.cells
    go_wp2_with (go_at_call 41; (with_reducible refine (spoil_any _ tx _ _ _ _ (uk_byts S5.out.ra) (uk_nums S5.out.rb)).mono ?_); rintro e w9 ⟨⟨u, rfl⟩, t9⟩; have D9 := Lib.hid (S5.out.spoilt (M := N + 4) t9 (by omega)); clear t9)
    go_ret
    exact ⟨rfl, K2, D9.out⟩
end Go.Proofs.Ytcbphfpfdfgehaa

namespace Go.Proofs.Ytcbphfpfdfgehaa
open Go.ChangeShapes Go.WideShapes Go.ChangeAt Go.RowKit

theorem e_of4 {w0 W : World} {c x depth N B C : Nat} {K1 K : Nat → MS} {kd en n k tx : Int} {d : List UInt8} {hh : List Int} {vd vh a b : Value} (h : SM w0 W c x depth N K1 K B C #[.int .i64 kd, .int .i64 en, .int .i64 n, .int .i64 k, .int .i64 tx, vd, vh] tx a b d hh) : W.cell? ⟨B, 1, none⟩ = some (.int .i64 en) ∧ W.cell? ⟨B, 2, none⟩ = some (.int .i64 n) := by
  obtain ⟨x0, x1, x2, x3, x4, x5, x6⟩ := h.box
  obtain ⟨m0, m1, m2⟩ := h.cells
  exact ⟨x1, x2⟩
set_option linter.unusedVariables false
set_option maxRecDepth 20000 in
set_option maxHeartbeats 4000000 in
theorem step4 {w0 wr : World} {c x depth N : Nat} {K : Nat → MS} (h : PSx w0 wr c x depth N NoBlock K K) (hN : N ≤ 90000) (en n k tx : Int) (d : List UInt8) (hh : List Int) (pd ph : Option Addr) (cd ch : Nat) (hq : RzB w0 (.slice pd d.length cd) d ∧ RzI w0 (.slice ph hh.length ch) hh) (hl : d.length ≤ 300 ∧ hh.length ≤ 80) :
    Calls Try.prog 12 #[.pointer (some ⟨c, 0, none⟩), .pointer (some ⟨x, 0, none⟩), .agg #[.int .i64 4, .int .i64 en, .int .i64 n, .int .i64 k, .int .i64 tx, .slice pd d.length cd, .slice ph hh.length ch]] wr fun e w' => e = .returned (.bool true) ∧ ∃ K', PSx w0 w' c x depth (N + 4) NoBlock K' K' := by
  have HQ := Lib.hid hq
  have HS := Lib.hid h
  have HL := Lib.hid hl
  have hl1 : d.length ≤ 300 := hl.1
  have CM := Lib.hid (fun W (t : Turn NoBlock wr W) => message_any W tx d hh _ _ (HQ.out.1.past (TT h.turn t)) (HQ.out.2.past (TT h.turn t)) (by omega))
  clear h hq hl hl1
  go_enter Try.func12, Try.ntmps12
  go_upto_region 3 with (go_at_call 38; (with_reducible refine (CM.out _ ((Turn.refl _ _).alloc _)).mono ?_); rintro e w2 ⟨a, b, rfl, ha, hb, hf, t2⟩; obtain ⟨pa, ca, rfl⟩ := ha.sl; obtain ⟨pb, cb, rfl⟩ := hb.sl; have S2 := Lib.hid (And.intro ha (And.intro hb (And.intro hf t2))); clear ha hb hf t2)
  have START := Lib.hid (sm_start (tx := tx) HS.out S2.out.2.2.2 S2.out.1 S2.out.2.1 (fun k hk => by have := S2.out.2.2.1 k hk; simpa using this))
  clear S2 CM
  generalize w2.alloc (.cells #[.int .i64 tx, .slice pa d.length ca, .slice pb hh.length cb] 49) = W at *
  generalize wr.heap.size = B at *
  generalize w2.heap.size = C at *
  obtain ⟨x0, x1, x2, x3, x4, x5, x6⟩ := START.out.box
  obtain ⟨m0, m1, m2⟩ := START.out.cells
  have PF := Lib.hid (fun W3 (t : Turn NoBlock W W3) => p_forget (START.out.past t).ps (by omega) en n)
  have PA := Lib.hid (fun W3 (t : Turn NoBlock W W3) => p_forgetA en n (START.out.past t).ps (by omega))
  have P2 := Lib.hid (fun W3 (p : PSx w0 W3 c x depth (N + 2) (X4 B C (.slice pa d.length ca) (.slice pb hh.length cb)) (at2 (fun i => cfK K i n) K en) K) => p_forget2 en n p (by omega))
  have PB := Lib.hid (fun W3 (p : PSx w0 W3 c x depth (N + 2) (X4 B C (.slice pa d.length ca) (.slice pb hh.length cb)) K (at2 (fun i => cfK K i n) K en)) => p_forgetB p (by omega) en n)
  generalize at2 (fun i => cfS K i n) (-10) en = fs at *
  generalize at2 (fun i => cfK K i n) K en = K2 at *
  go_upto_region 16 with (fail)
  go_region_held3 (fun W => W.cell? ⟨B, 1, none⟩ = some (.int .i64 en) ∧ W.cell? ⟨B, 2, none⟩ = some (.int .i64 n)) (first | exact ⟨x1, x2⟩ | exact E5.out | exact E4.out | exact E3.out) (first
    | (go_at_call 44; (with_reducible refine (PB.out _ S4.out.ps ).mono ?_); rintro e w5 ⟨rfl, p5, kp5⟩; have S5 := Lib.hid (S4.out.next p5 kp5); have E5 := Lib.hid (e_of4 S5.out); clear p5 kp5)
    | (go_at_call 44; (with_reducible refine (PF.out _ ((Turn.refl _ W).drew)).mono ?_); rintro e w3 ⟨rfl, p3, kp3⟩; have S3 := Lib.hid ((START.out.past ((Turn.refl _ W).drew)).next p3 kp3); have E3 := Lib.hid (e_of4 S3.out); clear p3 kp3)
    | (go_at_call 45; (with_reducible refine (P2.out _ S3.out.ps).mono ?_); rintro e w5 ⟨rfl, p5, kp5⟩; have S5 := Lib.hid (S3.out.next p5 kp5); have E5 := Lib.hid (e_of4 S5.out); clear p5 kp5)
    | (go_at_call 45; (with_reducible refine (PA.out _ ((Turn.refl _ W).drew)).mono ?_); rintro e w4 ⟨rfl, p4, kp4⟩; have S4 := Lib.hid ((START.out.past ((Turn.refl _ W).drew)).next p4 kp4); have E4 := Lib.hid (e_of4 S4.out); clear p4 kp4))
  all_goals
    obtain ⟨z0, z1, z2⟩ := S5.out.cells
    go_wp2_with (go_at_call 41; (with_reducible refine (spoil_any _ tx _ _ _ _ (uk_byts S5.out.ra) (uk_nums S5.out.rb)).mono ?_); rintro e w9 ⟨⟨u, rfl⟩, t9⟩; have D9 := Lib.hid (S5.out.spoilt (M := N + 4) t9 (by omega)); clear t9)
    go_ret
    exact ⟨rfl, K2, D9.out⟩
end Go.Proofs.Ytcbphfpfdfgehaa

namespace Go.Proofs.Ytcbphfpfdfgehaa
open Go.ChangeShapes Go.WideShapes Go.ChangeAt Go.RowKit

set_option linter.unusedVariables false
set_option maxRecDepth 20000 in
set_option maxHeartbeats 4000000 in
theorem step5 {w0 wr : World} {c x depth N : Nat} {K : Nat → MS} (h : PSx w0 wr c x depth N NoBlock K K) (hN : N ≤ 90000) (en n k tx : Int) (d : List UInt8) (hh : List Int) (pd ph : Option Addr) (cd ch : Nat) (hq : RzB w0 (.slice pd d.length cd) d ∧ RzI w0 (.slice ph hh.length ch) hh) (hl : d.length ≤ 300 ∧ hh.length ≤ 80) :
    Calls Try.prog 12 #[.pointer (some ⟨c, 0, none⟩), .pointer (some ⟨x, 0, none⟩), .agg #[.int .i64 5, .int .i64 en, .int .i64 n, .int .i64 k, .int .i64 tx, .slice pd d.length cd, .slice ph hh.length ch]] wr fun e w' => e = .returned (.bool true) ∧ ∃ K', PSx w0 w' c x depth (N + 4) NoBlock K' K' := by
  have HQ := Lib.hid hq
  have HS := Lib.hid h
  have HL := Lib.hid hl
  have hl1 : d.length ≤ 300 := hl.1
  have CM := Lib.hid (fun W (t : Turn NoBlock wr W) => message_any W tx d hh _ _ (HQ.out.1.past (TT h.turn t)) (HQ.out.2.past (TT h.turn t)) (by omega))
  clear h hq hl hl1
  go_enter Try.func12, Try.ntmps12
  go_upto_region 3 with (go_at_call 38; (with_reducible refine (CM.out _ ((Turn.refl _ _).alloc _)).mono ?_); rintro e w2 ⟨a, b, rfl, ha, hb, hf, t2⟩; obtain ⟨pa, ca, rfl⟩ := ha.sl; obtain ⟨pb, cb, rfl⟩ := hb.sl; have S2 := Lib.hid (And.intro ha (And.intro hb (And.intro hf t2))); clear ha hb hf t2)
  have START := Lib.hid (sm_start (tx := tx) HS.out S2.out.2.2.2 S2.out.1 S2.out.2.1 (fun k hk => by have := S2.out.2.2.1 k hk; simpa using this))
  clear S2 CM
  generalize w2.alloc (.cells #[.int .i64 tx, .slice pa d.length ca, .slice pb hh.length cb] 49) = W at *
  generalize wr.heap.size = B at *
  generalize w2.heap.size = C at *
  obtain ⟨x0, x1, x2, x3, x4, x5, x6⟩ := START.out.box
  obtain ⟨m0, m1, m2⟩ := START.out.cells
  have PC := Lib.hid (p_close START.out.ps (by omega) en)
  have HLN := Lib.hid (psx_cl_len START.out.ps (by omega) en)
  have P2 := Lib.hid (fun W3 (p : PSx w0 W3 c x depth N (X4 B C (.slice pa d.length ca) (.slice pb hh.length cb)) (at2 (clK K) K en) K) => p_close3 en p (by omega))
  generalize at2 (clS K) (-10) en = cs at *
  generalize at2 (clH K) [] en = ch' at *
  generalize at2 (clW K) [] en = cw at *
  generalize at2 (clK K) K en = K2 at *
  go_wp2_with (first
    | (go_at_call 46; (with_reducible refine PC.out.mono ?_); rintro e w3 ⟨v1, v2, rfl, n1, n2, p3, kp3⟩; have S3 := Lib.hid (START.out.next p3 kp3); have N3 := Lib.hid (And.intro n1 (And.intro n2 (And.intro (psx_offx p3 n1) (psx_offx p3 n2)))); obtain ⟨y0, y1, y2, y3, y4, y5, y6⟩ := S3.out.box; clear n1 n2 p3 kp3)
    | (go_at_call 47; (with_reducible refine (P2.out _ S3.out.ps).mono ?_); rintro e w4 ⟨v3, v4, rfl, n3, n4, p4, kp4, t4⟩; have S4 := Lib.hid (S3.out.next p4 kp4); have N4 := Lib.hid (And.intro (show Nums _ _ _ from WRow.kept N3.out.1 t4 (fun k hk => N3.out.2.2.1 k hk)) (And.intro (show Nums _ _ _ from WRow.kept N3.out.2.1 t4 (fun k hk => N3.out.2.2.2 k hk)) (And.intro n3 n4))); clear n3 n4 p4 kp4 t4)
    | (go_at_call 19; (with_reducible refine (ints_eq _ _ _ _ HLN.out.2 (Nums.rd N5.out.1) (RdI.rz (Nums.rd N5.out.2))).mono ?_); rintro e w6 ⟨rfl, t6⟩; have S6 := Lib.hid (S4.out.past (TT T5.out t6)); obtain ⟨z0, z1, z2⟩ := S6.out.cells; clear t6)
    | (go_at_call 19; (with_reducible refine (ints_eq _ _ _ _ HLN.out.1 (Nums.rd N4.out.1) (RdI.rz (Nums.rd N4.out.2.2.1))).mono ?_); rintro e w5 ⟨rfl, t5⟩; have T5 := Lib.hid t5; have N5 := Lib.hid (And.intro (show Nums v2 cw w5 from WRow.past N4.out.2.1 t5) (show Nums v4 cw w5 from WRow.past N4.out.2.2.2 t5)); clear t5)
    | (go_at_call 41; (with_reducible refine (spoil_any _ tx _ _ _ _ (uk_byts S6.out.ra) (uk_nums S6.out.rb)).mono ?_); rintro e w9 ⟨⟨u, rfl⟩, t9⟩; have D9 := Lib.hid (S6.out.spoilt (M := N + 4) t9 (by omega)); clear t9))
  go_ret
  exact ⟨rfl, K2, D9.out⟩
end Go.Proofs.Ytcbphfpfdfgehaa

namespace Go.Proofs.Ytcbphfpfdfgehaa
open Go.ChangeShapes Go.WideShapes Go.ChangeAt Go.RowKit

set_option linter.unusedVariables false
set_option maxRecDepth 20000 in
set_option maxHeartbeats 4000000 in
theorem step_no {w0 wr : World} {c x depth N : Nat} {K : Nat → MS} (h : PSx w0 wr c x depth N NoBlock K K) (hN : N ≤ 90000) (kd : Int) (q1 : (kd == 1) = false) (q2 : (kd == 2) = false) (q3 : (kd == 3) = false) (q4 : (kd == 4) = false) (q5 : (kd == 5) = false) (en n k tx : Int) (d : List UInt8) (hh : List Int) (pd ph : Option Addr) (cd ch : Nat) (hq : RzB w0 (.slice pd d.length cd) d ∧ RzI w0 (.slice ph hh.length ch) hh) (hl : d.length ≤ 300 ∧ hh.length ≤ 80) :
    Calls Try.prog 12 #[.pointer (some ⟨c, 0, none⟩), .pointer (some ⟨x, 0, none⟩), .agg #[.int .i64 kd, .int .i64 en, .int .i64 n, .int .i64 k, .int .i64 tx, .slice pd d.length cd, .slice ph hh.length ch]] wr fun e w' => e = .returned (.bool true) ∧ ∃ K', PSx w0 w' c x depth (N + 4) NoBlock K' K' := by
  have HQ := Lib.hid hq
  have HS := Lib.hid h
  have HL := Lib.hid hl
  have hl1 : d.length ≤ 300 := hl.1
  have CM := Lib.hid (fun W (t : Turn NoBlock wr W) => message_any W tx d hh _ _ (HQ.out.1.past (TT h.turn t)) (HQ.out.2.past (TT h.turn t)) (by omega))
  clear h hq hl hl1
  go_enter Try.func12, Try.ntmps12
  go_upto_region 3 with (go_at_call 38; (with_reducible refine (CM.out _ ((Turn.refl _ _).alloc _)).mono ?_); rintro e w2 ⟨a, b, rfl, ha, hb, hf, t2⟩; obtain ⟨pa, ca, rfl⟩ := ha.sl; obtain ⟨pb, cb, rfl⟩ := hb.sl; have S2 := Lib.hid (And.intro ha (And.intro hb (And.intro hf t2))); clear ha hb hf t2)
  have START := Lib.hid (sm_start (tx := tx) HS.out S2.out.2.2.2 S2.out.1 S2.out.2.1 (fun k hk => by have := S2.out.2.2.1 k hk; simpa using this))
  clear S2 CM
  generalize w2.alloc (.cells #[.int .i64 tx, .slice pa d.length ca, .slice pb hh.length cb] 49) = W at *
  generalize wr.heap.size = B at *
  generalize w2.heap.size = C at *
  obtain ⟨x0, x1, x2, x3, x4, x5, x6⟩ := START.out.box
  obtain ⟨m0, m1, m2⟩ := START.out.cells
  go_wp2_with (go_at_call 41; (with_reducible refine (spoil_any _ tx _ _ _ _ (uk_byts START.out.ra) (uk_nums START.out.rb)).mono ?_); rintro e w9 ⟨⟨u, rfl⟩, t9⟩; have D9 := Lib.hid (START.out.spoilt (M := N + 4) t9 (by omega)); clear t9)
  go_ret
  exact ⟨rfl, K, D9.out⟩
end Go.Proofs.Ytcbphfpfdfgehaa

namespace Go.Proofs.Ytcbphfpfdfgehaa
open Go.RowKit

theorem step_any {w0 wr : World} {c x depth N : Nat} {K : Nat → MS} (h : PSx w0 wr c x depth N NoBlock K K) (hN : N ≤ 90000) (kd en n k tx : Int) (d : List UInt8) (hh : List Int) (pd ph : Option Addr) (cd ch : Nat) (hq : RzB w0 (.slice pd d.length cd) d ∧ RzI w0 (.slice ph hh.length ch) hh) (hl : d.length ≤ 300 ∧ hh.length ≤ 80) :
    Calls Try.prog 12 #[.pointer (some ⟨c, 0, none⟩), .pointer (some ⟨x, 0, none⟩), .agg #[.int .i64 kd, .int .i64 en, .int .i64 n, .int .i64 k, .int .i64 tx, .slice pd d.length cd, .slice ph hh.length ch]] wr fun e w' => e = .returned (.bool true) ∧ ∃ K', PSx w0 w' c x depth (N + 4) NoBlock K' K' := by
  by_cases q1 : kd = 1
  · subst q1; exact step1 h hN en n k tx d hh pd ph cd ch hq hl
  by_cases q2 : kd = 2
  · subst q2; exact step2 h hN en n k tx d hh pd ph cd ch hq hl
  by_cases q3 : kd = 3
  · subst q3; exact step3 h hN en n k tx d hh pd ph cd ch hq hl
  by_cases q4 : kd = 4
  · subst q4; exact step4 h hN en n k tx d hh pd ph cd ch hq hl
  by_cases q5 : kd = 5
  · subst q5; exact step5 h hN en n k tx d hh pd ph cd ch hq hl
  exact step_no h hN kd (beq_eq_false_iff_ne.2 q1) (beq_eq_false_iff_ne.2 q2) (beq_eq_false_iff_ne.2 q3) (beq_eq_false_iff_ne.2 q4) (beq_eq_false_iff_ne.2 q5) en n k tx d hh pd ph cd ch hq hl
end Go.Proofs.Ytcbphfpfdfgehaa
