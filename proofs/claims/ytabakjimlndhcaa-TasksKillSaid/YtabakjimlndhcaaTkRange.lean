/-
  A range over a function whose iterator keeps a captured variable in a box, and stores into it between the rounds: what such an iterator owes, and what a loop over it comes to. No walk of the program, no conditions.
-/
import Derived.RangeFuncNested
import Derived.RangeFuncBox
import Derived.RangeFuncLeaves
import Derived.Shelf.Abstract
import Derived.Sort.LoopGhostIn
import Derived.Test.YtabakjimlndhcaaTkSpec
namespace Go.Proofs.Ytabakjimlndhcaa
open Go.RowKit Go.Shelf

theorem yield_any {m m' : Nat} {l : Nat} {args : Array Value} {W : World} {R : Ending → World → Prop} (h : YieldAt Fence.wide m Try.prog l args W R) : YieldAt Fence.wide m' Try.prog l args W R := by
  obtain ⟨fn, tmps, assign, body, hy, h1, h2⟩ := h
  exact ⟨fn, tmps, assign, body, hy, h1, fun c cs _ => h2 c cs (fun d hd => by cases hd)⟩

/-- What is no cells stays as it lay, from block B on. -/
structure KeepsAll (B : Nat) (W W' : World) : Prop where
  size : W.heap.size ≤ W'.heap.size
  same : ∀ k o, B ≤ k → W.heap[k]? = some o → o.isCells = false → W'.heap[k]? = some o
theorem KeepsAll.refl (B : Nat) (W : World) : KeepsAll B W W := ⟨Nat.le_refl _, fun _ _ _ h _ => h⟩
theorem KeepsAll.trans {B : Nat} {X Y Z : World} (h : KeepsAll B X Y) (k : KeepsAll B Y Z) : KeepsAll B X Z :=
  ⟨Nat.le_trans h.size k.size, fun i o h1 h2 h3 => k.same i o h1 (h.same i o h1 h2 h3) h3⟩
theorem KeepsAll.mono {B C : Nat} {X Y : World} (h : KeepsAll B X Y) (hc : B ≤ C) : KeepsAll C X Y := ⟨h.size, fun k o h1 h2 h3 => h.same k o (Nat.le_trans hc h1) h2 h3⟩
theorem KeepsAll.from {B : Nat} {X Y : World} (h : KeepsAll B X Y) : KeepsFrom B X Y := ⟨h.size, fun k o hk ho hc => h.same k o hk ho hc⟩
theorem KeepsAll.of_turn {B : Nat} {X Y : World} {F : Nat → Prop} (t : Turn F X Y) (hF : ∀ k, F k → ∃ cs e fr, X.heap[k]? = some (.cells cs e fr)) : KeepsAll B X Y :=
  ⟨t.size, fun k o h1 h2 h3 => (t.block k (Array.getElem?_eq_some_iff.1 h2).1 (fun hf => by
    obtain ⟨cs, e, fr, h4⟩ := hF k hf
    rw [h4] at h2
    cases h2
    cases h3)).trans h2⟩
theorem KeepsAll.at {B : Nat} {X Y : World} (h : KeepsAll B X Y) {k : Nat} {o : Obj} (hk : B ≤ k) (ho : X.heap[k]? = some o) (hs : o.isCells = false) : Y.heap[k]? = some o := h.same k o hk ho hs
/-- How a round's body may be left. -/
def post3 {A : Type} (Bb B : Nat) (I : List A → World → Prop) (Ix : Code → List A → World → Prop) (xs : List A) (W : World) : Exit → Act → World → Prop
  | .normal, _, W' => (KeepsAll B W W' ∧ W'.heap[Bb]? = W.heap[Bb]?) ∧ I xs W'
  | .ret, _, W' => (KeepsAll B W W' ∧ W'.heap[Bb]? = W.heap[Bb]?) ∧ Ix .ret xs W'
  | .exit id, _, W' => (KeepsAll B W W' ∧ W'.heap[Bb]? = W.heap[Bb]?) ∧ Ix (.exit id) xs W'
  | .goto t, _, W' => (KeepsAll B W W' ∧ W'.heap[Bb]? = W.heap[Bb]?) ∧ Ix (.goto t) xs W'
  | .panic _, _, _ => False
  | .outgrown, _, _ => False
/-- What an iterator owes: for every invariant that minds no change of what is no cells and was made since it was called, it tells what is next, as long as the rounds keep such things. -/
def GivesB (Bb : Nat) {A : Type} (gf : Nat) (lb : Array Value) (enc : A → Array Value) (ok : List A → A → Prop) (S Sp : List A → Prop) (R : List A → World → Prop) (R0 : World → Prop) : Prop :=
  ∀ (l : Nat) (J Jx : List A → World → Prop) (W : World), OwnFrom W.heap.size J → OwnFrom W.heap.size Jx → (∀ pre W1, J pre W1 → R pre W1) → (∀ pre W1 v, J pre W1 → J pre (W1.setCell ⟨Bb, 0, none⟩ v)) → Bb < W.heap.size → R0 W →
    (∀ pre x W1, J pre W1 → ok pre x → W.heap.size ≤ W1.heap.size → YieldAt Fence.wide 0 Try.prog l (enc x) W1 fun e W' => ((e = .returned (.bool true) ∧ J (pre ++ [x]) W') ∨ (e = .returned (.bool false) ∧ Jx (pre ++ [x]) W')) ∧ KeepsAll W.heap.size W1 W' ∧ W'.heap[Bb]? = W1.heap[Bb]?) →
    J [] W → Calls Try.prog gf (#[.func (.yield l) #[] #[]] ++ lb) W fun e W' => (∃ v, e = .returned v) ∧ ((∃ xs, S xs ∧ J xs W') ∨ (∃ pre, Sp pre ∧ Jx pre W'))

theorem range3 {Bb : Nat} {A : Type} {n : Nat} {g : Operand} {ps : Array Tmp} {assign body : Code} {Q : Exit → Act → World → Prop} {a : Act} {w : World} {gf : Nat} {lb : Array Value} (hg : a.eval g = .func (.func gf) #[] lb)
    (eg : ∀ args w, (callFunc gf args).run Try.prog w = .ok (.enter gf args) w) {enc : A → Array Value} {ok : List A → A → Prop} {S Sp : List A → Prop} {R : List A → World → Prop} {R0 : World → Prop} (hG : GivesB Bb gf lb enc ok S Sp R R0) (hBb : Bb < w.heap.size) (hR0 : ∀ W, W.heap[Bb]? = w.heap[Bb]? → R0 W) (hps : ∀ x, (enc x).size = ps.size)
    (I : List A → World → Prop) (Ix : Code → List A → World → Prop) (hI : OwnFrom w.heap.size I) (hIx : ∀ c, OwnFrom w.heap.size (Ix c)) (hR : ∀ pre W, I pre W → R pre W) (hIB : ∀ pre W v, I pre W → I pre (W.setCell ⟨Bb, 0, none⟩ v)) (h0 : I [] w) (Ax : A → Act → World → Prop) (hAx : ∀ x a', OwnFrom w.heap.size (fun (_ : Unit) W => Ax x a' W))
    (hassign : ∀ (l : Nat) (pre : List A) (x : A) (W : World) (K : Act → World → Prop), I pre W → ok pre x → w.heap.size ≤ W.heap.size → (∀ a' W', KeepsAll w.heap.size W W' → W'.heap[Bb]? = W.heap[Bb]? → I pre W' → Ax x a' W' → K a' W') →
      assign.wpIn (Fence.wide.inRound l) 0 Try.prog (Exit.then K (fun _ _ _ => False)) { tmps := (ps.zip (enc x)).foldl (fun t (p, v) => t.setIfInBounds p v) a.tmps, defers := [] } W)
    (hbody : ∀ (l : Nat) (pre : List A) (x : A) (a' : Act) (W : World), w.heap.size ≤ W.heap.size → I pre W → Ax x a' W → ok pre x → body.wpIn (Fence.wide.inRound l) 0 Try.prog (post3 Bb w.heap.size I Ix (pre ++ [x]) W) a' W)
    (hdone : ∀ (D : Nat) (xs : List A) (W : World), w.heap.size ≤ D → S xs → I xs W → W.heap[D]? = some (.deferred (some [])) → Q .normal { a with defers := { target := .collected D, args := #[] } :: a.defers } W)
    (hstop : ∀ (D : Nat) (c : Code) (pre : List A) (W : World), w.heap.size ≤ D → Sp pre → Ix c pre W → W.heap[D]? = some (.deferred (some [])) → c.wpIn Fence.wide n Try.prog Q { a with defers := { target := .collected D, args := #[] } :: a.defers } W) :
    (Code.rangeFunc g ps assign body).wpIn Fence.wide n Try.prog Q a w := by
  refine wpIn_rangeFunc fun fn hfn => ?_
  obtain ⟨B, hB⟩ : ∃ B, w.heap.size = B := ⟨_, rfl⟩
  obtain ⟨mk, hmk⟩ : ∃ mk : LoopState → Option Code → Loop, mk = fun st pe => { state := st, pending := pe, fn, tmps := a.tmps, params := ps, assign, body, defers := B } := ⟨_, rfl⟩
  have e0 := run_enterLoop_outer (P := Try.prog) (w := w) fn a.tmps ps assign body
  obtain ⟨W1, hW1⟩ : ∃ W1, (w.alloc (.deferred (some []))).alloc (.loop (mk .ready none)) = W1 := ⟨_, rfl⟩
  have hsz : W1.heap.size = B + 2 := by rw [← hW1]; simp [hB]
  have hrec : W1.heap[B + 1]? = some (.loop (mk .ready none)) := by
    have := World.alloc_heap_new (w.alloc (.deferred (some []))) (.loop (mk .ready none))
    rwa [World.size_alloc, hB, hW1] at this
  have hdef : W1.heap[B]? = some (.deferred (some [])) := by
    rw [← hW1, ← hB]
    exact (Below.heap_alloc _ _ _ (by simp)).trans (World.alloc_heap_new w _)
  have hI1 : I [] W1 := by rw [← hW1]; exact hI.alloc _ (hI.alloc _ h0)
  have e1 : (Instr.enterLoop fn a.tmps ps assign body Fence.wide.round).run Try.prog w = .ok (B + 1, [{ target := .collected B, args := #[] }]) W1 := by
    rw [← hW1, hmk, ← hB]; exact e0
  rw [hB] at hBb hI hIx hassign hbody hdone hstop hAx
  refine ⟨B + 1, [{ target := .collected B, args := #[] }], W1, { target := .fn (.func gf) lb, args := #[.func (.yield (B + 1)) #[] #[]] }, W1, gf, #[.func (.yield (B + 1)) #[] #[]] ++ lb, W1, e1, ?_, fun _ _ => trivial, ?_, fun h => by simp [Fence.wide] at h, ?_⟩
  · simp only [resolve, hg]; simp [go_sem]
  · simp [invoke, go_sem, eg]
  · -- what lies at or beyond W1's end
    have low : ∀ {X : World} {row : Option Nat}, (∀ r, row = some r → W1.heap.size ≤ r ∧ ∃ o : Obj, X.heap[r]? = some o ∧ o.isCells = false) → ∀ r, row = some r → B ≤ r ∧ ∃ o : Obj, X.heap[r]? = some o ∧ o.isCells = false :=
      fun h r e => ⟨by have := (h r e).1; omega, (h r e).2⟩
    have stays : ∀ {X Y : World} {row : Option Nat} {k : Nat} {o : Obj}, X.grownBy Y row → (∀ r, row = some r → W1.heap.size ≤ r ∧ ∃ o : Obj, X.heap[r]? = some o ∧ o.isCells = false) → k < B + 2 → X.heap[k]? = some o → Y.heap[k]? = some o :=
      fun {X Y row k o} hg hr hk ho => (hg.block k (Array.getElem?_eq_some_iff.1 ho).1 (fun e => by have := (hr k e.symm).1; omega)).trans ho
    refine callsIn_wide.2 ((hG (B + 1)
      (fun pre W => I pre W ∧ W.heap[B + 1]? = some (.loop (mk .ready none)) ∧ W.heap[B]? = some (.deferred (some [])))
      (fun pre W => ∃ c, Ix c pre W ∧ W.heap[B + 1]? = some (.loop (mk .done (some c))) ∧ W.heap[B]? = some (.deferred (some []))) W1
      (fun s X Y row hs hg' hr => ⟨hI s X Y row hs.1 hg' (low hr), stays hg' hr (by omega) hs.2.1, stays hg' hr (by omega) hs.2.2⟩)
      (fun s X Y row ⟨c, h1, h2, h3⟩ hg' hr => ⟨c, hIx c s X Y row h1 hg' (low hr), stays hg' hr (by omega) h2, stays hg' hr (by omega) h3⟩)
      (fun pre W h => hR pre W h.1) (fun pre W v h => ⟨hIB pre W v h.1, set_past (p := ⟨Bb, 0, none⟩) h.2.1 (by show B + 1 ≠ Bb; omega) v, set_past (p := ⟨Bb, 0, none⟩) h.2.2 (by show B ≠ Bb; omega) v⟩) (by omega) (hR0 _ (by rw [← hW1]; exact (Below.heap_alloc _ _ _ (by simp; omega)).trans (Below.heap_alloc _ _ _ (by omega)))) ?_ ⟨hI1, hrec, hdef⟩).mono ?_)
    · rintro pre x W ⟨hi, hl, hd⟩ hok hWs
      have hy := run_yield (P := Try.prog) (args := enc x) hl (by rw [hmk]; exact hps x)
      rw [hmk] at hy
      refine ⟨fn, _, assign, body, hy, roundIn_of_wpIn hfn (hassign _ pre x W _ hi hok (by omega) ?_)⟩
      clear hy
      intro a' X hkf hbb hi2 hax
      have hl2 := hkf.at (by omega) hl rfl
      have hd2 := hkf.at (Nat.le_refl _) hd rfl
      have hXs : B + 1 < X.heap.size := (Array.getElem?_eq_some_iff.1 hl2).1
      refine ⟨_, run_beginRound hl2 (by rw [hmk]), ?_⟩
      have hl3 : (X.putObj (B + 1) (.loop { mk .ready none with state := .busy })).heap[B + 1]? = some (.loop { mk .ready none with state := .busy }) := World.putObj_heap_same hXs
      have hd3 : (X.putObj (B + 1) (.loop { mk .ready none with state := .busy })).heap[B]? = some (.deferred (some [])) := (World.putObj_heap_other (by omega)).trans hd2
      refine wpIn_mono (hbody _ pre x a' _ (Nat.le_trans (show B ≤ X.heap.size by omega) (grownBy_putObj' X _ _).size) (hI.putObj _ hi2 (by omega) hl2 rfl) ((hAx x a').putObj (s := ()) _ hax (by omega) hl2 rfl) hok) ?_
      -- what was kept since the round began, seen from W1 on
      have kept : ∀ (Y : World) (o : Obj), (KeepsAll B (X.putObj (B + 1) (.loop { mk .ready none with state := .busy })) Y ∧ Y.heap[Bb]? = (X.putObj (B + 1) (.loop { mk .ready none with state := .busy })).heap[Bb]?) → KeepsAll W1.heap.size W (Y.putObj (B + 1) o) ∧ (Y.putObj (B + 1) o).heap[Bb]? = W.heap[Bb]? := fun Y o ⟨hk, hkb⟩ => by
        have h3 := (grownBy_putObj' X (B + 1) (.loop { mk .ready none with state := .busy })).size
        have h4 := (grownBy_putObj' Y (B + 1) o).size
        refine ⟨⟨?_, fun k ob hk1 hk2 hk3 => ?_⟩, ?_⟩
        · have h1 := hkf.size
          have h2 := hk.size
          omega
        · have h1 := hkf.same k ob (by omega) hk2 hk3
          exact (World.putObj_heap_other (by omega)).trans (hk.same k ob (by omega) ((World.putObj_heap_other (by omega)).trans h1) hk3)
        · exact ((World.putObj_heap_other (by omega)).trans hkb).trans ((World.putObj_heap_other (by omega)).trans hbb)
      have fin : ∀ (jump : Option Code) (Y : World), KeepsAll B (X.putObj (B + 1) (.loop { mk .ready none with state := .busy })) Y →
          (Instr.endRound (B + 1) jump).run Try.prog Y = .ok (.bool jump.isNone) (Y.putObj (B + 1) (.loop (mk (if jump.isNone then .ready else .done) jump))) ∧ Y.heap[B + 1]? = some (.loop { mk .ready none with state := .busy }) ∧
          (Y.putObj (B + 1) (.loop (mk (if jump.isNone then .ready else .done) jump))).heap[B + 1]? = some (.loop (mk (if jump.isNone then .ready else .done) jump)) ∧ (Y.putObj (B + 1) (.loop (mk (if jump.isNone then .ready else .done) jump))).heap[B]? = some (.deferred (some [])) := fun jump Y hk => by
        have h1 := hk.at (by omega) hl3 rfl
        have h2 := run_endRound (P := Try.prog) jump h1
        refine ⟨?_, h1, World.putObj_heap_same (Array.getElem?_eq_some_iff.1 h1).1, (World.putObj_heap_other (by omega)).trans (hk.at (Nat.le_refl _) hd3 rfl)⟩
        rw [h2, hmk]
      rintro e b Y hp
      cases e with
      | normal =>
        obtain ⟨hk, hi3⟩ := hp
        obtain ⟨hr, q1, q2, q3⟩ := fin none Y hk.1
        exact ⟨_, _, hr, .inl ⟨rfl, hI.putObj _ hi3 (by omega) q1 rfl, q2, q3⟩, kept Y _ hk⟩
      | ret =>
        obtain ⟨hk, hi3⟩ := hp
        obtain ⟨hr, q1, q2, q3⟩ := fin (some .ret) Y hk.1
        exact ⟨_, _, hr, .inr ⟨rfl, .ret, (hIx _).putObj _ hi3 (by omega) q1 rfl, q2, q3⟩, kept Y _ hk⟩
      | exit id =>
        obtain ⟨hk, hi3⟩ := hp
        obtain ⟨hr, q1, q2, q3⟩ := fin (some (.exit id)) Y hk.1
        exact ⟨_, _, hr, .inr ⟨rfl, .exit id, (hIx _).putObj _ hi3 (by omega) q1 rfl, q2, q3⟩, kept Y _ hk⟩
      | goto t =>
        obtain ⟨hk, hi3⟩ := hp
        obtain ⟨hr, q1, q2, q3⟩ := fin (some (.goto t)) Y hk.1
        exact ⟨_, _, hr, .inr ⟨rfl, .goto t, (hIx _).putObj _ hi3 (by omega) q1 rfl, q2, q3⟩, kept Y _ hk⟩
      | panic ch => exact hp.elim
      | outgrown => exact hp.elim
    · rintro e W2 ⟨⟨v, rfl⟩, (⟨xs, hS, hi, hl, hd⟩ | ⟨pre, hSp, c, hi, hl, hd⟩)⟩
      · refine ⟨none, _, ?_, hdone B xs (W2.putObj (B + 1) (.loop (mk .exhausted none))) (Nat.le_refl _) hS (hI.putObj _ hi (by omega) hl rfl) ((World.putObj_heap_other (by omega)).trans hd)⟩
        have := run_endLoop (P := Try.prog) hl (by rw [hmk]; simp)
        rw [this, hmk]
      · refine ⟨some c, _, ?_, hstop B c pre (W2.putObj (B + 1) (.loop (mk .exhausted (some c)))) (Nat.le_refl _) hSp ((hIx c).putObj _ hi (by omega) hl rfl) ((World.putObj_heap_other (by omega)).trans hd)⟩
        have := run_endLoop (P := Try.prog) hl (by rw [hmk]; simp)
        rw [this, hmk]
end Go.Proofs.Ytabakjimlndhcaa
