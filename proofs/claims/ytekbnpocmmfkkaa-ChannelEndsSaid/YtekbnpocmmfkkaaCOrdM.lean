/-
  ChannelOrder: its plain data, and a round's state. No conditions.
-/
import Derived.Test.YtekbnpocmmfkkaaCViewM
namespace Go.Proofs.Ytekbnpocmmfkkaa
open Go.RowKit

theorem infoR : (Try.prog.info? 38).map (fun i => (i.zero, i.size, i.bytes)) = some (some (.agg #[.int .i64 0, .slice none 0 0, .slice none 0 0]), 3, 56) := by kernel_rfl
theorem wrow_one (w : World) (e size : Nat) (cs : Array Value) (hs : cs.size = size) : WRow (w.alloc (.cells cs e)) e size (.slice (some ⟨w.heap.size, 0, none⟩) 1 1) 1 cs.toList :=
  ⟨by rw [Array.length_toList, hs, Nat.one_mul], .inr ⟨_, 0, 1, rfl, Nat.le_refl _, by unfold maxLen; omega, ⟨_, heap_alloc_new w _⟩, (fun j hj => by rw [Nat.zero_add, World.cell?_alloc_new]; simp), (fun j hj => by
    rw [Nat.zero_add, World.cell?_alloc_new]
    have : j < cs.size := by omega
    simp [this])⟩⟩
theorem Kp.heap {X : Nat → Prop} {w w' : World} (h : Kp X w w') {B : Nat} {ob : Obj} (hb : w.heap[B]? = some ob) (hX : X B) : w'.heap[B]? = some ob := by
  obtain ⟨F, t, hF⟩ := h
  exact t.heap hb (hF B hX)
def qOK (w : World) (q : QM) : Prop := QRd w q ∧ q.m.d.length ≤ 300 ∧ q.m.h.length ≤ 64
/-- Both ends open; at 0 the call's own message, at 1 the queue q; the caller waits, or not. -/
def KO (x : Int) (q : List Msg) (called : Bool) : Nat → MS := fun i => if i = 0 then ⟨true, [⟨x, [], []⟩], []⟩ else if i = 1 then ⟨true, q, if called then [] else [⟨5, x⟩]⟩ else ⟨true, [], []⟩
structure LO (w0 w : World) (c : Nat) (x : Int) (want : List QM) (called : Bool) (v : Value) : Prop where
  st : ∃ N, N ≤ 2 + want.length ∧ CSt w0 w c 1024 N (KO x (want.map (·.m)) called) (Blk v)
  row : WRow w 38 3 v want.length (qcells want)
  mine : ∀ k, Blk v k → w0.heap.size ≤ k
  ok : ∀ q ∈ want, qOK w0 q
theorem LO.turn {w0 w : World} {c : Nat} {x : Int} {want : List QM} {called : Bool} {v : Value} (h : LO w0 w c x want called v) : Turn NoBlock w0 w := by
  obtain ⟨N, _, hcs⟩ := h.st
  exact hcs.turn
theorem ord_call {w0 w : World} {c : Nat} (h : CSt w0 w c 1024 0 (fun _ => ⟨true, [], []⟩) NoBlock) (x : Int) (hx : x ≠ 0) :
    Calls Try.prog 23 #[.pointer (some ⟨c, 0, none⟩), .int .i64 1, .int .i64 5, .agg #[.int .i64 x, .slice none 0 0, .slice none 0 0]] w fun e w' => e = .returned (.int .i64 0) ∧ LO w0 w' c x [] false (.slice none 0 0) := by
  refine (h.call1 (by omega) rfl rfl 5 (by omega) ⟨x, [], []⟩ ⟨by simp, by simp⟩ hx (fun t ht => by simp at ht) (fun t ht => by simp at ht) (fun t ht => by simp at ht) (by simp) _ _ (rdb_nil _) (rdi_nil _)).mono (fun e w' h => ⟨h.1, ⟨2, by simp, ?_⟩, wrow_nil _ _ _, fun k hk => (blk_nil k hk).elim, fun q hq => by simp at hq⟩)
  have e1 : updN (updN (fun _ => (⟨true, [], []⟩ : MS)) 0 (msAdd ⟨true, [], []⟩ ⟨x, [], []⟩)) 1 ⟨true, [], [] ++ [⟨5, x⟩]⟩ = KO x [] false := by
    funext j
    unfold updN KO msAdd
    by_cases j0 : j = 0
    · simp [j0]
    · by_cases j1 : j = 1
      · simp [j1]
      · simp [j0, j1]
  have h2 := h.2.1
  rw [e1] at h2
  exact h2.fewer (fun k hk => (blk_nil k hk).elim)
/-- Behind the box of a message and its copy. -/
def Xs (v : Value) (B : Nat) (a b : Value) (k : Nat) : Prop := Blk v k ∨ k = B ∨ Blk a k ∨ Blk b k
theorem ord_msg {w0 w w2 : World} {c : Nat} {x : Int} {want : List QM} {called : Bool} {v : Value} (h : LO w0 w c x want called v) {B : Nat} (hB : w.heap.size ≤ B) (hB2 : B < w2.heap.size) (t : Turn NoBlock w w2) {a b : Value} {d : List UInt8} {hh : List Int} (ha : Byts a d w2) (hb : Nums b hh w2) (hf : ∀ k, Blk a k ∨ Blk b k → w.heap.size ≤ k) :
    ∃ N, N ≤ 2 + want.length ∧ CSt w0 w2 c 1024 N (KO x (want.map (·.m)) called) (Xs v B a b) := by
  obtain ⟨N, hN, hcs⟩ := h.st
  refine ⟨N, hN, hcs.more (TU t) (fun k hk => ?_) h.mine⟩
  rcases hk with hk | rfl | hk | hk
  · exact .inl hk
  · exact .inr ⟨hB, hB2⟩
  · exact .inr ⟨hf k (.inl hk), WRow.lt ha hk⟩
  · exact .inr ⟨hf k (.inr hk), WRow.lt hb hk⟩
theorem ord_put {w0 w : World} {c N : Nat} {x : Int} {q : List Msg} {called : Bool} {X : Nat → Prop} (h : CSt w0 w c 1024 N (KO x q called) X) (hN : N ≤ 1000) (hq : q.length < 1024) (m : Msg) (hf : m.fits) (hx : called = true ∨ m.tx ≠ x) (a b : Value) (ha : Byts a m.d w) (hb : Nums b m.h w) :
    Calls Try.prog 21 #[.pointer (some ⟨c, 0, none⟩), .int .i64 0, .agg #[.int .i64 m.tx, a, b]] w fun e w' => e = .returned (.tuple #[.int .i64 (-1), .int .i64 0]) ∧ CSt w0 w' c 1024 (N + 1) (KO x (q ++ [m]) called) X ∧ Kp X w w' := by
  refine (h.put0 (by omega) rfl rfl m hf (fun t ht => ?_) hq a b ha.rd hb.rd).mono (fun e w' h => ⟨h.1, ?_, h.2.2⟩)
  · simp only [KO] at ht
    cases called with
    | true => simp at ht
    | false =>
      simp at ht
      subst ht
      rcases hx with hx | hx
      · cases hx
      · exact fun e => hx e.symm
  · have e1 : updN (KO x q called) 1 (msAdd (KO x q called 1) m) = KO x (q ++ [m]) called := by
      funext j
      unfold updN KO msAdd
      by_cases j0 : j = 0
      · simp [j0]
      · by_cases j1 : j = 1
        · simp [j1]
        · simp [j0, j1]
    rw [← e1]
    exact h.2.1
theorem ord_wake {w0 w : World} {c N : Nat} {x : Int} {q : List Msg} {X : Nat → Prop} (h : CSt w0 w c 1024 N (KO x q false) X) (hN : N ≤ 1000) (m : Msg) (hf : m.fits) (hx : m.tx = x) (a b : Value) (ha : Byts a m.d w) (hb : Nums b m.h w) (hX : ∀ j, (Blk a j ∨ Blk b j) → X j) :
    Calls Try.prog 21 #[.pointer (some ⟨c, 0, none⟩), .int .i64 0, .agg #[.int .i64 m.tx, a, b]] w fun e w' => e = .returned (.tuple #[.int .i64 5, .int .i64 0]) ∧ CSt w0 w' c 1024 (N + 1) (KO x (m :: q) true) X ∧ Kp X w w' := by
  refine (h.wake0 (by omega) rfl rfl m hf 0 ⟨5, x⟩ ⟨by simp, fun j t hj => by omega, fun t ht => ?_⟩ rfl a b ha.rd hb.rd hX).mono (fun e w' h => ⟨h.1, ?_, h.2.2⟩)
  · simp [KO] at ht
    subst ht
    simpa using hx.symm
  · have e1 : updN (KO x q false) 1 (msAns (KO x q false 1) 0 m) = KO x (m :: q) true := by
      funext j
      unfold updN KO msAns
      by_cases j0 : j = 0
      · simp [j0]
      · by_cases j1 : j = 1
        · simp [j1]
        · simp [j0, j1]
    rw [← e1]
    exact h.2.1
end Go.Proofs.Ytekbnpocmmfkkaa
