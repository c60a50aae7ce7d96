/-
  ChannelKeeps' state: all handles that wait are unlike, and as many as came in and went not out. No conditions.
-/
import Derived.Test.YtpfelgbedeiebaaCKeepM
import Derived.Test.YtpfelgbedeiebaaCMsg
namespace Go.Proofs.Ytpfelgbedeiebaa
open Go.RowKit

structure KS (w0 w : World) (c d i I O nx : Nat) : Prop where
  ex : ∃ N K, N ≤ 2 * i ∧ CSt w0 w c d N K NoBlock ∧ (HL K).Nodup ∧ (∀ x ∈ HL K, 0 ≤ x ∧ x < (nx : Int)) ∧ I = O + (HL K).length
  nx : nx ≤ 80 * i
  le : I ≤ 80 * i
theorem KS.turn {w0 w : World} {c d i I O nx : Nat} (h : KS w0 w c d i I O nx) : Turn NoBlock w0 w := by
  obtain ⟨N, K, _, h, _⟩ := h.ex
  exact h.turn
/-- The handles of the law's own message: some are numbered by now. -/
def rng (nx j : Nat) (hh : List Int) : List Int := (List.range j).map (fun i => ((nx + i : Nat) : Int)) ++ hh.drop j
theorem rng_len {nx j : Nat} {hh : List Int} (h : j ≤ hh.length) : (rng nx j hh).length = hh.length := by
  unfold rng
  rw [List.length_append, List.length_map, List.length_range, List.length_drop]
  omega
theorem rng_zero (nx : Nat) (hh : List Int) : rng nx 0 hh = hh := by simp [rng]
theorem rng_all (nx : Nat) (hh : List Int) : rng nx hh.length hh = (List.range hh.length).map (fun i => ((nx + i : Nat) : Int)) := by simp [rng]
theorem rng_set {nx j : Nat} {hh : List Int} (h : j < hh.length) : (rng nx j hh).set j ((nx + j : Nat) : Int) = rng nx (j + 1) hh := by
  unfold rng
  have hl : ((List.range j).map (fun i => ((nx + i : Nat) : Int))).length = j := by simp
  rw [List.set_append_right _ _ (by rw [hl]; omega), hl, Nat.sub_self, List.range_succ, List.map_append, List.append_assoc]
  congr 1
  rw [List.drop_eq_getElem_cons h, List.set_cons_zero]
  rfl
theorem wrow_set {w : World} {e g o n c : Nat} {xs : List Value} (h : WRow w e 1 (.slice (some ⟨g, o, none⟩) n c) n xs) {j : Nat} (hj : j < n) (v : Value) : WRow (w.setCell ⟨g, o + j, none⟩ v) e 1 (.slice (some ⟨g, o, none⟩) n c) n (xs.set j v) := by
  obtain ⟨g', o', c', he, h1, h2, h3, h4, h5⟩ := h.shape (by omega)
  simp only [Value.slice.injEq, Option.some.injEq, Addr.mk.injEq, and_true, true_and] at he
  obtain ⟨⟨rfl, rfl⟩, rfl⟩ := he
  have hs : ∀ i, i < c → (w.cell? ⟨g, o + i, none⟩).isSome = true := fun i hi => h5 i (by omega)
  refine ⟨by rw [List.length_set]; exact h.len, .inr ⟨g, o, c, rfl, h1, h2, h3.set _ _ _, fun i hi => ?_, fun i hi => ?_⟩⟩
  · by_cases hij : i = j
    · subst hij
      rw [World.cell?_setCell_same' _ _ _ (hs i (by omega)), List.getElem?_set_self (by have := h.len; omega)]
    · rw [World.cell?_setCell_other w ⟨g, o + j, none⟩ ⟨g, o + i, none⟩ v (fun e => by simp at e <;> omega), List.getElem?_set_ne (fun e => hij e.symm)]
      exact h4 i hi
  · by_cases hij : i = j
    · subst hij
      rw [World.cell?_setCell_same' _ _ _ (hs i (by omega))]; rfl
    · rw [World.cell?_setCell_other w ⟨g, o + j, none⟩ ⟨g, o + i, none⟩ v (fun e => by simp at e <;> omega)]
      exact h5 i hi
def X4 (B C : Nat) (a b : Value) (k : Nat) : Prop := k = B ∨ k = C ∨ Blk a k ∨ Blk b k
/-- Within a round: the boxes of the call and of its message, the message's lists, some handles numbered. -/
structure M2 (w0 w : World) (c dp N : Nat) (K : Nat → MS) (B C : Nat) (ob : Array Value) (tx : Int) (a b : Value) (d : List UInt8) (hh : List Int) : Prop where
  st : CSt w0 w c dp N K (X4 B C a b)
  b10 : w.heap[B]? = some (.cells ob 72 (0, 0))
  b11 : w.heap[C]? = some (.cells #[.int .i64 tx, a, b] 77 (0, 0))
  ra : Byts a d w
  rb : Nums b hh w
  mine : ∀ k, X4 B C a b k → w0.heap.size ≤ k
theorem m2_start {w0 wr w2 : World} {c dp N : Nat} {K : Nat → MS} {ob : Array Value} {tx : Int} {a b : Value} {d : List UInt8} {hh : List Int} (h : CSt w0 wr c dp N K NoBlock) (t : Turn NoBlock (wr.alloc (.cells ob 72)) w2) (ha : Byts a d w2) (hb : Nums b hh w2) (hf : ∀ k, Blk a k ∨ Blk b k → wr.heap.size + 1 ≤ k) : M2 w0 (w2.alloc (.cells #[.int .i64 tx, a, b] 77)) c dp N K wr.heap.size w2.heap.size ob tx a b d hh := by
  have hs := t.size
  simp at hs
  have t2 : Turn NoBlock w2 (w2.alloc (.cells #[.int .i64 tx, a, b] 77)) := (Turn.refl _ _).alloc _
  have t3 : Turn NoBlock wr w2 := TT ((Turn.refl _ _).alloc _) t
  have hlt : ∀ k, X4 wr.heap.size w2.heap.size a b k → wr.heap.size ≤ k ∧ k < (w2.alloc (.cells #[.int .i64 tx, a, b] 77)).heap.size := fun k hk => by
    rcases hk with rfl | rfl | hk | hk
    · simp; omega
    · simp; omega
    · have := WRow.lt ha hk; have := hf k (.inl hk); simp; omega
    · have := WRow.lt hb hk; have := hf k (.inr hk); simp; omega
  refine ⟨h.more (TT t3 t2) (fun k hk => .inr (hlt k hk)) (fun k hk => hk.elim), t2.heap (t.heap (heap_alloc_new wr _) (fun h => h)) (fun h => h), heap_alloc_new w2 _, ha.past t2, hb.past t2, fun k hk => ?_⟩
  have := (hlt k hk).1
  have := h.turn.size
  omega
theorem M2.ne {w0 w : World} {c dp N B C : Nat} {K : Nat → MS} {ob : Array Value} {tx : Int} {a b : Value} {d : List UInt8} {hh : List Int} (h : M2 w0 w c dp N K B C ob tx a b d hh) : ¬ Blk b B ∧ ¬ Blk b C ∧ (∀ k, Blk a k → ¬ Blk b k) :=
  ⟨blk_typed h.rb ⟨_, h.b10⟩ (by decide), blk_typed h.rb ⟨_, h.b11⟩ (by decide), blks_typed h.ra h.rb (by decide)⟩
theorem m2_set {w0 w : World} {c dp N B C : Nat} {K : Nat → MS} {ob : Array Value} {tx : Int} {a : Value} {g o cb nx j : Nat} {d : List UInt8} {hh : List Int} (h : M2 w0 w c dp N K B C ob tx a (.slice (some ⟨g, o, none⟩) hh.length cb) d (rng nx j hh)) (hj : j < hh.length) :
    M2 w0 (w.setCell ⟨g, o + j, none⟩ (.int .i64 ((nx + j : Nat) : Int))) c dp N K B C ob tx a (.slice (some ⟨g, o, none⟩) hh.length cb) d (rng nx (j + 1) hh) := by
  have t : Turn (Blk (.slice (some ⟨g, o, none⟩) hh.length cb)) w (w.setCell ⟨g, o + j, none⟩ (.int .i64 ((nx + j : Nat) : Int))) := (Turn.refl _ w).setCell (p := ⟨g, o + j, none⟩) (.inl (by simp [Blk, Value.ownBlock])) _
  obtain ⟨n1, n2, n3⟩ := h.ne
  refine ⟨h.st.more (t.mono (fun k hk => .inl (.inr (.inr (.inr hk))))) (fun k hk => .inl hk) h.mine, t.heap h.b10 n1, t.heap h.b11 n2, h.ra.kept t n3, ?_, h.mine⟩
  have hr := h.rb
  unfold Nums at hr ⊢
  rw [rng_len (by omega)] at hr ⊢
  have := wrow_set hr hj (.int .i64 ((nx + j : Nat) : Int))
  rw [show (icells (rng nx j hh)).set j (.int .i64 ((nx + j : Nat) : Int)) = icells (rng nx (j + 1) hh) by unfold icells; rw [← List.map_set, rng_set hj]] at this
  exact this
theorem hl_new {K : Nat → MS} {nx n : Nat} (h1 : (HL K).Nodup) (h2 : ∀ x ∈ HL K, 0 ≤ x ∧ x < (nx : Int)) : (HL K ++ (List.range n).map (fun i => ((nx + i : Nat) : Int))).Nodup ∧ ∀ x ∈ HL K ++ (List.range n).map (fun i => ((nx + i : Nat) : Int)), 0 ≤ x ∧ x < ((nx + n : Nat) : Int) := by
  constructor
  · rw [List.nodup_append]
    refine ⟨h1, ?_, fun a ha b hb e => ?_⟩
    · exact List.Pairwise.map _ (fun a b h e => h (by omega)) List.nodup_range
    · obtain ⟨i, hi, rfl⟩ := List.mem_map.1 hb
      have := (h2 a ha).2
      omega
  · intro x hx
    rcases List.mem_append.1 hx with h | h
    · have := h2 x h; omega
    · obtain ⟨i, hi, rfl⟩ := List.mem_map.1 h
      have := List.mem_range.1 hi
      omega
section
variable {w0 w : World} {c d i I O nx N n : Nat} {K K' : Nat → MS} {X : Nat → Prop}
theorem ks_same (h : CSt w0 w c d N K X) (hN : N ≤ 2 * (i + 1)) (h1 : (HL K).Nodup) (h2 : ∀ x ∈ HL K, 0 ≤ x ∧ x < (nx : Int)) (h3 : I = O + (HL K).length) (h4 : nx ≤ 80 * i) (h5 : I ≤ 80 * i) (hn : n ≤ 80) : KS w0 w c d (i + 1) I O (nx + n) :=
  ⟨⟨N, K, hN, h.fewer (fun k hk => hk.elim), h1, fun x hx => by have := h2 x hx; omega, h3⟩, by omega, by omega⟩
theorem ks_more (h : CSt w0 w c d N K' X) (hN : N ≤ 2 * (i + 1)) (hp : (HL K').Perm (HL K ++ (List.range n).map (fun i => ((nx + i : Nat) : Int)))) (h1 : (HL K).Nodup) (h2 : ∀ x ∈ HL K, 0 ≤ x ∧ x < (nx : Int)) (h3 : I = O + (HL K).length) (h4 : nx ≤ 80 * i) (h5 : I ≤ 80 * i) (hn : n ≤ 80) : KS w0 w c d (i + 1) (I + n) O (nx + n) := by
  obtain ⟨g1, g2⟩ := hl_new (n := n) h1 h2
  refine ⟨⟨N, K', hN, h.fewer (fun k hk => hk.elim), hp.nodup_iff.2 g1, fun x hx => g2 x (hp.mem_iff.1 hx), ?_⟩, by omega, by omega⟩
  rw [hp.length_eq, List.length_append, List.length_map, List.length_range]
  omega
theorem ks_less {l : List Int} (h : CSt w0 w c d N K' X) (hN : N ≤ 2 * (i + 1)) (hp : (HL K).Perm (l ++ HL K')) (h1 : (HL K).Nodup) (h2 : ∀ x ∈ HL K, 0 ≤ x ∧ x < (nx : Int)) (h3 : I = O + (HL K).length) (h4 : nx ≤ 80 * i) (h5 : I ≤ 80 * i) (hn : n ≤ 80) : KS w0 w c d (i + 1) I (O + l.length) (nx + n) := by
  have g1 := hp.nodup_iff.1 h1
  rw [List.nodup_append] at g1
  refine ⟨⟨N, K', hN, h.fewer (fun k hk => hk.elim), g1.2.1, fun x hx => ?_, ?_⟩, by omega, by omega⟩
  · have := h2 x (hp.mem_iff.2 (List.mem_append_right _ hx)); omega
  · have := hp.length_eq
    rw [List.length_append] at this
    omega
end
end Go.Proofs.Ytpfelgbedeiebaa
