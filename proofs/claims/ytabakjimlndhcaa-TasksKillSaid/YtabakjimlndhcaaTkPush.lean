/-
  One more number in a row; a row without its last; where a task's row has been looked through. No walk, no conditions.
-/
import Derived.Test.YtabakjimlndhcaaTkEnd
namespace Go.Proofs.Ytabakjimlndhcaa
open Go.ChangeShapes Go.WideShapes Go.ChangeAt Go.RowKit

theorem info_one {e size bytes : Nat} {z : Value} (h : (Try.prog.info? e).map (fun i => (i.zero, i.size, i.bytes)) = some (some z, size, bytes)) : ∃ i, Try.prog.info? e = some i ∧ i.zero = some z ∧ i.size = size ∧ i.bytes = bytes := by
  cases hi : Try.prog.info? e with
  | none => rw [hi] at h; simp at h
  | some i =>
    rw [hi] at h
    simp only [Option.map_some, Option.some.injEq, Prod.mk.injEq] at h
    exact ⟨i, rfl, h.1, h.2.1, h.2.2⟩
theorem push_any {w : World} {v : Value} {xs : List Int} (x : Int) (h : Nums v xs w) (hl : xs.length ≤ 10000000000000) :
    ∃ p cap W, (∀ ty, (Builtin.append_ #[53, 53] ty #[v, .slice (some ⟨w.heap.size, 0, none⟩) 1 1]).run Try.prog (w.alloc (.cells #[.int .i64 x] 3)) = .ok (.slice p (xs.length + 1) cap) W) ∧
      Nums (.slice p (xs.length + 1) cap) (xs ++ [x]) W ∧ Turn (Blk v) w W ∧ (∀ k, Blk (.slice p (xs.length + 1) cap) k → Blk v k ∨ w.heap.size ≤ k) := by
  obtain ⟨i, hi, hz, hs, hb⟩ := info_one infoI
  have tA : Turn NoBlock w (w.alloc (.cells #[.int .i64 x] 3)) := (Turn.refl _ w).alloc _
  have hrd : Rd (w.alloc (.cells #[.int .i64 x] 3)) 1 (.slice (some ⟨w.heap.size, 0, none⟩) 1 1) 1 (icells [x]) := rd_new w 3 1 #[.int .i64 x] rfl
  obtain ⟨v', W, hap, w9, t9, k9⟩ := WRow.append (WRow.past h tA) 53 53 i _ 8 intsT hi hz hs hb rfl (hrd.src 53 3 intsT (icells_one _)) (by unfold maxLen; omega) (by omega)
  obtain ⟨p, cap, rfl⟩ := w9.sl
  refine ⟨p, cap, W, hap, ?_, (tA.mono (fun _ h => h.elim)).trans t9 (fun k hk => .inl hk), fun k hk => ?_⟩
  · unfold Nums icells
    rw [List.length_append, List.length_singleton, List.map_append]
    exact w9
  · rcases k9 k hk with h1 | h1
    · exact .inl h1
    · have := tA.size; exact .inr (by omega)
/-- A row's beginning. -/
theorem Nums.hi {w : World} {g o n cap : Nat} {xs : List Int} (h : Nums (.slice (some ⟨g, o, none⟩) n cap) xs w) {m : Nat} (hm : m ≤ xs.length) : Nums (.slice (some ⟨g, o, none⟩) m cap) (xs.take m) w := by
  have hl : (xs.take m).length = m := by rw [List.length_take]; omega
  refine ⟨by rw [icells_len]; omega, ?_⟩
  rw [hl]
  rcases h.form with ⟨h0, _⟩ | ⟨g', o', cap', h1, h2, h3, h4, h5, h6⟩
  · cases h0
  · simp only [Value.slice.injEq, Option.some.injEq, Addr.mk.injEq, and_true] at h1
    obtain ⟨⟨rfl, rfl⟩, rfl, rfl⟩ := h1
    refine .inr ⟨g, o, cap, rfl, by omega, h3, h4, fun j hj => ?_, h6⟩
    rw [h5 j (by omega)]
    unfold icells
    rw [List.map_take, List.getElem?_take, if_pos (by omega)]
section
variable {w w' : World} {c n p q j i : Nat} {most code : Int} {T T' : Nat → Tk} {sv : Value} {B : Nat → Nat} {V : Nat → Value} {G G' : Nat → Nat}
/-- One more of those below p was found dead. -/
theorem KMem.look (h : KMem w c most n T sv B V G) (hp : p < n) (hg : (kidL T n p)[G p]? = some q) (hq : (T q).st = 2) :
    KMem (w.setCell ⟨B p, 7, none⟩ (.int .i64 ((G p : Int) + 1))) c most n T sv B V (updN G p (G p + 1)) ∧ Turn (KCore c n B) w (w.setCell ⟨B p, 7, none⟩ (.int .i64 ((G p : Int) + 1))) := by
  have t := (Turn.refl (KCore c n B) w).setCell (p := ⟨B p, 7, none⟩) (.inl (.inr ⟨p, hp, rfl⟩)) (.int .i64 ((G p : Int) + 1))
  have hcp : c ≠ B p := fun e => ((h.bt hp).unlike h.ct (by decide)) e.symm
  refine ⟨h.turned t (fun _ => rfl) (set_past (p := ⟨B p, 7, none⟩) h.head hcp _) (fun j hj => ?_) (fun j hj => ?_), t⟩
  · by_cases hjp : j = p
    · subst hjp
      rw [updN_same]
      refine (set_at (h.obj j hj) 7 _).trans ?_
      simp [tkc]
    · rw [updN_other _ _ hjp]
      exact set_past (p := ⟨B p, 7, none⟩) (h.obj j hj) (fun e => hjp (h.inj j p hj hp e)) _
  · by_cases hjp : j = p
    · subst hjp
      rw [updN_same]
      have hlt := (List.getElem?_eq_some_iff.1 hg).1
      refine ⟨by omega, fun i x hi hx => ?_⟩
      rcases (show i < G j ∨ i = G j by omega) with h1 | rfl
      · exact (h.gone j hj).2 i x h1 hx
      · rw [hg] at hx
        cases hx
        exact hq
    · rw [updN_other _ _ hjp]
      exact h.gone j hj
/-- All are found dead: none is alive. -/
theorem KMem.all (h : KMem w c most n T sv B V G) (hp : p < n) (hg : G p = (kidL T n p).length) : ∀ j, j < n → (T j).par = (p : Int) + 1 → (T j).st = 2 := by
  intro j hj he
  obtain ⟨i, hi⟩ := List.getElem?_of_mem (mem_kidL.2 ⟨hj, he⟩)
  exact (h.gone p hp).2 i j (by rw [hg]; exact (List.getElem?_eq_some_iff.1 hi).1) hi
/-- Where the tree stands while some wait to die. -/
structure DS (w w' : World) (c : Nat) (most : Int) (n : Nat) (sv : Value) (B : Nat → Nat) (V : Nat → Value) (told : Value) (pre : List Int) (T : Nat → Tk) (G : Nat → Nat) (W o : List Nat) (vW vT : Value) : Prop where
  mem : KMem w' c most n T sv B V G
  dok : DOK n T
  lt : ∀ q, q ∈ W → q < n
  rw : Nums vW (numL W.reverse) w'
  rt : Nums vT (pre ++ numL o) w'
  nw : ∀ k, Blk vW k → w.heap.size ≤ k
  nt : ∀ k, Blk vT k → Blk told k ∨ w.heap.size ≤ k
  apart : ∀ k, Blk vW k → ¬ Blk vT k
  ft : ∀ k, Blk told k → k < w.heap.size ∧ ¬ KFoot c n sv B V k
  foot : ∀ k, KFoot c n sv B V k → k < w.heap.size
  turn : Turn (fun k => KCore c n B k ∨ Blk told k) w w'
variable {told vW vT vW' vT' : Value} {pre : List Int} {W W' o : List Nat}
theorem DS.past {X : World} (h : DS w w' c most n sv B V told pre T G W o vW vT) (t : Turn NoBlock w' X) : DS w X c most n sv B V told pre T G W o vW vT :=
  ⟨h.mem.past t, h.dok, h.lt, h.rw.past t, h.rt.past t, h.nw, h.nt, h.apart, h.ft, h.foot, h.turn.trans t (fun _ h => h.elim)⟩
/-- The tree is another. -/
theorem DS.core {X : World} (h : DS w w' c most n sv B V told pre T G W o vW vT) (t : Turn (KCore c n B) w' X) (m : KMem X c most n T' sv B V G') (hd : DOK n T') : DS w X c most n sv B V told pre T' G' W o vW vT := by
  refine ⟨m, hd, h.lt, h.rw.kept t (fun k hk hc => ?_), h.rt.kept t (fun k hk hc => ?_), h.nw, h.nt, h.apart, h.ft, h.foot, h.turn.trans t (fun k hk => .inl (.inl hk))⟩
  · have := h.nw k hk
    have := h.foot k (core_foot hc)
    omega
  · rcases h.nt k hk with h1 | h1
    · exact (h.ft k h1).2 (core_foot hc)
    · have := h.foot k (core_foot hc)
      omega
/-- One more waits. -/
theorem DS.push (h : DS w w' c most n sv B V told pre T G W o vW vT) (hq : q < n) (hl : W.length ≤ 10000000000000) :
    ∃ p cap X, (∀ ty, (Builtin.append_ #[53, 53] ty #[vW, .slice (some ⟨w'.heap.size, 0, none⟩) 1 1]).run Try.prog (w'.alloc (.cells #[.int .i64 ((q : Int) + 1)] 3)) = .ok (.slice p (W.length + 1) cap) X) ∧ DS w X c most n sv B V told pre T G (q :: W) o (.slice p (W.length + 1) cap) vT := by
  obtain ⟨p, cap, X, hap, h1, t, hk⟩ := push_any ((q : Int) + 1) h.rw (by rw [numL_len, List.length_reverse]; exact hl)
  rw [numL_len, List.length_reverse] at hap h1 hk
  have hsz := h.turn.size
  refine ⟨p, cap, X, hap, h.mem.kept t (fun k hk1 hk2 => ?_), h.dok, fun x hx => ?_, ?_, h.rt.kept t (fun k hk1 hk2 => h.apart k hk2 hk1), fun k hk1 => ?_, h.nt, fun k hk1 hk2 => ?_, h.ft, h.foot, h.turn.trans t (fun k hk1 => .inr (h.nw k hk1))⟩
  · have := h.foot k hk1
    have := h.nw k hk2
    omega
  · rcases List.mem_cons.1 hx with rfl | hx
    · exact hq
    · exact h.lt x hx
  · rw [List.reverse_cons, numL_app]
    exact h1
  · rcases hk k hk1 with h2 | h2
    · exact h.nw k h2
    · omega
  · rcases hk k hk1 with h2 | h2
    · exact h.apart k h2 hk2
    · have := WRow.lt h.rt hk2
      omega
/-- One more is told. -/
theorem DS.tell (h : DS w w' c most n sv B V told pre T G W o vW vT) (q : Nat) (hl : pre.length + o.length ≤ 10000000000000) :
    ∃ p cap X, (∀ ty, (Builtin.append_ #[53, 53] ty #[vT, .slice (some ⟨w'.heap.size, 0, none⟩) 1 1]).run Try.prog (w'.alloc (.cells #[.int .i64 ((q : Int) + 1)] 3)) = .ok (.slice p (pre.length + o.length + 1) cap) X) ∧ DS w X c most n sv B V told pre T G W (o ++ [q]) vW (.slice p (pre.length + o.length + 1) cap) := by
  have e : (pre ++ numL o).length = pre.length + o.length := by rw [List.length_append, numL_len]
  obtain ⟨p, cap, X, hap, h1, t, hk⟩ := push_any ((q : Int) + 1) h.rt (by rw [e]; exact hl)
  rw [e] at hap h1 hk
  have hsz := h.turn.size
  refine ⟨p, cap, X, hap, h.mem.kept t (fun k hk1 hk2 => ?_), h.dok, h.lt, h.rw.kept t (fun k hk1 hk2 => h.apart k hk1 hk2), ?_, h.nw, fun k hk1 => ?_, fun k hk1 hk2 => ?_, h.ft, h.foot, h.turn.trans t (fun k hk1 => (h.nt k hk1).imp .inr id)⟩
  · rcases h.nt k hk2 with h2 | h2
    · exact (h.ft k h2).2 hk1
    · have := h.foot k hk1
      omega
  · rw [numL_app, ← List.append_assoc]
    exact h1
  · rcases hk k hk1 with h2 | h2
    · exact h.nt k h2
    · exact .inr (by omega)
  · rcases hk k hk2 with h2 | h2
    · exact h.apart k hk1 h2
    · have := WRow.lt h.rw hk1
      omega
/-- Where the last stands, and the row without it. -/
theorem DS.pop (h : DS w w' c most n sv B V told pre T G (p :: W) o vW vT) : ∃ g a cap, vW = .slice (some ⟨g, a, none⟩) (W.length + 1) cap ∧ W.length + 1 ≤ cap ∧ cap ≤ maxLen ∧ w'.cell? ⟨g, a + W.length, none⟩ = some (.int .i64 ((p : Int) + 1)) ∧
    DS w w' c most n sv B V told pre T G W o (.slice (some ⟨g, a, none⟩) W.length cap) vT := by
  have e : (numL (p :: W).reverse).length = W.length + 1 := by rw [numL_len]; simp
  obtain ⟨g, a, cap, h1, h2, h3, -, h5, -⟩ := WRow.shape h.rw (by omega)
  rw [e] at h1 h2 h5
  subst h1
  refine ⟨g, a, cap, rfl, h2, h3, ?_, h.mem, h.dok, fun x hx => h.lt x (List.mem_cons_of_mem _ hx), ?_, h.rt, ?_, h.nt, ?_, h.ft, h.foot, h.turn⟩
  · rw [h5 _ (by omega)]
    simp [icells, numL]
  · have := h.rw.hi (m := W.length) (by omega)
    rw [show (numL (p :: W).reverse).take W.length = numL W.reverse by
      rw [List.reverse_cons, numL_app, List.take_append_of_le_length (by rw [numL_len]; simp), List.take_of_length_le (by rw [numL_len]; simp)]] at this
    exact this
  · intro k hk
    exact h.nw k (by simpa [Blk, Value.ownBlock] using hk)
  · intro k hk
    exact h.apart k (by simpa [Blk, Value.ownBlock] using hk)
end
end Go.Proofs.Ytabakjimlndhcaa
