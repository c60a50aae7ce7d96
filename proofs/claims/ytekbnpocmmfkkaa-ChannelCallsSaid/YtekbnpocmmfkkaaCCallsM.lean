/-
  ChannelCalls: its plain data, and a round's state. No conditions.
-/
import Derived.Test.YtekbnpocmmfkkaaCAwake
namespace Go.Proofs.Ytekbnpocmmfkkaa
open Go.RowKit

/-- Who waits behind i calls. -/
structure WOK (zs : List Int) (i : Nat) (ws : List Wt) : Prop where
  each : ∀ t ∈ ws, t.tx ≠ 0 ∧ ∃ j, j < i ∧ t.who = (j : Int) ∧ zs[j]? = some t.tx
  txs : ws.Pairwise (fun a b => a.tx ≠ b.tx)
  whos : ws.Pairwise (fun a b => a.who < b.who)
  len : ws.length ≤ i
theorem WOK.zero (zs : List Int) : WOK zs 0 [] := ⟨fun t ht => by simp at ht, List.Pairwise.nil, List.Pairwise.nil, by simp⟩
theorem WOK.skip {zs : List Int} {i : Nat} {ws : List Wt} (h : WOK zs i ws) : WOK zs (i + 1) ws :=
  ⟨fun t ht => by obtain ⟨h0, j, h1, h2⟩ := h.each t ht; exact ⟨h0, j, by omega, h2⟩, h.txs, h.whos, by have := h.len; omega⟩
theorem WOK.add {zs : List Int} {i : Nat} {ws : List Wt} (h : WOK zs i ws) {x : Int} (hx : zs[i]? = some x) (h0 : x ≠ 0) (hn : ∀ t ∈ ws, t.tx ≠ x) : WOK zs (i + 1) (ws ++ [⟨i, x⟩]) := by
  refine ⟨fun t ht => ?_, ?_, ?_, by rw [List.length_append]; have := h.len; simp; omega⟩
  · rcases List.mem_append.1 ht with h1 | h1
    · exact h.skip.each t h1
    · simp at h1
      subst h1
      exact ⟨h0, i, by omega, rfl, hx⟩
  · rw [List.pairwise_append]
    refine ⟨h.txs, by simp, fun a ha b hb => ?_⟩
    simp at hb
    subst hb
    exact hn a ha
  · rw [List.pairwise_append]
    refine ⟨h.whos, by simp, fun a ha b hb => ?_⟩
    simp at hb
    subst hb
    obtain ⟨-, j, h1, h2, -⟩ := h.each a ha
    dsimp only
    omega
def againL (x : Int) (l : List Wt) : Bool := (x == 0) || l.any (fun t => t.tx == x)
theorem again_nil (x : Int) (ws : List Wt) : againL x (ws.take 0) = (x == 0) := by simp [againL]
theorem again_step (x : Int) (ws : List Wt) (m : Nat) (t : Wt) (ht : ws[m]? = some t) : againL x (ws.take (m + 1)) = (againL x (ws.take m) || t.tx == x) := by
  obtain ⟨h1, h2⟩ := List.getElem?_eq_some_iff.1 ht
  unfold againL
  rw [List.take_succ_eq_append_getElem h1, List.any_append, h2]
  simp [Bool.or_assoc]
def wantL (ans : Int) (l : List Wt) : Int := l.foldl (fun w t => if t.tx = ans then t.who else w) (-1)
theorem want_step (ans : Int) (ws : List Wt) (m : Nat) (t : Wt) (ht : ws[m]? = some t) : wantL ans (ws.take (m + 1)) = if t.tx = ans then t.who else wantL ans (ws.take m) := by
  obtain ⟨h1, h2⟩ := List.getElem?_eq_some_iff.1 ht
  unfold wantL
  rw [List.take_succ_eq_append_getElem h1, List.foldl_append, h2]
  rfl
theorem want_miss (ans : Int) (l : List Wt) (a : Int) (h : ∀ t ∈ l, t.tx ≠ ans) : l.foldl (fun w t => if t.tx = ans then t.who else w) a = a := by
  induction l generalizing a with
  | nil => rfl
  | cons t l ih =>
    rw [List.foldl_cons, if_neg (h t (by simp))]
    exact ih a (fun u hu => h u (by simp [hu]))
/-- The one who is answered. -/
structure HitAt (ans : Int) (ws : List Wt) (k : Nat) (t : Wt) : Prop where
  at' : ws[k]? = some t
  lt : k < ws.length
  tx : t.tx = ans
  byTx : FirstAt (fun t => t.tx == ans) ws k
  byWho : FirstAt (fun u => u.who == t.who) ws k
  rest : ∀ u ∈ ws.eraseIdx k, u.tx ≠ ans
  want : wantL ans ws = t.who
  pos : 0 ≤ t.who
theorem hit_ex {zs : List Int} {i : Nat} {ws : List Wt} (h : WOK zs i ws) (ans : Int) (hx : ∃ t ∈ ws, t.tx = ans) : ∃ k t, HitAt ans ws k t := by
  obtain ⟨t, hm, ht⟩ := hx
  obtain ⟨_, j, -, hj, -⟩ := h.each t hm
  obtain ⟨s, u, rfl⟩ := List.append_of_mem hm
  have h1 := List.pairwise_append.1 h.txs
  have h2 := List.pairwise_append.1 h.whos
  have h3 := List.pairwise_cons.1 h1.2.1
  refine ⟨s.length, t, ?_, by simp, ht, ⟨by simp, fun j' t' hj' ht' => ?_, fun t' ht' => ?_⟩, ⟨by simp, fun j' t' hj' ht' => ?_, fun t' ht' => ?_⟩, fun v hv => ?_, ?_, by omega⟩
  · simp
  · rw [List.getElem?_append_left hj'] at ht'
    have := h1.2.2 t' (List.mem_of_getElem? ht') t (by simp)
    rw [ht] at this
    simpa using this
  · simp at ht'
    subst ht'
    simpa using ht
  · rw [List.getElem?_append_left hj'] at ht'
    have := h2.2.2 t' (List.mem_of_getElem? ht') t (by simp)
    simp
    omega
  · simp at ht'
    subst ht'
    simp
  · rw [List.eraseIdx_append_of_length_le (Nat.le_refl _)] at hv
    simp at hv
    rcases hv with hv | hv
    · have := h1.2.2 v hv t (by simp); rw [ht] at this; exact this
    · have := h3.1 v hv; rw [ht] at this; exact fun e => this e.symm
  · unfold wantL
    rw [List.foldl_append, List.foldl_cons, if_pos ht]
    exact want_miss ans u t.who (fun v hv => by have := h3.1 v hv; rw [ht] at this; exact fun e => this e.symm)
theorem HitAt.fewer {ans : Int} {ws : List Wt} {k : Nat} {t : Wt} (h : HitAt ans ws k t) : ∀ u ∈ ws.eraseIdx k, u.tx ≠ ans := h.rest

def KC (q0 : List Msg) (ws : List Wt) (q : List Msg) : Nat → MS := fun i => if i = 0 then ⟨true, q0, ws⟩ else if i = 1 then ⟨true, q, []⟩ else ⟨true, [], []⟩
theorem kc_new : (fun _ => ⟨true, [], []⟩ : Nat → MS) = KC [] [] [] := by
  funext i
  unfold KC
  split
  · rfl
  · split <;> rfl
/-- A round's state. -/
structure LC (w0 w : World) (c : Nat) (zs : List Int) (i : Nat) (ws : List Wt) (v : Value) : Prop where
  st : ∃ N q, N ≤ 2 * i ∧ q.length = ws.length ∧ CSt w0 w c 100 N (KC [] ws q) (Blk v)
  row : Nums v (ws.map (·.who)) w
  mine : ∀ k, Blk v k → w0.heap.size ≤ k
  ok : WOK zs i ws
end Go.Proofs.Ytekbnpocmmfkkaa
