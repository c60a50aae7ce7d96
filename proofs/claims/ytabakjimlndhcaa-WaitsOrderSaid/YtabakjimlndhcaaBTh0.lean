/-
  Threads: what holds ahead of each round. No walk, no conditions.
-/
import Derived.Test.YtabakjimlndhcaaBRound
import Derived.Laws.MakeOwn
namespace Go.Proofs.Ytabakjimlndhcaa
open Go.ChangeShapes Go.WideShapes Go.ChangeAt Go.RowKit Go.Shelf

/-- Everybody stands in everybody's line. -/
theorem at_zero {g : Gw} (h : GOk g) : ∃ p, g.at 0 = some p := by
  cases hg : g.at 0 with
  | some p => exact ⟨p, rfl⟩
  | none =>
    have := look_none.1 hg
    rw [h.ln] at this
    exact absurd ((linesOf_mem _ _).2 (.inl rfl)) this
theorem std_zero (G : List Gw) (h : ∀ g ∈ G, GOk g) : (stdP G 0).map Prod.snd = G.map Gw.x := by
  induction G with
  | nil => rfl
  | cons g G ih =>
    obtain ⟨p, hp⟩ := at_zero (h g List.mem_cons_self)
    rw [stdP_cons, hp]
    simp only [Option.map_some, Option.toList_some, List.singleton_append, List.map_cons]
    rw [ih (fun y hy => h y (List.mem_cons_of_mem _ hy))]
theorem std_len (G : List Gw) (h : ∀ g ∈ G, GOk g) : (stdP G 0).length = G.length := by
  have := congrArg List.length (std_zero G h)
  simpa using this
theorem std_at {G : List Gw} (h : ∀ g ∈ G, GOk g) {j : Nat} {e : Nat × Nat} (he : (stdP G 0)[j]? = some e) : ∃ g, G[j]? = some g ∧ g.x = e.2 := by
  have h1 : ((stdP G 0).map Prod.snd)[j]? = some e.2 := by rw [List.getElem?_map, he]; rfl
  rw [std_zero G h, List.getElem?_map] at h1
  cases hg : G[j]? with
  | none => rw [hg] at h1; cases h1
  | some g => rw [hg] at h1; simp at h1; exact ⟨g, rfl, h1⟩
section
variable {w X Y : World} {c tm lm : Nat} {most : Int} {G : List Gw} {r : Int → Nat} {K : List Int}
theorem WM.see0 (h : WM X c most tm lm G r K) {Ba Bb j : Nat} (hj : j ≤ G.length) (ha : X.heap[Ba]? = some (.cells #[.pointer (some ⟨c, 0, none⟩)] 23 (0, 0))) (hb : X.heap[Bb]? = some (.cells #[.int .i64 0] 3 (0, 0))) : LSee Ba Bb c 0 (r 0) (stdP G 0) j X := by
  have h1 := h.mem
  have e : G.take j ++ G.drop j = G := List.take_append_drop j G
  have hok : ∀ g ∈ G.take j, GOk g := fun g hg => h.ok g (List.mem_of_mem_take hg)
  have hl : (stdP (G.take j) 0).length = j := by rw [std_len _ hok, List.length_take]; omega
  rw [← e] at h1
  have := h1.see (A := G.take j) (A' := G.take j) (B := G.drop j) (o := 0) (by unfold fit; omega) (fun h => h) ha hb (fun z hz hh => by
    rw [e] at hz
    have hi : z.1 ∈ inL G 0 := by rw [← stdP_fst]; exact List.mem_map.2 ⟨z, hz, rfl⟩
    have hK := h.mem.keys 0 (fun hn => by rw [hn] at hi; cases hi)
    rw [hh] at hi
    exact h.mem.rin hK hi)
  rw [e, hl] at this
  exact this
/-- What holds ahead of a round of Threads. -/
structure ThInv (w : World) (E c : Nat) (most : Int) (tm lm : Nat) (G : List Gw) (r : Int → Nat) (K : List Int) (pre : List (Nat × Nat)) (X : World) : Prop where
  le : pre.length ≤ G.length
  mem : WM X c most tm lm G r K
  ex : ∃ v, X.heap[E + 1]? = some (.cells #[v] 53 (0, 0)) ∧ Nums v ((G.take pre.length).map (fun g => g.a.t)) X ∧ ∀ k, Blk v k → k = E ∨ E + 4 ≤ k
  b2 : X.heap[E + 2]? = some (.cells #[.pointer (some ⟨c, 0, none⟩)] 23 (0, 0))
  b3 : X.heap[E + 3]? = some (.cells #[.int .i64 0] 3 (0, 0))
  turn : Turn NoBlock w X
theorem thinv_own {E : Nat} (h0 : WM w c most tm lm G r K) (hE : w.heap.size = E) {B : Nat} (hB : E + 4 ≤ B) : OwnFrom B (fun (pre : List (Nat × Nat)) X => ThInv w E c most tm lm G r K pre X) := by
  intro pre X Y row hs hgr hr
  have tg := turn_of_grown hgr
  have hlo : ∀ k, row = some k → E + 4 ≤ k := fun k hk => by have := (hr k hk).1; omega
  obtain ⟨v, h1, h2, h3⟩ := hs.ex
  refine ⟨hs.le, hs.mem.kept tg (fun k hk e => by have := hlo k e; have h4 := h0.mem.lt hk; omega), ⟨v, tg.heap h1 (fun e => by have := hlo _ e; omega), h2.kept tg (fun k hk e => ?_), h3⟩, tg.heap hs.b2 (fun e => by have := hlo _ e; omega), tg.heap hs.b3 (fun e => by have := hlo _ e; omega), hs.turn.trans tg (fun k e => .inr (by have := hlo k e; omega))⟩
  obtain ⟨cur, hc⟩ := WRow.typed h2 hk
  obtain ⟨ob, h5, h6⟩ := (hr k e).2
  rw [hc] at h5
  cases h5
  cases h6
/-- A round: one more is told. -/
theorem ThInv.next {E : Nat} {pre : List (Nat × Nat)} (h : ThInv w E c most tm lm G r K pre X) (h0 : WM w c most tm lm G r K) (hE : w.heap.size = E) {x : Nat × Nat} {g : Gw} (hg : G[pre.length]? = some g) {v v' : Value} (hv : X.heap[E + 1]? = some (.cells #[v] 53 (0, 0))) {W1 : World} (hn : WRow W1 3 1 v' ((G.take pre.length).length + 1) (icells ((G.take pre.length).map (fun g => g.a.t)) ++ [.int .i64 g.a.t]))
    (t : Turn (Blk v) X W1) (hb : ∀ k, Blk v' k → Blk v k ∨ E + 4 ≤ k) :
    ThInv w E c most tm lm G r K (pre ++ [x]) (W1.setCell ⟨E + 1, 0, none⟩ v') ∧ KeepsAll (E + 4) X (W1.setCell ⟨E + 1, 0, none⟩ v') := by
  obtain ⟨u, h1, h2, h3⟩ := h.ex
  have hu : u = v := by
    rw [hv] at h1
    simp at h1
    exact h1.symm
  subst hu
  have hlt := (List.getElem?_eq_some_iff.1 hg).1
  have tt : Turn (fun k => Blk u k ∨ k = E + 1) X (W1.setCell ⟨E + 1, 0, none⟩ v') := (t.mono (G := fun k => Blk u k ∨ k = E + 1) (fun k hk => .inl (.inl hk))).trans ((Turn.refl (fun k => k = E + 1) W1).setCell (p := ⟨E + 1, 0, none⟩) (.inl rfl) v') (fun k hk => .inl (.inr hk))
  have hlow : ∀ k, Blk u k ∨ k = E + 1 → k = E ∨ k = E + 1 ∨ E + 4 ≤ k := fun k hk => by
    rcases hk with hk | hk
    · rcases h3 k hk with h4 | h4
      · exact .inl h4
      · exact .inr (.inr h4)
    · exact .inr (.inl hk)
  have hEt : ¬ Blk u (E + 1) := fun hk => by rcases h3 _ hk with h4 | h4 <;> omega
  have hx1 := t.heap hv hEt
  have hl : (pre ++ [x]).length = pre.length + 1 := by simp
  have htk : (G.take (pre.length + 1)).map (fun g => g.a.t) = (G.take pre.length).map (fun g => g.a.t) ++ [g.a.t] := by rw [List.take_add_one, hg]; simp
  have hrow : Nums v' ((G.take (pre.length + 1)).map (fun g => g.a.t)) W1 := by
    unfold Nums icells
    rw [htk, List.map_append, List.length_append, List.length_map]
    exact hn
  have hkeep : ∀ k, Blk v' k → ¬ k = E + 1 := fun k hk e => by
    rcases hb k hk with h4 | h4
    · exact hEt (e ▸ h4)
    · omega
  refine ⟨⟨by rw [hl]; omega, h.mem.kept tt (fun k hk e => ?_), ⟨v', set_at hx1 0 _, by rw [hl]; exact hrow.kept ((Turn.refl (fun k => k = E + 1) W1).setCell (p := ⟨E + 1, 0, none⟩) (.inl rfl) v') hkeep, fun k hk => ?_⟩, tt.heap h.b2 (fun e => by have := hlow _ e; omega), tt.heap h.b3 (fun e => by have := hlow _ e; omega), h.turn.trans tt (fun k e => .inr (by have := hlow _ e; omega))⟩, keeps_low tt (fun k hk => ?_)⟩
  · have h4 := h0.mem.lt hk
    have := hlow _ e; omega
  · rcases hb k hk with h4 | h4
    · exact h3 k h4
    · exact .inr h4
  · rcases hk with hk | hk
    · exact .inr ⟨_, WRow.typed h2 hk⟩
    · exact .inl (by omega)
end
end Go.Proofs.Ytabakjimlndhcaa
