/-
  The reference's arena in memory: five fields behind a pointer; what each store and each append makes of it. No walk; no conditions beyond what each lemma names.
-/
import Derived.Test.YtfpmbbplgdkogaaSteps
import Derived.Test.YtfpmbbplgdkogaaThings
namespace Go.Proofs.Ytfpmbbplgdkogaa
open Go.RowKit

theorem turn_cell (w : World) (b j : Nat) (u : Value) : Turn (fun k => k = b) w (w.setCell ⟨b, j, none⟩ u) :=
  ⟨rfl, rfl, rfl, by simp [World.setCell], fun _ _ hk => Below.heap_setCell _ _ _ _ hk⟩

/-- Numbers that can be read: a slice that begins anywhere in a block. -/
def Reads (w : World) (v : Value) (xs : List Nat) : Prop :=
  ∃ (p : Option Addr) (c : Nat), v = .slice p xs.length c ∧ xs.length ≤ c ∧ c ≤ 9223372036854775807 ∧
    ((p = none ∧ xs = [] ∧ c = 0) ∨ ∃ g off cur, p = some ⟨g, off, none⟩ ∧ w.heap[g]? = some (.cells cur 3 (0, 0)) ∧ ∀ (j : Nat) (x : Nat), xs[j]? = some x → cur[off + j]? = some (.int .i64 (x : Int)))

structure Raw (w : World) (r : Nat) (vg vv vt vf : Value) (gs vs ts : List Value) (xs : List Nat) (cap : Nat) : Prop where
  head : w.heap[r]? = some (.cells #[vg, vv, vt, vf, .int .i64 cap] 30 (0, 0))
  gen : w.ownsRow 0 3 1 vg gs.length gs
  val : w.ownsRow 0 3 1 vv vs.length vs
  tak : w.ownsRow 0 4 1 vt ts.length ts
  fre : Reads w vf xs
  d1 : ∀ k, vg.ownBlock = some k → vv.ownBlock ≠ some k
  d2 : ∀ k, vg.ownBlock = some k → vf.ownBlock ≠ some k
  d3 : ∀ k, vv.ownBlock = some k → vf.ownBlock ≠ some k

def RFoot (r : Nat) (vg vv vt vf : Value) (k : Nat) : Prop := k = r ∨ vg.ownBlock = some k ∨ vv.ownBlock = some k ∨ vt.ownBlock = some k ∨ vf.ownBlock = some k

theorem Reads.block {w : World} {v : Value} {xs : List Nat} (h : Reads w v xs) {k : Nat} (hk : v.ownBlock = some k) : ∃ cur, w.heap[k]? = some (.cells cur 3 (0, 0)) := by
  obtain ⟨p, c, rfl, _, _, h1 | ⟨g, off, cur, rfl, hg, _⟩⟩ := h
  · rw [h1.1] at hk; simp [Value.ownBlock] at hk
  · simp [Value.ownBlock] at hk
    subst hk
    exact ⟨cur, hg⟩
theorem Reads.kept {w w' : World} {v : Value} {xs : List Nat} {F : Nat → Prop} (h : Reads w v xs) (ht : Turn F w w') (hF : ∀ k, v.ownBlock = some k → ¬ F k) : Reads w' v xs := by
  obtain ⟨p, c, rfl, h1, h2, h3 | ⟨g, off, cur, rfl, hg, hc⟩⟩ := h
  · exact ⟨p, c, rfl, h1, h2, .inl h3⟩
  · exact ⟨_, c, rfl, h1, h2, .inr ⟨g, off, cur, rfl, ht.heap hg (hF g rfl), hc⟩⟩

variable {w w1 : World} {r : Nat} {vg vv vt vf : Value} {gs vs ts : List Value} {xs : List Nat} {cap : Nat}

theorem Raw.lt (h : Raw w r vg vv vt vf gs vs ts xs cap) {k : Nat} (hk : RFoot r vg vv vt vf k) : k < w.heap.size := by
  rcases hk with rfl | hk | hk | hk | hk
  · exact lt_of_block h.head
  · obtain ⟨c, hc⟩ := own_block h.gen hk; exact lt_of_block hc
  · obtain ⟨c, hc⟩ := own_block h.val hk; exact lt_of_block hc
  · obtain ⟨c, hc⟩ := own_block h.tak hk; exact lt_of_block hc
  · obtain ⟨c, hc⟩ := h.fre.block hk; exact lt_of_block hc

theorem Raw.kept {F : Nat → Prop} (h : Raw w r vg vv vt vf gs vs ts xs cap) (ht : Turn F w w1) (hF : ∀ k, RFoot r vg vv vt vf k → ¬ F k) : Raw w1 r vg vv vt vf gs vs ts xs cap :=
  ⟨ht.heap h.head (hF r (.inl rfl)), ht.own h.gen (fun k hk => hF k (.inr (.inl hk))), ht.own h.val (fun k hk => hF k (.inr (.inr (.inl hk)))), ht.own h.tak (fun k hk => hF k (.inr (.inr (.inr (.inl hk))))),
    h.fre.kept ht (fun k hk => hF k (.inr (.inr (.inr (.inr hk))))), h.d1, h.d2, h.d3⟩

/-- The blocks are unlike: by their types, or as it is said. -/
theorem Raw.rg (h : Raw w r vg vv vt vf gs vs ts xs cap) : vg.ownBlock ≠ some r := ne_own h.gen h.head (by decide)
theorem Raw.rv (h : Raw w r vg vv vt vf gs vs ts xs cap) : vv.ownBlock ≠ some r := ne_own h.val h.head (by decide)
theorem Raw.rt (h : Raw w r vg vv vt vf gs vs ts xs cap) : vt.ownBlock ≠ some r := ne_own h.tak h.head (by decide)
theorem Raw.rf (h : Raw w r vg vv vt vf gs vs ts xs cap) : vf.ownBlock ≠ some r := fun e => by
  obtain ⟨c, hc⟩ := h.fre.block e
  exact unlike h.head hc (by decide) rfl
theorem Raw.gt (h : Raw w r vg vv vt vf gs vs ts xs cap) {k : Nat} (hk : vg.ownBlock = some k) : vt.ownBlock ≠ some k := ne_own2 h.gen h.tak (by decide) hk
theorem Raw.vt' (h : Raw w r vg vv vt vf gs vs ts xs cap) {k : Nat} (hk : vv.ownBlock = some k) : vt.ownBlock ≠ some k := ne_own2 h.val h.tak (by decide) hk
theorem Raw.ft (h : Raw w r vg vv vt vf gs vs ts xs cap) {k : Nat} (hk : vt.ownBlock = some k) : vf.ownBlock ≠ some k := fun e => by
  obtain ⟨c, hc⟩ := h.fre.block e
  exact ne_own h.tak hc (by decide) hk

/-- The field of freed slots is written anew. -/
theorem raw_fre {v' : Value} {xs' : List Nat} (h : Raw w r vg vv vt vf gs vs ts xs cap) (hr : Reads w v' xs') (h2 : ∀ k, vg.ownBlock = some k → v'.ownBlock ≠ some k) (h3 : ∀ k, vv.ownBlock = some k → v'.ownBlock ≠ some k) :
    Raw (w.setCell ⟨r, 3, none⟩ v') r vg vv vt v' gs vs ts xs' cap ∧ Turn (fun k => k = r) w (w.setCell ⟨r, 3, none⟩ v') := by
  have hT : Turn (fun k => k = r) w (w.setCell ⟨r, 3, none⟩ v') := turn_cell w _ _ _
  refine ⟨⟨?_, own_past h.gen h.rg _, own_past h.val h.rv _, own_past h.tak h.rt _, hr.kept hT (fun k hk e => ?_), h.d1, h2, h3⟩, hT⟩
  · have := set_at h.head 3 v'
    simpa using this
  · obtain ⟨c, hc⟩ := hr.block hk
    exact unlike h.head hc (by decide) e.symm

/-- One more gen. -/
theorem raw_gen_push {o : Obj} {g c : Nat} {x : Value} (h : Raw w r vg vv vt vf gs vs ts xs cap)
    (hown : w1.ownsRow 0 3 1 (.slice (some ⟨g, 0, none⟩) (gs.length + 1) c) (gs.length + 1) (gs ++ [x])) (hgrow : (w.alloc o).grownBy w1 vg.ownBlock) (hat : vg.ownBlock = some g ∨ w.heap.size ≤ g) :
    w1.heap[r]? = some (.cells #[vg, vv, vt, vf, .int .i64 cap] 30 (0, 0)) ∧
    Raw (w1.setCell ⟨r, 0, none⟩ (.slice (some ⟨g, 0, none⟩) (gs.length + 1) c)) r (.slice (some ⟨g, 0, none⟩) (gs.length + 1) c) vv vt vf (gs ++ [x]) vs ts xs cap ∧
    Turn (fun k => k = r ∨ vg.ownBlock = some k) w (w1.setCell ⟨r, 0, none⟩ (.slice (some ⟨g, 0, none⟩) (gs.length + 1) c)) := by
  have hT : Turn (fun k => vg.ownBlock = some k) w w1 := ((Turn.refl _ w).alloc o).grown hgrow (fun k hk => .inl hk)
  have hA := hT.heap h.head h.rg
  have hne := ne_own hown hA (by decide)
  have hgn : ∀ (v : Value), (∀ k, vg.ownBlock = some k → v.ownBlock ≠ some k) → (∀ k, v.ownBlock = some k → k < w.heap.size) → ∀ k, (Value.slice (some ⟨g, 0, none⟩) (gs.length + 1) c).ownBlock = some k → v.ownBlock ≠ some k := by
    intro v h1 h2 k hk hv
    simp [Value.ownBlock] at hk
    subst hk
    rcases hat with h3 | h3
    · exact h1 _ h3 hv
    · have := h2 _ hv
      omega
  have lv : ∀ k, vv.ownBlock = some k → k < w.heap.size := fun k hk => h.lt (.inr (.inr (.inl hk)))
  have lf : ∀ k, vf.ownBlock = some k → k < w.heap.size := fun k hk => h.lt (.inr (.inr (.inr (.inr hk))))
  refine ⟨hA, ⟨?_, by have := own_past (a := ⟨r, 0, none⟩) hown hne (.slice (some ⟨g, 0, none⟩) (gs.length + 1) c); simpa using this, own_past (hT.own h.val (fun k hk hk' => h.d1 k hk' hk)) h.rv _, own_past (hT.own h.tak (fun k hk hk' => h.gt hk' hk)) h.rt _, ?_, hgn vv h.d1 lv, hgn vf h.d2 lf, h.d3⟩, (hT.mono (fun k hk => .inl (.inr hk))).setCell (.inl (.inl rfl)) _⟩
  · have := set_at hA 0 (.slice (some ⟨g, 0, none⟩) (gs.length + 1) c)
    simpa using this
  · have h4 := h.fre.kept hT (fun k hk hk' => h.d2 k hk' hk)
    exact h4.kept (F := fun k => k = r) (turn_cell w1 _ _ _) (fun k hk e => h.rf (e ▸ hk))

/-- One more val. -/
theorem raw_val_push {o : Obj} {g c : Nat} {x : Value} (h : Raw w r vg vv vt vf gs vs ts xs cap)
    (hown : w1.ownsRow 0 3 1 (.slice (some ⟨g, 0, none⟩) (vs.length + 1) c) (vs.length + 1) (vs ++ [x])) (hgrow : (w.alloc o).grownBy w1 vv.ownBlock) (hat : vv.ownBlock = some g ∨ w.heap.size ≤ g) :
    w1.heap[r]? = some (.cells #[vg, vv, vt, vf, .int .i64 cap] 30 (0, 0)) ∧
    Raw (w1.setCell ⟨r, 1, none⟩ (.slice (some ⟨g, 0, none⟩) (vs.length + 1) c)) r vg (.slice (some ⟨g, 0, none⟩) (vs.length + 1) c) vt vf gs (vs ++ [x]) ts xs cap ∧
    Turn (fun k => k = r ∨ vv.ownBlock = some k) w (w1.setCell ⟨r, 1, none⟩ (.slice (some ⟨g, 0, none⟩) (vs.length + 1) c)) := by
  have hT : Turn (fun k => vv.ownBlock = some k) w w1 := ((Turn.refl _ w).alloc o).grown hgrow (fun k hk => .inl hk)
  have hA := hT.heap h.head h.rv
  have hne := ne_own hown hA (by decide)
  have hgn : ∀ (v : Value), (∀ k, vv.ownBlock = some k → v.ownBlock ≠ some k) → (∀ k, v.ownBlock = some k → k < w.heap.size) → ∀ k, (Value.slice (some ⟨g, 0, none⟩) (vs.length + 1) c).ownBlock = some k → v.ownBlock ≠ some k := by
    intro v h1 h2 k hk hv
    simp [Value.ownBlock] at hk
    subst hk
    rcases hat with h3 | h3
    · exact h1 _ h3 hv
    · have := h2 _ hv
      omega
  have lg : ∀ k, vg.ownBlock = some k → k < w.heap.size := fun k hk => h.lt (.inr (.inl hk))
  have lf : ∀ k, vf.ownBlock = some k → k < w.heap.size := fun k hk => h.lt (.inr (.inr (.inr (.inr hk))))
  refine ⟨hA, ⟨?_, own_past (hT.own h.gen (fun k hk hk' => h.d1 k hk hk')) h.rg _, by have := own_past (a := ⟨r, 1, none⟩) hown hne (.slice (some ⟨g, 0, none⟩) (vs.length + 1) c); simpa using this, own_past (hT.own h.tak (fun k hk hk' => h.vt' hk' hk)) h.rt _, ?_, fun k hk hk2 => hgn vg (fun k h1 h2 => h.d1 k h2 h1) lg k hk2 hk, h.d2, hgn vf h.d3 lf⟩, (hT.mono (fun k hk => .inl (.inr hk))).setCell (.inl (.inl rfl)) _⟩
  · have := set_at hA 1 (.slice (some ⟨g, 0, none⟩) (vs.length + 1) c)
    simpa using this
  · have h4 := h.fre.kept hT (fun k hk hk' => h.d3 k hk' hk)
    exact h4.kept (F := fun k => k = r) (turn_cell w1 _ _ _) (fun k hk e => h.rf (e ▸ hk))

/-- One more tak. -/
theorem raw_tak_push {o : Obj} {g c : Nat} {x : Value} (h : Raw w r vg vv vt vf gs vs ts xs cap)
    (hown : w1.ownsRow 0 4 1 (.slice (some ⟨g, 0, none⟩) (ts.length + 1) c) (ts.length + 1) (ts ++ [x])) (hgrow : (w.alloc o).grownBy w1 vt.ownBlock) :
    w1.heap[r]? = some (.cells #[vg, vv, vt, vf, .int .i64 cap] 30 (0, 0)) ∧
    Raw (w1.setCell ⟨r, 2, none⟩ (.slice (some ⟨g, 0, none⟩) (ts.length + 1) c)) r vg vv (.slice (some ⟨g, 0, none⟩) (ts.length + 1) c) vf gs vs (ts ++ [x]) xs cap ∧
    Turn (fun k => k = r ∨ vt.ownBlock = some k) w (w1.setCell ⟨r, 2, none⟩ (.slice (some ⟨g, 0, none⟩) (ts.length + 1) c)) := by
  have hT : Turn (fun k => vt.ownBlock = some k) w w1 := ((Turn.refl _ w).alloc o).grown hgrow (fun k hk => .inl hk)
  have hA := hT.heap h.head h.rt
  have hne := ne_own hown hA (by decide)
  refine ⟨hA, ⟨?_, own_past (hT.own h.gen (fun k hk hk' => h.gt hk hk')) h.rg _, own_past (hT.own h.val (fun k hk hk' => h.vt' hk hk')) h.rv _, by have := own_past (a := ⟨r, 2, none⟩) hown hne (.slice (some ⟨g, 0, none⟩) (ts.length + 1) c); simpa using this, ?_, h.d1, h.d2, h.d3⟩, (hT.mono (fun k hk => .inl (.inr hk))).setCell (.inl (.inl rfl)) _⟩
  · have := set_at hA 2 (.slice (some ⟨g, 0, none⟩) (ts.length + 1) c)
    simpa using this
  · have h4 := h.fre.kept hT (fun k hk hk' => h.ft hk' hk)
    exact h4.kept (F := fun k => k = r) (turn_cell w1 _ _ _) (fun k hk e => h.rf (e ▸ hk))

/-- One of gen is written over. -/
theorem raw_gen_set {g n c j : Nat} {x : Value} (h : Raw w r (.slice (some ⟨g, 0, none⟩) n c) vv vt vf gs vs ts xs cap) :
    Raw (w.setCell ⟨g, j, none⟩ x) r (.slice (some ⟨g, 0, none⟩) n c) vv vt vf (gs.set j x) vs ts xs cap ∧ Turn (fun k => k = g) w (w.setCell ⟨g, j, none⟩ x) := by
  have hT : Turn (fun k => k = g) w (w.setCell ⟨g, j, none⟩ x) := turn_cell w _ _ _
  have hn : n = gs.length := by
    rcases h.gen.2 with ⟨h1, _⟩ | ⟨g', c', cur, h1, _⟩
    · simp at h1
    · simp at h1; exact h1.2.1
  subst hn
  refine ⟨⟨hT.heap h.head (fun e => h.rg (by simp [Value.ownBlock, e])), by have := (h.gen.stored j x).1; simpa using this, hT.own h.val (fun k hk e => h.d1 k (by simp [Value.ownBlock, e]) hk), hT.own h.tak (fun k hk e => h.gt (k := k) (by simp [Value.ownBlock, e]) hk), h.fre.kept hT (fun k hk e => h.d2 k (by simp [Value.ownBlock, e]) hk), h.d1, h.d2, h.d3⟩, hT⟩

/-- One of val is written over. -/
theorem raw_val_set {g n c j : Nat} {x : Value} (h : Raw w r vg (.slice (some ⟨g, 0, none⟩) n c) vt vf gs vs ts xs cap) :
    Raw (w.setCell ⟨g, j, none⟩ x) r vg (.slice (some ⟨g, 0, none⟩) n c) vt vf gs (vs.set j x) ts xs cap ∧ Turn (fun k => k = g) w (w.setCell ⟨g, j, none⟩ x) := by
  have hT : Turn (fun k => k = g) w (w.setCell ⟨g, j, none⟩ x) := turn_cell w _ _ _
  have hn : n = vs.length := by
    rcases h.val.2 with ⟨h1, _⟩ | ⟨g', c', cur, h1, _⟩
    · simp at h1
    · simp at h1; exact h1.2.1
  subst hn
  refine ⟨⟨hT.heap h.head (fun e => h.rv (by simp [Value.ownBlock, e])), hT.own h.gen (fun k hk e => h.d1 k hk (by simp [Value.ownBlock, e])), by have := (h.val.stored j x).1; simpa using this, hT.own h.tak (fun k hk e => h.vt' (k := k) (by simp [Value.ownBlock, e]) hk), h.fre.kept hT (fun k hk e => h.d3 k (by simp [Value.ownBlock, e]) hk), h.d1, h.d2, h.d3⟩, hT⟩

/-- One of tak is written over. -/
theorem raw_tak_set {g n c j : Nat} {x : Value} (h : Raw w r vg vv (.slice (some ⟨g, 0, none⟩) n c) vf gs vs ts xs cap) :
    Raw (w.setCell ⟨g, j, none⟩ x) r vg vv (.slice (some ⟨g, 0, none⟩) n c) vf gs vs (ts.set j x) xs cap ∧ Turn (fun k => k = g) w (w.setCell ⟨g, j, none⟩ x) := by
  have hT : Turn (fun k => k = g) w (w.setCell ⟨g, j, none⟩ x) := turn_cell w _ _ _
  have hn : n = ts.length := by
    rcases h.tak.2 with ⟨h1, _⟩ | ⟨g', c', cur, h1, _⟩
    · simp at h1
    · simp at h1; exact h1.2.1
  subst hn
  refine ⟨⟨hT.heap h.head (fun e => h.rt (by simp [Value.ownBlock, e])), hT.own h.gen (fun k hk e => h.gt hk (by simp [Value.ownBlock, e])), hT.own h.val (fun k hk e => h.vt' hk (by simp [Value.ownBlock, e])), by have := (h.tak.stored j x).1; simpa using this, h.fre.kept hT (fun k hk e => h.ft (k := k) (by simp [Value.ownBlock, e]) hk), h.d1, h.d2, h.d3⟩, hT⟩

end Go.Proofs.Ytfpmbbplgdkogaa
