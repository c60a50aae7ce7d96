/-
  What each call's stores make of the arena's memory. No walk; no conditions beyond what each lemma names.
-/
import Derived.Test.YtfpmbbplgdkogaaModel
import Derived.Deep.AppendLies
namespace Go.Proofs.Ytfpmbbplgdkogaa
open Go.RowKit

theorem ne_own {w : World} {e : TypeId} {size : Nat} {v : Value} {n : Nat} {xs : List Value} (h : w.ownsRow 0 e size v n xs) {a : Nat} {cs : Array Value} {t : TypeId} {f : Nat × Nat}
    (ha : w.heap[a]? = some (.cells cs t f)) (hne : t ≠ e) : v.ownBlock ≠ some a := by
  intro hk
  obtain ⟨cur, hc⟩ := own_block h hk
  exact unlike ha hc hne rfl

theorem ne_own2 {w : World} {e e' : TypeId} {size size' : Nat} {v v' : Value} {n n' : Nat} {xs xs' : List Value} (h : w.ownsRow 0 e size v n xs) (h' : w.ownsRow 0 e' size' v' n' xs') (hne : e ≠ e') {k : Nat} (hk : v.ownBlock = some k) : v'.ownBlock ≠ some k := by
  obtain ⟨cur, hc⟩ := own_block h hk
  exact ne_own h' hc hne

variable {w : World} {te ts tn : TypeId} {a : Nat} {vs vf : Value} {m : Mod}

theorem Foot.lt (h : Holds w te ts tn a vs vf m) {k : Nat} (hk : Foot a vs vf k) : k < w.heap.size := by
  rcases hk with rfl | hk | hk
  · exact lt_of_block h.head
  · obtain ⟨cur, hc⟩ := own_block h.slots hk; exact lt_of_block hc
  · obtain ⟨cur, hc⟩ := own_block h.freed hk; exact lt_of_block hc

/-- The arena stands where nothing of it is turned. -/
theorem Holds.kept {w' : World} {F : Nat → Prop} (h : Holds w te ts tn a vs vf m) (ht : Turn F w w') (hF : ∀ k, Foot a vs vf k → ¬ F k) : Holds w' te ts tn a vs vf m :=
  ⟨ht.heap h.head (hF a (.inl rfl)), ht.own h.slots (fun k hk => hF k (.inr (.inl hk))), ht.own h.freed (fun k hk => hF k (.inr (.inr hk)))⟩

/-- One freed slot is taken off the end. -/
theorem step_pop {g n c : Nat} {init : List Nat} {k : Nat} (h : Holds w te ts tn a vs (.slice (some ⟨g, 0, none⟩) (n + 1) c) m) (hf : m.freed = init ++ [k]) (hn : init.length = n) (h1 : te ≠ ts) (h2 : te ≠ tn) :
    Holds (w.setCell ⟨a, 2, none⟩ (.slice (some ⟨g, 0, none⟩) n c)) te ts tn a vs (.slice (some ⟨g, 0, none⟩) n c) { m with freed := init } ∧
    Turn (Foot a vs (.slice (some ⟨g, 0, none⟩) (n + 1) c)) w (w.setCell ⟨a, 2, none⟩ (.slice (some ⟨g, 0, none⟩) n c)) := by
  refine ⟨⟨?_, ?_, ?_⟩, (Turn.refl _ w).setCell (.inl (.inl rfl)) _⟩
  · have := set_at h.head 2 (.slice (some ⟨g, 0, none⟩) n c)
    simpa [Mod.count] using this
  · exact own_past h.slots (ne_own h.slots h.head h1) _
  · have hfo := h.freed
    rw [hf] at hfo
    simp only [List.length_append, List.length_cons, List.length_nil, hn] at hfo
    have h3 := own_head hfo (m := n) (by omega)
    have e : (natsOf (init ++ [k])).take (n * 1) = natsOf init := by
      simp [natsOf, ← hn]
    rw [e] at h3
    have h4 := own_past (a := ⟨a, 2, none⟩) h3 (by have := ne_own h.freed h.head h2; simpa [Value.ownBlock] using this) (.slice (some ⟨g, 0, none⟩) n c)
    simpa [hn] using h4

/-- A slot that was never taken is laid. -/
theorem step_new {w1 : World} {o : Obj} {g c : Nat} {s : Slot} (h : Holds w te ts tn a vs vf m) (hs : s.taken = false) (h1 : te ≠ ts) (h2 : te ≠ tn) (h3 : ts ≠ tn)
    (hown : w1.ownsRow 0 ts 3 (.slice (some ⟨g, 0, none⟩) (m.slots.length + 1) c) (m.slots.length + 1) (cellsOf m.slots ++ s.cells))
    (hgrow : (w.alloc o).grownBy w1 vs.ownBlock) :
    w1.heap[a]? = some (.cells #[.int .i64 m.cap, vs, vf, .int .i64 m.count] te (0, 0)) ∧
    Holds (w1.setCell ⟨a, 1, none⟩ (.slice (some ⟨g, 0, none⟩) (m.slots.length + 1) c)) te ts tn a (.slice (some ⟨g, 0, none⟩) (m.slots.length + 1) c) vf { m with slots := m.slots ++ [s] } ∧
    Turn (Foot a vs vf) w (w1.setCell ⟨a, 1, none⟩ (.slice (some ⟨g, 0, none⟩) (m.slots.length + 1) c)) := by
  have hT : Turn (fun k => vs.ownBlock = some k) w w1 :=
    ((Turn.refl _ w).alloc o).grown hgrow (fun k hk => .inl hk)
  have hA := hT.heap h.head (ne_own h.slots h.head h1)
  have hne := ne_own hown hA h1
  refine ⟨hA, ⟨?_, ?_, ?_⟩, ?_⟩
  · have := set_at hA 1 (.slice (some ⟨g, 0, none⟩) (m.slots.length + 1) c)
    simpa [Mod.count, hs] using this
  · have := own_past (a := ⟨a, 1, none⟩) hown hne (.slice (some ⟨g, 0, none⟩) (m.slots.length + 1) c)
    simpa [cells_push] using this
  · have h4 := hT.own h.freed (fun k hk hk' => ne_own2 h.freed h.slots (fun e => h3 e.symm) hk hk')
    exact own_past h4 (ne_own h4 hA h2) _
  · exact (hT.mono (fun k hk => .inl (.inr (.inl hk)))).setCell (.inl (.inl rfl)) _

/-- Stores into one slot's three cells. -/
theorem step_slot {g n c k : Nat} {s : Slot} {w1 : World} (hk : k < m.slots.length) (h : Holds w te ts tn a (.slice (some ⟨g, 0, none⟩) n c) vf m) (h1 : te ≠ ts) (h3 : ts ≠ tn)
    (hw : w1 = ((w.setCell ⟨g, k * 3, none⟩ (.int .i64 s.gen)).setCell ⟨g, k * 3 + 1, none⟩ (.bool s.taken)).setCell ⟨g, k * 3 + 2, none⟩ s.val) :
    w1.heap[a]? = some (.cells #[.int .i64 m.cap, .slice (some ⟨g, 0, none⟩) n c, vf, .int .i64 m.count] te (0, 0)) ∧
    w1.ownsRow 0 ts 3 (.slice (some ⟨g, 0, none⟩) n c) (m.slots.set k s).length (cellsOf (m.slots.set k s)) ∧
    w1.ownsRow 0 tn 1 vf m.freed.length (natsOf m.freed) ∧
    Turn (Foot a (.slice (some ⟨g, 0, none⟩) n c) vf) w w1 := by
  subst hw
  have hso := h.slots
  obtain ⟨_, _, he, _⟩ := own_shape hso (by omega)
  simp at he
  have hn := he.2.1
  rw [← hn] at hso
  have hag : a ≠ g := fun e => ne_own h.slots h.head h1 (by simp [Value.ownBlock, e])
  have hgf : vf.ownBlock ≠ some g := ne_own2 h.slots h.freed h3 rfl
  have s1 := (hso.stored (k * 3) (.int .i64 s.gen)).1
  have s2 := (s1.stored (k * 3 + 1) (.bool s.taken)).1
  have s3 := (s2.stored (k * 3 + 2) s.val).1
  rw [← cells_set m.slots k s hk] at s3
  refine ⟨?_, ?_, ?_, ?_⟩
  · exact set_past (set_past (set_past h.head hag _) hag _) hag _
  · simpa [hn] using s3
  · exact own_past (own_past (own_past h.freed hgf _) hgf _) hgf _
  · have hF : Foot a (.slice (some ⟨g, 0, none⟩) n c) vf g := .inr (.inl rfl)
    exact (((Turn.refl _ w).setCell (.inl hF) _).setCell (.inl hF) _).setCell (.inl hF) _

theorem set_same {α : Type} {l : List α} {i : Nat} {v : α} (h : l[i]? = some v) : l.set i v = l := by
  obtain ⟨hi, rfl⟩ := List.getElem?_eq_some_iff.1 h
  exact List.set_getElem_self hi

theorem count_set (l : List Slot) (k : Nat) (s t : Slot) (h : l[k]? = some t) :
    (l.set k s).countP (·.taken) + (if t.taken then 1 else 0) = l.countP (·.taken) + (if s.taken then 1 else 0) := by
  induction l generalizing k with
  | nil => simp at h
  | cons x l ih =>
    cases k with
    | zero => simp at h; subst h; simp [List.countP_cons]; omega
    | succ k => simp at h; have := ih k h; simp only [List.set_cons_succ, List.countP_cons]; omega

/-- Stores into one slot, and the count. -/
theorem step_count {g n c k : Nat} {s t : Slot} {w1 : World} {z : Int} (h : Holds w te ts tn a (.slice (some ⟨g, 0, none⟩) n c) vf m) (ht : m.slots[k]? = some t) (h1 : te ≠ ts) (h2 : te ≠ tn) (h3 : ts ≠ tn)
    (hz : z = ((m.slots.set k s).countP (·.taken) : Nat))
    (hw : w1 = (((w.setCell ⟨g, k * 3, none⟩ (.int .i64 s.gen)).setCell ⟨g, k * 3 + 1, none⟩ (.bool s.taken)).setCell ⟨g, k * 3 + 2, none⟩ s.val).setCell ⟨a, 3, none⟩ (.int .i64 z)) :
    Holds w1 te ts tn a (.slice (some ⟨g, 0, none⟩) n c) vf { m with slots := m.slots.set k s } ∧
    Turn (Foot a (.slice (some ⟨g, 0, none⟩) n c) vf) w w1 := by
  have hk : k < m.slots.length := (List.getElem?_eq_some_iff.1 ht).1
  obtain ⟨p1, p2, p3, p4⟩ := step_slot (s := s) hk h h1 h3 rfl
  subst hw
  refine ⟨⟨?_, ?_, ?_⟩, p4.setCell (.inl (.inl rfl)) _⟩
  · have := set_at p1 3 (.int .i64 z)
    simpa [Mod.count, hz] using this
  · exact own_past p2 (ne_own p2 p1 h1) _
  · exact own_past p3 (ne_own p3 p1 h2) _

/-- A store into one slot's value. -/
theorem step_val {g n c k : Nat} {t : Slot} {v : Value} (h : Holds w te ts tn a (.slice (some ⟨g, 0, none⟩) n c) vf m) (ht : m.slots[k]? = some t) (h1 : te ≠ ts) (h3 : ts ≠ tn) :
    Holds (w.setCell ⟨g, k * 3 + 2, none⟩ v) te ts tn a (.slice (some ⟨g, 0, none⟩) n c) vf { m with slots := m.slots.set k { t with val := v } } ∧
    Turn (Foot a (.slice (some ⟨g, 0, none⟩) n c) vf) w (w.setCell ⟨g, k * 3 + 2, none⟩ v) := by
  have hk : k < m.slots.length := (List.getElem?_eq_some_iff.1 ht).1
  have hso := h.slots
  obtain ⟨_, _, he, _⟩ := own_shape hso (by omega)
  simp at he
  have hn := he.2.1
  rw [← hn] at hso
  have hag : a ≠ g := fun e => ne_own h.slots h.head h1 (by simp [Value.ownBlock, e])
  have hgf : vf.ownBlock ≠ some g := ne_own2 h.slots h.freed h3 rfl
  have s3 := (hso.stored (k * 3 + 2) v).1
  have hc := cells_at _ _ _ ht
  have e : cellsOf (m.slots.set k { t with val := v }) = (cellsOf m.slots).set (k * 3 + 2) v := by
    rw [cells_set m.slots k _ hk]
    congr 1
    rw [set_same hc.1, set_same hc.2.1]
  refine ⟨⟨?_, ?_, ?_⟩, (Turn.refl _ w).setCell (.inl (.inr (.inl rfl))) _⟩
  · have := set_past h.head (p := ⟨g, k * 3 + 2, none⟩) hag v
    have hcount : (m.slots.set k { t with val := v }).countP (·.taken) = m.slots.countP (·.taken) := by
      have := count_set m.slots k { t with val := v } t ht
      simp only at this
      omega
    simpa [Mod.count, hcount] using this
  · rw [e]; simpa [hn] using s3
  · exact own_past h.freed hgf _

/-- A slot that was freed is laid behind the freed ones. -/
theorem step_push {w1 : World} {o : Obj} {g c k : Nat} (h : Holds w te ts tn a vs vf m) (h1 : te ≠ ts) (h2 : te ≠ tn) (h3 : ts ≠ tn)
    (hown : w1.ownsRow 0 tn 1 (.slice (some ⟨g, 0, none⟩) (m.freed.length + 1) c) (m.freed.length + 1) (natsOf m.freed ++ [.int .i64 k]))
    (hgrow : (w.drew.alloc o).grownBy w1 vf.ownBlock) :
    w1.heap[a]? = some (.cells #[.int .i64 m.cap, vs, vf, .int .i64 m.count] te (0, 0)) ∧
    Holds (w1.setCell ⟨a, 2, none⟩ (.slice (some ⟨g, 0, none⟩) (m.freed.length + 1) c)) te ts tn a vs (.slice (some ⟨g, 0, none⟩) (m.freed.length + 1) c) { m with freed := m.freed ++ [k] } ∧
    Turn (Foot a vs vf) w (w1.setCell ⟨a, 2, none⟩ (.slice (some ⟨g, 0, none⟩) (m.freed.length + 1) c)) := by
  have hT : Turn (fun k => vf.ownBlock = some k) w w1 :=
    ((Turn.refl _ w).drew.alloc o).grown hgrow (fun k hk => .inl hk)
  have hA := hT.heap h.head (ne_own h.freed h.head h2)
  have hne := ne_own hown hA h2
  refine ⟨hA, ⟨?_, ?_, ?_⟩, ?_⟩
  · have := set_at hA 2 (.slice (some ⟨g, 0, none⟩) (m.freed.length + 1) c)
    simpa [Mod.count] using this
  · have h4 := hT.own h.slots (fun k hk hk' => ne_own2 h.slots h.freed h3 hk hk')
    exact own_past h4 (ne_own h4 hA h1) _
  · have := own_past (a := ⟨a, 2, none⟩) hown hne (.slice (some ⟨g, 0, none⟩) (m.freed.length + 1) c)
    simpa [natsOf] using this
  · exact (hT.mono (fun k hk => .inl (.inr (.inr hk)))).setCell (.inl (.inl rfl)) _

theorem mid_facts {k : Nat} {t : Slot} (h : Holds w te ts tn a vs vf m) (ht : m.slots[k]? = some t) (h1 : te ≠ ts) :
    ∃ g n c, vs = .slice (some ⟨g, 0, none⟩) n c ∧ k < n ∧ n ≤ c ∧ c ≤ 9223372036854775807 ∧ w.cell? ⟨a, 1, none⟩ = some (.slice (some ⟨g, 0, none⟩) n c) ∧
      w.cell? ⟨g, k * 3, none⟩ = some (.int .i64 t.gen) ∧ w.cell? ⟨g, k * 3 + 1, none⟩ = some (.bool t.taken) ∧ w.cell? ⟨g, k * 3 + 2, none⟩ = some t.val ∧
      w.frozen? ⟨g, k * 3, none⟩ = false ∧ w.frozen? ⟨g, k * 3 + 1, none⟩ = false ∧ w.frozen? ⟨g, k * 3 + 2, none⟩ = false ∧
      w.cell? ⟨a, 3, none⟩ = some (.int .i64 m.count) ∧ w.frozen? ⟨a, 3, none⟩ = false ∧ a ≠ g := by
  have hlt : k < m.slots.length := (List.getElem?_eq_some_iff.1 ht).1
  obtain ⟨g, cap, rfl, hc, hc'⟩ := own_shape h.slots (by omega)
  have hx := cells_at _ _ _ ht
  refine ⟨g, _, cap, rfl, hlt, hc, hc', ?_, ?_, ?_, ?_, h.slots.frozenAt _, h.slots.frozenAt _, h.slots.frozenAt _, ?_, free_at h.head 3, ?_⟩
  · rw [cell_at h.head 1]; simp
  · exact (h.slots.cellAt (k * 3) (by omega)).trans hx.1
  · exact (h.slots.cellAt (k * 3 + 1) (by omega)).trans hx.2.1
  · exact (h.slots.cellAt (k * 3 + 2) (by omega)).trans hx.2.2
  · rw [cell_at h.head 3]; simp
  · exact fun e => ne_own h.slots h.head h1 (by simp [Value.ownBlock, e])

end Go.Proofs.Ytfpmbbplgdkogaa
