/-
  Push of the freed places' heap. Conditions: the slice is the call's own.
-/
import Derived.Test.YtgcjjgljllephaaPLow
namespace Go.Proofs.Ytgcjjgljllephaa
open Go.ChangeShapes Go.WideShapes Go.ChangeAt Go.RowKit

theorem ints70 : Try.prog.underlying 81 = some (.slice 3) := by kernel_rfl
theorem info3 : (Try.prog.info? 3).map (fun i => (i.zero, i.size, i.bytes)) = some (some (.int .i64 0), 1, 8) := by kernel_rfl

/-- The slice at the cell c, perhaps none, is the list l. -/
structure LowV (w : World) (c : Addr) (vf : Value) (l : List Nat) : Prop where
  cell : w.cell? c = some vf
  free : w.frozen? c = false
  own : w.ownsRow 0 3 1 vf l.length (natsOf l)
  ne : vf.ownBlock ≠ some c.block

/-- Of the block of c nothing but the cell c is another. -/
def Keeps (c : Addr) (w w' : World) : Prop := ∀ cs t, c.spot = none → w.heap[c.block]? = some (.cells cs t (0, 0)) → ∃ v, w'.heap[c.block]? = some (.cells (cs.setIfInBounds c.off v) t (0, 0))
theorem Keeps.store (c : Addr) (w : World) (v : Value) : Keeps c w (w.setCell c v) := by
  intro cs t hs h
  obtain ⟨b, o, s⟩ := c
  simp only at hs h
  subst hs
  exact ⟨v, set_at h o v⟩
theorem Keeps.ahead {c : Addr} {w w1 w' : World} (h : Keeps c w1 w') (e : w1.heap[c.block]? = w.heap[c.block]?) : Keeps c w w' := fun cs t hs hh => h cs t hs (e.trans hh)
theorem Keeps.behind {c : Addr} {w w1 w' : World} (h : Keeps c w w1) (e : w'.heap[c.block]? = w1.heap[c.block]?) : Keeps c w w' := fun cs t hs hh => by
  obtain ⟨v, hv⟩ := h cs t hs hh
  exact ⟨v, e.trans hv⟩

theorem lpush_tail {w w1 : World} {c : Addr} {vf : Value} {l : List Nat} {k fl g2 fc2 : Nat} {o : Obj} {xs : List Value} (h : LowV w c vf l) (hfl : l.length = fl) (hxs : natsOf l = xs)
    (hown : w1.ownsRow 0 3 1 (.slice (some ⟨g2, 0, none⟩) (fl + 1) fc2) (fl + 1) (xs ++ [.int .i64 k])) (hgrow : (w.drew.alloc o).grownBy w1 vf.ownBlock) (hat : vf.ownBlock = some g2 ∨ g2 = w.heap.size + 1) :
    w1.cell? c = some vf ∧ w1.frozen? c = false ∧ Hid (LowW (w1.setCell c (.slice (some ⟨g2, 0, none⟩) (fl + 1) fc2)) c g2 (fl + 1) fc2 (l ++ [k]) ∧
      Turn (fun b => b = c.block ∨ vf.ownBlock = some b) w (w1.setCell c (.slice (some ⟨g2, 0, none⟩) (fl + 1) fc2)) ∧ (vf.ownBlock = some g2 ∨ w.heap.size ≤ g2) ∧ Keeps c w (w1.setCell c (.slice (some ⟨g2, 0, none⟩) (fl + 1) fc2))) := by
  subst hfl hxs
  have hT : Turn (fun k => vf.ownBlock = some k) w w1 := ((Turn.refl _ w).drew.alloc o).grown hgrow (fun k hk => .inl hk)
  have hc := hT.cell h.cell (fun e => h.ne e)
  have hlt := World.block_lt_of_cell? w c h.cell
  have hf : w1.frozen? c = false := by
    rw [← h.free]
    exact World.frozen?_of_block (hT.block c.block hlt h.ne)
  have hne : c.block ≠ g2 := by
    intro e
    rcases hat with h1 | h1
    · exact h.ne (by rw [h1, e])
    · omega
  refine ⟨hc, hf, ⟨World.cell?_setCell_same _ _ _ hc, by rw [World.frozen?_setCell]; exact hf, ?_, hne⟩, ?_, ?_, (Keeps.store c w1 _).ahead (hT.block c.block hlt h.ne)⟩
  · have h1 : (natsOf l ++ [Value.int .i64 (k : Int)]) = natsOf (l ++ [k]) := by simp [natsOf]
    rw [← h1]
    exact own_past hown (by simp [Value.ownBlock]; exact fun e => hne e.symm) _
  · exact (hT.mono (fun k hk => .inl (.inr hk))).setCell (.inl (.inl rfl)) _
  · rcases hat with h1 | h1
    · exact .inl h1
    · right; omega

theorem tassert (x : Value) (w : World) : Sem.run Try.prog (Instr.typeAssert (.iface 3 x) 20 3 false) w = .ok x w := by kernel_rfl

theorem lpush_any {w : World} {c : Addr} {vf : Value} {l : List Nat} (h : LowV w c vf l) (k : Nat) (hl : l.length < 65537) :
    Calls Try.prog 113 #[.pointer (some c), .iface 3 (.int .i64 k)] w fun e w' => e = .returned (.tuple #[]) ∧
      ∃ g cap, LowW w' c g (l.length + 1) cap (l ++ [k]) ∧ Turn (fun b => b = c.block ∨ vf.ownBlock = some b) w w' ∧ (vf.ownBlock = some g ∨ w.heap.size ≤ g) ∧ Keeps c w w' := by
  obtain ⟨i, hi, hz0, hz1, hz2⟩ := info_parts info3
  have HL := Lib.hid h
  have c1 := h.cell
  have c2 := h.free
  have hfo := h.own
  obtain ⟨p, fc, hvf⟩ := own_slice h.own
  have hclt := World.block_lt_of_cell? w c h.cell
  obtain ⟨fl, hfl⟩ : ∃ fl, l.length = fl := ⟨_, rfl⟩
  obtain ⟨xs, hxs⟩ : ∃ xs, natsOf l = xs := ⟨_, rfl⟩
  simp only [hfl, hxs] at hvf hfo hl ⊢
  subst hvf
  have K2 := Lib.hid hfl
  have K3 := Lib.hid hxs
  have q2 : ∀ u ∈ [Value.int .i64 (k : Int)], u.oneCell' = true := by
    intro u hu
    simp at hu
    subst hu
    rfl
  have q3 : fl + 1 ≤ maxLen := by unfold maxLen; omega
  have q4 : (fl + 1) * 8 ≤ 140737488355328 := by omega
  have ta := tassert
  clear h hfl hxs hl
  go_enter Try.func113, Try.ntmps113
  go_region_law (first | (refine step_append_lies _ rfl (.tmp 7) (.tmp 10) 81 rfl 0 3 i _ 1 8 ints70 hi hz0 hz1 hz2 rfl (by decide) (.slice p fl fc) fl xs (by simp [Act.eval]) (World.ownsRow.alloc hfo _) ⟨w.heap.size, 0, none⟩ 1 1 [.int .i64 k] (by simp [Act.eval]) rfl (fun j u hu => World.news_of_block (heap_alloc_new w.drew _) j u (by simpa using hu)) q2 (by decide) q3 q4 (Nat.zero_le _) (w.heap.size + 1) (by simp) ?_; intro g2 fc2 w1 hown hgrow hat hlt; obtain ⟨d1, d2, K6⟩ := lpush_tail (Hid.out HL) (Hid.out K2) (Hid.out K3) hown hgrow hat; clear hown hgrow hat))
  all_goals go_end0
  all_goals exact ⟨rfl, _, _, K6.out⟩

theorem LowV.drewN {w : World} {c : Addr} {vf : Value} {l : List Nat} (h : LowV w c vf l) (m : Nat) : LowV (w.drewN m) c vf l := ⟨h.cell, h.free, h.own, h.ne⟩

/-- heap.Push -/
theorem hpush_any {w : World} {c : Addr} {vf : Value} {l : List Nat} (h : LowV w c vf l) (k : Nat) (hl : l.length < 65537) (hh : IsHeap l) :
    Calls Try.prog 55 #[.iface 105 (.pointer (some c)), .iface 3 (.int .i64 k)] w fun e w' => e = .returned (.tuple #[]) ∧
      ∃ g cap l', LowW w' c g (l.length + 1) cap l' ∧ l'.Perm (l ++ [k]) ∧ IsHeap l' ∧ Turn (fun b => b = c.block ∨ vf.ownBlock = some b) w w' ∧ (vf.ownBlock = some g ∨ w.heap.size ≤ g) ∧ Keeps c w w' := by
  have c1 := lpush_any h k hl
  have mp := m_push c
  have ml := m_len c
  have HH := Lib.hid hh
  clear h hh
  go_enter Try.func55, Try.ntmps55
  go_wp2_with (first
    | (go_at_call 113; (with_reducible refine c1.mono ?_); rintro e w1 ⟨rfl, g, cap, hL, hT, hg⟩; have cl := hL.cell; have hcw := World.block_lt_of_cell? w1 _ cl; have K1 := Lib.hid (And.intro hL (And.intro hT hg)); clear hL hT hg)
    | (go_at_call 109; (with_reducible refine (len_any _ _ _ _).mono ?_); rintro e w2 ⟨rfl, rfl⟩)
    | (go_at_call 64; (with_reducible refine (up_any K1.out.1 l.length (by omega) (by omega) (up_begin HH.out k)).mono ?_); rintro e w3 ⟨rfl, l', hL3, hP3, hI3, hT3⟩))
  go_end0
  refine ⟨rfl, g, cap, l', hL3, hP3, hI3, ?_, K1.out.2.2.1, K1.out.2.2.2.behind (hT3.block c.block hcw K1.out.1.ne)⟩
  exact K1.out.2.1.trans hT3 (fun b hb => by
    subst hb
    rcases K1.out.2.2.1 with h | h
    · exact .inl (.inr h)
    · exact .inr h)

end Go.Proofs.Ytgcjjgljllephaa
