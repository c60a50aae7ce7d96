/-
  What New and take of a table answer, and what they make of its memory. No conditions but that the table is one that calls can make.
-/
import Derived.Test.YtacdhlhkpdlekaaHData
namespace Go.Proofs.Ytacdhlhkpdlekaa
open Go.ChangeShapes Go.WideShapes Go.ChangeAt Go.RowKit

theorem info94 : (Try.prog.info? 94).map (fun i => (i.zero, i.size, i.bytes)) = some (some (.agg #[.int .i64 0, .int .i64 0, .int .i64 0, .int .i64 0]), 4, 32) := by kernel_rfl
theorem slots69 : Try.prog.underlying 69 = some (.slice 94) := by kernel_rfl

theorem new_no (n : Int) (w : World) (h : n < 0 ∨ 65536 < n) :
    Calls Try.prog 9 #[.int .i64 n] w fun e w' => e = .returned (.pointer none) ∧ w = w' := by
  rcases h with h | h
  all_goals
    go_enter Try.func9, Try.ntmps9
    go_wp2
    go_ret
    exact ⟨rfl, rfl⟩
theorem new_raw (n : Nat) (w : World) (h' : n ≤ 65536) :
    Calls Try.prog 9 #[.int .i64 n] w fun e w' => e = .returned (.pointer (some ⟨w.heap.size, 0, none⟩)) ∧ w' = w.alloc (.cells #[.int .i64 n, .slice none 0 0, .slice none 0 0] 72) := by
  go_enter Try.func9, Try.ntmps9
  go_wp2
  go_ret
  exact ⟨rfl, rfl⟩

/-- The table at block a: its places L, its blocks F. -/
def TableAt (w : World) (a : Nat) (F : Nat → Prop) (L : List Pl) : Prop := ∃ vs vf cap ps fr, TMem w a vs vf cap ps fr ∧ TOK cap ps fr ∧ F = Foot a vs vf ∧ L = padL cap ps
theorem table_own (a : Nat) (F : Nat → Prop) (L : List Pl) : Own F (fun w => TableAt w a F L) := by
  refine ⟨fun w w' G h ht hf => ?_, fun w h j hj => ?_⟩
  · obtain ⟨vs, vf, cap, ps, fr, h1, h2, rfl, h4⟩ := h
    exact ⟨vs, vf, cap, ps, fr, h1.kept ht hf, h2, rfl, h4⟩
  · obtain ⟨vs, vf, cap, ps, fr, h1, h2, rfl, h4⟩ := h
    exact Foot.lt h1 hj
theorem TableAt.past {w w' : World} {a : Nat} {F : Nat → Prop} {L : List Pl} (h : TableAt w a F L) (ht : Turn NoBlock w w') : TableAt w' a F L := (table_own a F L).kept _ _ _ h ht (fun _ _ h => h)
theorem TableAt.lt {w : World} {a : Nat} {F : Nat → Prop} {L : List Pl} (h : TableAt w a F L) {j : Nat} (hj : F j) : j < w.heap.size := (table_own a F L).lt _ h j hj
theorem TableAt.len {w : World} {a : Nat} {F : Nat → Prop} {L : List Pl} (h : TableAt w a F L) : L.length ≤ 65536 := by
  obtain ⟨vs, vf, cap, ps, fr, h1, h2, rfl, rfl⟩ := h
  rw [padL_len h2.len]; exact h2.top

theorem new_yes (n : Nat) (w : World) (h' : n ≤ 65536) :
    Calls Try.prog 9 #[.int .i64 n] w fun e w' => e = .returned (.pointer (some ⟨w.heap.size, 0, none⟩)) ∧
      ∃ F, TableAt w' w.heap.size F (List.replicate n Pl.none) ∧ Turn NoBlock w w' ∧ ∀ k, F k → w.heap.size ≤ k := by
  refine (new_raw n w h').mono ?_
  rintro e w' ⟨rfl, rfl⟩
  refine ⟨rfl, _, ⟨.slice none 0 0, .slice none 0 0, n, [], [], ⟨heap_alloc_new w _, World.ownsRow_nil _ _ _ _, World.ownsRow_nil _ _ _ _⟩, TOK.new n h', rfl, by simp [padL]⟩, (Turn.refl _ w).alloc _, ?_⟩
  intro k hk
  rcases hk with rfl | hk | hk
  · exact Nat.le_refl _
  · simp [Value.ownBlock] at hk
  · simp [Value.ownBlock] at hk

section
variable {w : World} {a cap : Nat} {vs vf : Value} {ps : List Pl} {fr : List Nat}

theorem take_full (h : TMem w a vs vf cap ps []) (hl : ps.length = cap) :
    Calls Try.prog 41 #[.pointer (some ⟨a, 0, none⟩)] w fun e w' => e = .returned (.tuple #[.int .i64 0, .bool false]) ∧ w = w' := by
  obtain ⟨p, c, hvs⟩ := own_slice h.places
  obtain ⟨p', c', hvf⟩ := own_slice h.freed
  rw [List.length_nil] at hvf
  rw [hl] at hvs
  subst hvs hvf
  have c0 := h.c0
  have c1 := h.c1
  have c2 := h.c2
  clear h hl
  go_enter Try.func41, Try.ntmps41
  go_wp2
  go_ret2
  exact ⟨rfl, rfl⟩

/-- A place that was never taken is laid. -/
theorem TMem.grow {w1 : World} {o : Obj} {g c : Nat} (h : TMem w a vs vf cap ps fr)
    (hown : w1.ownsRow 0 94 4 (.slice (some ⟨g, 0, none⟩) (ps.length + 1) c) (ps.length + 1) (cellsOf ps ++ Pl.none.cells))
    (hgrow : (w.alloc o).grownBy w1 vs.ownBlock) :
    w1.heap[a]? = some (.cells #[.int .i64 cap, vs, vf] 72 (0, 0)) ∧
    TMem (w1.setCell ⟨a, 1, none⟩ (.slice (some ⟨g, 0, none⟩) (ps.length + 1) c)) a (.slice (some ⟨g, 0, none⟩) (ps.length + 1) c) vf cap (ps ++ [Pl.none]) fr ∧
    Turn (Foot a vs vf) w (w1.setCell ⟨a, 1, none⟩ (.slice (some ⟨g, 0, none⟩) (ps.length + 1) c)) := by
  have hT : Turn (fun k => vs.ownBlock = some k) w w1 := ((Turn.refl _ w).alloc o).grown hgrow (fun k hk => .inl hk)
  have hA := hT.heap h.head (ne_own h.places h.head (by decide))
  have hne := ne_own hown hA (by decide)
  refine ⟨hA, ⟨?_, ?_, ?_⟩, ?_⟩
  · have := set_at hA 1 (.slice (some ⟨g, 0, none⟩) (ps.length + 1) c)
    simpa using this
  · have := own_past (a := ⟨a, 1, none⟩) hown hne (.slice (some ⟨g, 0, none⟩) (ps.length + 1) c)
    simpa [cells_push] using this
  · have h4 := hT.own h.freed (fun k hk hk' => ne_own2 h.freed h.places (by decide) hk hk')
    exact own_past h4 (ne_own h4 hA (by decide)) _
  · exact (hT.mono (fun k hk => .inl (.inr (.inl hk)))).setCell (.inl (.inl rfl)) _

set_option maxHeartbeats 1000000 in
theorem take_new (h : TMem w a vs vf cap ps []) (hl : ps.length < cap) (hc : cap ≤ 65536) :
    Calls Try.prog 41 #[.pointer (some ⟨a, 0, none⟩)] w fun e w' => e = .returned (.tuple #[.int .i64 ps.length, .bool true]) ∧
      ∃ g c, (vs.ownBlock = some g ∨ w.heap.size ≤ g) ∧ TMem w' a (.slice (some ⟨g, 0, none⟩) (ps.length + 1) c) vf cap (ps ++ [Pl.none]) [] ∧ Turn (Foot a vs vf) w w' := by
  obtain ⟨i, hi, hz0, hz1, hz2⟩ := info_parts info94
  have hso := h.places
  obtain ⟨p, c, hvs⟩ := own_slice h.places
  obtain ⟨p', c', hvf⟩ := own_slice h.freed
  rw [List.length_nil] at hvf
  have c0 := h.c0
  have c1 := h.c1
  have c2 := h.c2
  have H2 : Hid (vs = .slice p ps.length c) := hvs
  rw [hvf] at c2
  rw [hvs] at c1 hso
  obtain ⟨xs, hxs⟩ : ∃ xs, cellsOf ps = xs := ⟨_, rfl⟩
  rw [hxs] at hso
  obtain ⟨n, hn⟩ : ∃ n, ps.length = n := ⟨_, rfl⟩
  rw [hn] at c1 hl hso ⊢
  have H3 : Hid (ps.length = n) := hn
  have H5 : Hid (cellsOf ps = xs) := hxs
  have H9 : Hid (TMem w a vs vf cap ps []) := h
  clear hvs hvf hxs hn h
  have hne : ((n : Int) == (cap : Int)) = false := by simp; omega
  have q2 : ∀ u ∈ [Value.int .i64 0, .int .i64 0, .int .i64 0, .int .i64 0], u.oneCell' = true := by
    intro u hu
    simp at hu
    subst hu
    rfl
  have q3 : n + 1 ≤ maxLen := by unfold maxLen; omega
  have q4 : (n + 1) * 32 ≤ 140737488355328 := by omega
  go_enter Try.func41, Try.ntmps41
  go_wp2_with (at_builtin; refine wpList_append_lies _ rfl (.tmp 31) (.tmp 33) 69 rfl 0 94 i _ 4 32 slots69 hi hz0 hz1 hz2 rfl (by decide) _ n xs rfl (hso.alloc _) ⟨w.heap.size, 0, none⟩ 1 1 [.int .i64 0, .int .i64 0, .int .i64 0, .int .i64 0] rfl rfl (fun j u hu => World.news_of_block (heap_alloc_new w _) j u (by simpa using hu)) q2 (by decide) q3 q4 (Nat.zero_le _) _ rfl ?_)
  intro g c1' w1 hown hgrow hat hlt
  have hvs := H2.out
  have hn := H3.out
  have hxs := H5.out
  have hh := H9.out
  rw [← hn, ← hxs] at hown
  rw [← hn, ← hvs] at hat
  rw [← hn, ← hvs] at hgrow
  obtain ⟨hA, hB, hC⟩ := TMem.grow hh hown hgrow
  have d1 := cell_at hA 1
  have d2 := free_at hA 1
  simp at d1
  rw [hvs, hn] at d1
  rw [hn] at hB hC
  have G1 : Hid (TMem (w1.setCell ⟨a, 1, none⟩ (.slice (some ⟨g, 0, none⟩) (n + 1) c1')) a (.slice (some ⟨g, 0, none⟩) (n + 1) c1') vf cap (ps ++ [Pl.none]) []) := hB
  have G2 : Hid (Turn (Foot a vs vf) w (w1.setCell ⟨a, 1, none⟩ (.slice (some ⟨g, 0, none⟩) (n + 1) c1'))) := hC
  have G3 : Hid (vs.ownBlock = some g ∨ g = w.heap.size + 1) := hat
  clear hvs hn hxs hh hown hgrow hat hB hC hA
  go_wp2
  go_ret2
  refine ⟨rfl, g, c1', ?_, G1.out, G2.out⟩
  rcases G3.out with hg | hg
  · exact .inl hg
  · right
    omega

theorem take_freed {g n c : Nat} (h : TMem w a vs (.slice (some ⟨g, 0, none⟩) (n + 1) c) cap ps fr) (hn : n ≤ 65537) (hh : IsHeap fr) :
    Calls Try.prog 41 #[.pointer (some ⟨a, 0, none⟩)] w fun e w' => e = .returned (.tuple #[.int .i64 (fr.getD 0 0 : Nat), .bool true]) ∧
      ∃ fr', TMem w' a vs (.slice (some ⟨g, 0, none⟩) n c) cap ps fr' ∧ (fr' ++ [fr.getD 0 0]).Perm fr ∧ IsHeap fr' ∧ Turn (Foot a vs (.slice (some ⟨g, 0, none⟩) (n + 1) c)) w w' := by
  have hlen : fr.length = n + 1 := by
    obtain ⟨_, _, he⟩ := own_slice h.freed
    simp at he
    exact he.2.1.symm
  have hLV := h.low
  have hL : LowW w ⟨a, 2, none⟩ g (n + 1) c fr := ⟨hLV.cell, hLV.free, by have := hLV.own; rw [hlen] at this; exact this, by have := hLV.ne; simp [Value.ownBlock] at this; exact fun e => this e.symm⟩
  have c1 := hpop_any hL hn hh
  have c2 := h.c2
  have ta := tassert
  have HH := Lib.hid h
  generalize ((fr.getD 0 0 : Nat) : Int) = x at *
  clear h hLV hL hh hlen
  go_enter Try.func41, Try.ntmps41
  go_wp2_with (go_at_call 52; (with_reducible refine c1.mono ?_); rintro e w1 ⟨rfl, fr', hL1, hP1, hI1, hT1, hK1⟩; have K1 := Lib.hid (And.intro hL1 (And.intro hP1 (And.intro hI1 (And.intro hT1 hK1)))); clear hL1 hP1 hI1 hT1 hK1)
  go_ret2
  obtain ⟨hL1, hP1, hI1, hT1, hK1⟩ := K1.out
  refine ⟨rfl, fr', ?_, hP1, hI1, hT1.mono (fun b hb => .inl ?_)⟩
  · exact TMem.freedNew HH.out hL1 hT1 (fun k hk => by rcases hk with hk | hk; exact .inl hk; exact .inr (.inr hk)) (.inl rfl) hK1
  · rcases hb with hb | hb
    · exact .inl hb
    · exact .inr (.inr (by rw [hb]; rfl))
end
end Go.Proofs.Ytacdhlhkpdlekaa
