/-
  What the reference's Alloc answers, and what it makes of its memory. No conditions but that its arena is one that calls can make.
-/
import Derived.Test.YtfpmbbplgdkogaaRefCalls
import Derived.Deep.Cut
namespace Go.Proofs.Ytfpmbbplgdkogaa
open Go.ChangeShapes Go.WideShapes Go.ChangeAt Go.RowKit

/-- The three stores into slot k. -/
theorem ref_sets {w : World} {r k g1 c1 g2 c2 g3 c3 n cap : Nat} {vf : Value} {gs vs ts : List Value} {xs : List Nat} {x y : Value} {b : Value}
    (h : Raw w r (.slice (some ⟨g1, 0, none⟩) n c1) (.slice (some ⟨g2, 0, none⟩) n c2) (.slice (some ⟨g3, 0, none⟩) n c3) vf gs vs ts xs cap) :
    Raw (((w.setCell ⟨g1, k, none⟩ x).setCell ⟨g2, k, none⟩ y).setCell ⟨g3, k, none⟩ b) r (.slice (some ⟨g1, 0, none⟩) n c1) (.slice (some ⟨g2, 0, none⟩) n c2) (.slice (some ⟨g3, 0, none⟩) n c3) vf (gs.set k x) (vs.set k y) (ts.set k b) xs cap ∧
    Turn (RFoot r (.slice (some ⟨g1, 0, none⟩) n c1) (.slice (some ⟨g2, 0, none⟩) n c2) (.slice (some ⟨g3, 0, none⟩) n c3) vf) w (((w.setCell ⟨g1, k, none⟩ x).setCell ⟨g2, k, none⟩ y).setCell ⟨g3, k, none⟩ b) := by
  obtain ⟨h1, t1⟩ := raw_gen_set (j := k) (x := x) h
  obtain ⟨h2, t2⟩ := raw_val_set (j := k) (x := y) h1
  obtain ⟨h3, t3⟩ := raw_tak_set (j := k) (x := b) h2
  refine ⟨h3, ?_⟩
  refine ((t1.mono (G := RFoot r (.slice (some ⟨g1, 0, none⟩) n c1) (.slice (some ⟨g2, 0, none⟩) n c2) (.slice (some ⟨g3, 0, none⟩) n c3) vf) (fun j hj => .inl ?_)).trans t2 (fun j hj => .inl ?_)).trans t3 (fun j hj => .inl ?_)
  · exact .inr (.inl (by simp [Value.ownBlock, hj]))
  · exact .inr (.inr (.inl (by simp [Value.ownBlock, hj])))
  · exact .inr (.inr (.inr (.inl (by simp [Value.ownBlock, hj]))))

theorem gens_set (l : List Slot) (k : Nat) (s : Slot) : gensOf (l.set k s) = (gensOf l).set k (.int .i64 s.gen) := by simp [gensOf, List.map_set]
theorem vals_set (l : List Slot) (k : Nat) (s : Slot) : valsOf (l.set k s) = (valsOf l).set k s.val := by simp [valsOf, List.map_set]
theorem taks_set (l : List Slot) (k : Nat) (s : Slot) : taksOf (l.set k s) = (taksOf l).set k (.bool s.taken) := by simp [taksOf, List.map_set]

/-- The rest of the freed slots. -/
theorem reads_tail {w : World} {g off n c k : Nat} {xs : List Nat} {cur : Array Value} {p : Option Addr} (hn : xs.length = n) (hg : w.heap[g]? = some (.cells cur 3 (0, 0))) (hc : ∀ (j : Nat) (x : Nat), (k :: xs)[j]? = some x → cur[off + j]? = some (.int .i64 (x : Int)))
    (h1 : n + 1 ≤ c) (h2 : c ≤ 9223372036854775807) (hp : (c = 1 ∧ p = some ⟨g, off, none⟩) ∨ p = some ⟨g, off + 1, none⟩) : Reads w (.slice p n (c - 1)) xs := by
  refine ⟨p, c - 1, by rw [hn], by omega, by omega, .inr ?_⟩
  rcases hp with ⟨hc1, rfl⟩ | rfl
  · refine ⟨g, off, cur, rfl, hg, fun j x hx => ?_⟩
    have := (List.getElem?_eq_some_iff.1 hx).1
    omega
  · refine ⟨g, off + 1, cur, rfl, hg, fun j x hx => ?_⟩
    have := hc (j + 1) x (by simpa using hx)
    rw [Nat.add_assoc, Nat.add_comm 1 j]
    exact this

set_option maxHeartbeats 2000000 in
theorem ref_alloc_freed (v : Int) (w : World) (r : Nat) (vg vv vt vf : Value) (m : Mod) (init : List Nat) (k : Nat) (s : Slot) (h : Raw w r vg vv vt vf (gensOf m.slots) (valsOf m.slots) (taksOf m.slots) m.freed.reverse m.cap) (hf : m.freed = init ++ [k]) (hs : m.slots[k]? = some s) (hsg : s.gen < 1073741824) (hk : k < 65536) (hfl : init.length < 65536) :
    Calls Try.prog 12 #[.pointer (some ⟨r, 0, none⟩), .int .i64 v] w fun e w' => e = .returned (.int .i64 (((s.gen : Int) + 1) * 65536 + k)) ∧
      ∃ vf', Raw w' r vg vv vt vf' (gensOf (m.slots.set k ⟨s.gen + 1, true, .int .i64 v⟩)) (valsOf (m.slots.set k ⟨s.gen + 1, true, .int .i64 v⟩)) (taksOf (m.slots.set k ⟨s.gen + 1, true, .int .i64 v⟩)) init.reverse m.cap ∧ Turn (RFoot r vg vv vt vf) w w' ∧ (∀ j, vf'.ownBlock = some j → vf.ownBlock = some j) := by
  have hrev : m.freed.reverse = k :: init.reverse := by rw [hf]; simp
  obtain ⟨g1, c1, g2, c2, g3, c3, e1, e2, e3, f4, f5, f6, f7, f8, f9, f10, f11, f12, f13, f14, f15, f16⟩ := raw_slot h hs
  obtain ⟨p, c, hvf, hl, hl2, hp | ⟨gf, off, cur, hp, hgf, hcur⟩⟩ := h.fre
  · rw [hrev] at hp; simp at hp
  rw [hrev] at hvf hl hcur
  simp only [List.length_cons, List.length_reverse] at hvf hl
  subst e1 e2 e3 hp hvf
  have a0 := cell_at h.head 0
  have a1 := cell_at h.head 1
  have a2 := cell_at h.head 2
  have a3 := cell_at h.head 3
  have b3 := free_at h.head 3
  simp at a0 a1 a2 a3
  have d0 : w.cell? ⟨gf, off, none⟩ = some (.int .i64 (k : Int)) := by
    rw [cell_at hgf off]
    have := hcur 0 k rfl
    simpa using this
  obtain ⟨n, hn⟩ : ∃ n, m.slots.length = n := ⟨_, rfl⟩
  obtain ⟨q, hq⟩ : ∃ q, init.length = q := ⟨_, rfl⟩
  rw [hn] at h a0 a1 a2 f4 ⊢
  rw [hq] at h a3 hl hfl ⊢
  have htl := fun p hp => reads_tail (w := w) (p := p) (xs := init.reverse) (by rw [List.length_reverse]; exact hq) hgf hcur hl hl2 hp
  have HH : Hid (Raw w r (.slice (some ⟨g1, 0, none⟩) n c1) (.slice (some ⟨g2, 0, none⟩) n c2) (.slice (some ⟨g3, 0, none⟩) n c3) (.slice (some ⟨gf, off, none⟩) (q + 1) c) (gensOf m.slots) (valsOf m.slots) (taksOf m.slots) m.freed.reverse m.cap) := h
  have HT : Hid (∀ p, ((c = 1 ∧ p = some ⟨gf, off, none⟩) ∨ p = some ⟨gf, off + 1, none⟩) → Reads w (.slice p q (c - 1)) init.reverse) := htl
  have hrf : r ≠ gf := fun e => h.rf (by simp [Value.ownBlock, e])
  have fin : ∀ p, ((c = 1 ∧ p = some ⟨gf, off, none⟩) ∨ p = some ⟨gf, off + 1, none⟩) → ∀ x, x = (s.gen : Int) + 1 →
      Raw ((((w.setCell ⟨r, 3, none⟩ (.slice p q (c - 1))).setCell ⟨g1, k, none⟩ (.int .i64 x)).setCell ⟨g2, k, none⟩ (.int .i64 v)).setCell ⟨g3, k, none⟩ (.bool true)) r (.slice (some ⟨g1, 0, none⟩) n c1) (.slice (some ⟨g2, 0, none⟩) n c2) (.slice (some ⟨g3, 0, none⟩) n c3) (.slice p q (c - 1)) (gensOf (m.slots.set k ⟨s.gen + 1, true, .int .i64 v⟩)) (valsOf (m.slots.set k ⟨s.gen + 1, true, .int .i64 v⟩)) (taksOf (m.slots.set k ⟨s.gen + 1, true, .int .i64 v⟩)) init.reverse m.cap ∧
      Turn (RFoot r (.slice (some ⟨g1, 0, none⟩) n c1) (.slice (some ⟨g2, 0, none⟩) n c2) (.slice (some ⟨g3, 0, none⟩) n c3) (.slice (some ⟨gf, off, none⟩) (q + 1) c)) w ((((w.setCell ⟨r, 3, none⟩ (.slice p q (c - 1))).setCell ⟨g1, k, none⟩ (.int .i64 x)).setCell ⟨g2, k, none⟩ (.int .i64 v)).setCell ⟨g3, k, none⟩ (.bool true)) ∧
      (∀ j, (Value.slice p q (c - 1)).ownBlock = some j → (Value.slice (some ⟨gf, off, none⟩) (q + 1) c).ownBlock = some j) := by
    intro p hp x hx
    subst hx
    have hown : ∀ j, (Value.slice p q (c - 1)).ownBlock = some j → (Value.slice (some ⟨gf, off, none⟩) (q + 1) c).ownBlock = some j := by
      intro j hj
      rcases hp with ⟨_, rfl⟩ | rfl <;> simpa [Value.ownBlock] using hj
    obtain ⟨r1, r2⟩ := raw_fre HH.out (HT.out p hp) (fun j h1 h2 => HH.out.d2 j h1 (hown j h2)) (fun j h1 h2 => HH.out.d3 j h1 (hown j h2))
    obtain ⟨r3, r4⟩ := ref_sets (k := k) (x := .int .i64 ((s.gen : Int) + 1)) (y := .int .i64 v) (b := .bool true) r1
    rw [gens_set, vals_set, taks_set]
    refine ⟨r3, (r2.mono (fun j hj => .inl (.inl hj))).trans r4 (fun j hj => .inl ?_), hown⟩
    rcases hj with hj | hj | hj | hj | hj
    · exact .inl hj
    · exact .inr (.inl hj)
    · exact .inr (.inr (.inl hj))
    · exact .inr (.inr (.inr (.inl hj)))
    · exact .inr (.inr (.inr (.inr (hown j hj))))
  have FIN : Hid (∀ p, ((c = 1 ∧ p = some ⟨gf, off, none⟩) ∨ p = some ⟨gf, off + 1, none⟩) → ∀ x, x = (s.gen : Int) + 1 →
      Raw ((((w.setCell ⟨r, 3, none⟩ (.slice p q (c - 1))).setCell ⟨g1, k, none⟩ (.int .i64 x)).setCell ⟨g2, k, none⟩ (.int .i64 v)).setCell ⟨g3, k, none⟩ (.bool true)) r (.slice (some ⟨g1, 0, none⟩) n c1) (.slice (some ⟨g2, 0, none⟩) n c2) (.slice (some ⟨g3, 0, none⟩) n c3) (.slice p q (c - 1)) (gensOf (m.slots.set k ⟨s.gen + 1, true, .int .i64 v⟩)) (valsOf (m.slots.set k ⟨s.gen + 1, true, .int .i64 v⟩)) (taksOf (m.slots.set k ⟨s.gen + 1, true, .int .i64 v⟩)) init.reverse m.cap ∧
      Turn (RFoot r (.slice (some ⟨g1, 0, none⟩) n c1) (.slice (some ⟨g2, 0, none⟩) n c2) (.slice (some ⟨g3, 0, none⟩) n c3) (.slice (some ⟨gf, off, none⟩) (q + 1) c)) w ((((w.setCell ⟨r, 3, none⟩ (.slice p q (c - 1))).setCell ⟨g1, k, none⟩ (.int .i64 x)).setCell ⟨g2, k, none⟩ (.int .i64 v)).setCell ⟨g3, k, none⟩ (.bool true)) ∧
      (∀ j, (Value.slice p q (c - 1)).ownBlock = some j → (Value.slice (some ⟨gf, off, none⟩) (q + 1) c).ownBlock = some j)) := fin
  clear h hf hs hrev hgf hcur hn hq htl fin
  by_cases hc1 : c = 1
  · obtain rfl : q = 0 := by omega
    subst hc1
    go_enter Try.func12, Try.ntmps12
    go_wp2
    go_ret
    refine ⟨?_, _, FIN.out (some ⟨gf, off, none⟩) (.inl (by simp)) _ rfl⟩
    first | trivial | rfl
  · have hc2 : (c == 1) = false := by simp; exact hc1
    go_enter Try.func12, Try.ntmps12
    go_wp2
    go_ret
    refine ⟨?_, _, FIN.out (some ⟨gf, off + 1, none⟩) (.inr rfl) _ rfl⟩
    first | trivial | rfl

theorem ref_alloc_full (v : Int) (w : World) (r : Nat) (vg vv vt vf : Value) (m : Mod) (h : Raw w r vg vv vt vf (gensOf m.slots) (valsOf m.slots) (taksOf m.slots) m.freed.reverse m.cap) (hf : m.freed = []) (hl : m.slots.length = m.cap) :
    Calls Try.prog 12 #[.pointer (some ⟨r, 0, none⟩), .int .i64 v] w fun e w' => e = .returned (.int .i64 (-1)) ∧ w' = w := by
  have e1 : (gensOf m.slots).length = m.slots.length := by simp [gensOf]
  have hg := h.gen
  rw [e1, hl] at hg
  obtain ⟨pg, cg, rfl⟩ := own_slice hg
  obtain ⟨p, c, hvf, _⟩ := h.fre
  rw [hf] at hvf
  simp only [List.reverse_nil, List.length_nil] at hvf
  subst hvf
  have a0 := cell_at h.head 0
  have a3 := cell_at h.head 3
  have a4 := cell_at h.head 4
  simp at a0 a3 a4
  obtain ⟨n, hn⟩ : ∃ n, m.cap = n := ⟨_, rfl⟩
  rw [hn] at a0 a4
  clear h hf hl hg e1 hn
  go_enter Try.func12, Try.ntmps12
  go_wp2
  go_ret
  exact ⟨rfl, rfl⟩

theorem bools : Try.prog.underlying 28 = some (.slice 4) := by kernel_rfl
theorem info4 : (Try.prog.info? 4).map (fun i => (i.zero, i.size, i.bytes)) = some (some (.bool false), 1, 1) := by kernel_rfl

set_option maxHeartbeats 2000000 in
theorem ref_alloc_new (v : Int) (w : World) (r : Nat) (vg vv vt vf : Value) (m : Mod) (h : Raw w r vg vv vt vf (gensOf m.slots) (valsOf m.slots) (taksOf m.slots) m.freed.reverse m.cap) (hf : m.freed = []) (hl : m.slots.length < m.cap) (hc : m.cap ≤ 65536) :
    Calls Try.prog 12 #[.pointer (some ⟨r, 0, none⟩), .int .i64 v] w fun e w' => e = .returned (.int .i64 ((65536 : Int) + m.slots.length)) ∧
      ∃ vg' vv' vt', Raw w' r vg' vv' vt' vf (gensOf (m.slots ++ [(⟨1, true, .int .i64 v⟩ : Slot)])) (valsOf (m.slots ++ [(⟨1, true, .int .i64 v⟩ : Slot)])) (taksOf (m.slots ++ [(⟨1, true, .int .i64 v⟩ : Slot)])) m.freed.reverse m.cap ∧ Turn (RFoot r vg vv vt vf) w w' ∧ ∀ k, RFoot r vg' vv' vt' vf k → RFoot r vg vv vt vf k ∨ w.heap.size ≤ k := by
  obtain ⟨i3, hi3, hz0, hz1, hz2⟩ := info_parts iinfo3
  obtain ⟨i4, hi4, hy0, hy1, hy2⟩ := info_parts info4
  obtain ⟨n, hn⟩ : ∃ n, m.slots.length = n := ⟨_, rfl⟩
  have e1 : (gensOf m.slots).length = n := by simp [gensOf, hn]
  have e2 : (valsOf m.slots).length = n := by simp [valsOf, hn]
  have e3 : (taksOf m.slots).length = n := by simp [taksOf, hn]
  obtain ⟨K, hK⟩ : ∃ K, m.cap = K := ⟨_, rfl⟩
  rw [hn, hK] at hl
  rw [hK] at hc h ⊢
  rw [hn]
  obtain ⟨gs, hgs⟩ : ∃ gs, gensOf m.slots = gs := ⟨_, rfl⟩
  obtain ⟨vs, hvs⟩ : ∃ vs, valsOf m.slots = vs := ⟨_, rfl⟩
  obtain ⟨ts, hts⟩ : ∃ ts, taksOf m.slots = ts := ⟨_, rfl⟩
  obtain ⟨xs, hxs⟩ : ∃ xs, m.freed.reverse = xs := ⟨_, rfl⟩
  rw [hgs] at e1
  rw [hvs] at e2
  rw [hts] at e3
  rw [hgs, hvs, hts, hxs] at h
  have G1 : Hid (gensOf (m.slots ++ [(⟨1, true, .int .i64 v⟩ : Slot)]) = (gs ++ [Value.int .i64 0]).set n (.int .i64 1)) := by
    show gensOf (m.slots ++ [(⟨1, true, .int .i64 v⟩ : Slot)]) = (gs ++ [Value.int .i64 0]).set n (.int .i64 1)
    rw [← e1, ← hgs]
    simp [gensOf]
  have G2 : Hid (valsOf (m.slots ++ [(⟨1, true, .int .i64 v⟩ : Slot)]) = (vs ++ [Value.int .i64 0]).set n (.int .i64 v)) := by
    show valsOf (m.slots ++ [(⟨1, true, .int .i64 v⟩ : Slot)]) = (vs ++ [Value.int .i64 0]).set n (.int .i64 v)
    rw [← e2, ← hvs]
    simp [valsOf]
  have G3 : Hid (taksOf (m.slots ++ [(⟨1, true, .int .i64 v⟩ : Slot)]) = (ts ++ [Value.bool false]).set n (.bool true)) := by
    show taksOf (m.slots ++ [(⟨1, true, .int .i64 v⟩ : Slot)]) = (ts ++ [Value.bool false]).set n (.bool true)
    rw [← e3, ← hts]
    simp [taksOf]
  have hxe : xs = [] := by rw [← hxs, hf]; rfl
  have E1 : Hid (gs.length = n) := e1
  have E2 : Hid (vs.length = n) := e2
  have E3 : Hid (ts.length = n) := e3
  have hgo := h.gen
  have hvo := h.val
  have hto := h.tak
  rw [e1] at hgo
  rw [e2] at hvo
  rw [e3] at hto
  obtain ⟨pg, cg, hvg⟩ := own_slice hgo
  obtain ⟨pv, cv, hvv⟩ := own_slice hvo
  obtain ⟨pt, ct, hvt⟩ := own_slice hto
  obtain ⟨p, c, hvf, _⟩ := h.fre
  rw [hxe] at hvf
  simp only [List.length_nil] at hvf
  subst hvg hvv hvt hvf
  have a0 := cell_at h.head 0
  have a3 := cell_at h.head 3
  have a4 := cell_at h.head 4
  simp at a0 a3 a4
  have HH : Hid (Raw w r (.slice pg n cg) (.slice pv n cv) (.slice pt n ct) (.slice p 0 c) gs vs ts xs K) := h
  have q2 : ∀ u ∈ [Value.int .i64 0], u.oneCell' = true := by
    intro u hu
    simp at hu
    subst hu
    rfl
  have q5 : ∀ u ∈ [Value.bool false], u.oneCell' = true := by
    intro u hu
    simp at hu
    subst hu
    rfl
  have q3 : n + 1 ≤ maxLen := by unfold maxLen; omega
  have q4 : (n + 1) * 8 ≤ 140737488355328 := by omega
  have q6 : (n + 1) * 1 ≤ 140737488355328 := by omega
  have HX : Hid (m.freed.reverse = xs) := hxs
  have hnK : ((n : Int) < (K : Int)) := by omega
  have hrev : m.freed.reverse = xs := hxs
  rw [hrev]
  clear h hf hn hK hgs hvs hts hxs hrev hxe e1 e2 e3 hvo hto
  go_enter Try.func12, Try.ntmps12
  go_upto_region 8 with (at_builtin; refine wpList_append_lies _ rfl (.tmp 41) (.tmp 42) 27 rfl 0 3 i3 _ 1 8 iints hi3 hz0 hz1 hz2 rfl (by decide) (.slice pg n cg) n gs rfl (World.ownsRow.alloc hgo _) ⟨w.heap.size, 0, none⟩ 1 1 [.int .i64 0] rfl rfl (fun j u hu => World.news_of_block (heap_alloc_new w _) j u (by simpa using hu)) q2 (by decide) q3 q4 (Nat.zero_le _) (w.heap.size + 1) (by simp) ?_; intro g1 k1 w1 hown hgrow hat hlt1; have P1 : Hid (Raw (w1.setCell ⟨r, 0, none⟩ (.slice (some ⟨g1, 0, none⟩) (n + 1) k1)) r (.slice (some ⟨g1, 0, none⟩) (n + 1) k1) (.slice pv n cv) (.slice pt n ct) (.slice p 0 c) (gs ++ [Value.int .i64 0]) vs ts xs K ∧ Turn (fun k => k = r ∨ (Value.slice pg n cg).ownBlock = some k) w (w1.setCell ⟨r, 0, none⟩ (.slice (some ⟨g1, 0, none⟩) (n + 1) k1))) := (by have := raw_gen_push (o := .cells #[.int .i64 0] 3) (Hid.out HH) (by rw [Hid.out E1]; exact hown) hgrow (hat.imp id (fun h => by omega)); rw [Hid.out E1] at this; exact this.2); have d1 : w1.heap[r]? = some (.cells #[.slice pg n cg, .slice pv n cv, .slice pt n ct, .slice p 0 c, .int .i64 K] 30 (0, 0)) := (by have := raw_gen_push (o := .cells #[.int .i64 0] 3) (Hid.out HH) (by rw [Hid.out E1]; exact hown) hgrow (hat.imp id (fun h => by omega)); exact this.1); have b1 := cell_at d1 0; have b2 := free_at d1 0; simp at b1; have L1 : Hid ((Value.slice pg n cg).ownBlock = some g1 ∨ w.heap.size ≤ g1) := hat.imp id (fun h => by omega); clear hown hgrow hat d1)
  obtain ⟨W1, hW1⟩ : ∃ W1, w1.setCell ⟨r, 0, none⟩ (.slice (some ⟨g1, 0, none⟩) (n + 1) k1) = W1 := ⟨_, rfl⟩
  rw [hW1] at P1 ⊢
  have a1 := cell_at P1.out.1.head 1
  simp at a1
  have hvo := P1.out.1.val
  rw [E2.out] at hvo
  clear hW1 b1 b2 a0 a3 a4 hgo
  go_upto_region 9 with (at_builtin; refine wpList_append_lies _ rfl (.tmp 50) (.tmp 51) 27 rfl 0 3 i3 _ 1 8 iints hi3 hz0 hz1 hz2 rfl (by decide) (.slice pv n cv) n vs rfl (World.ownsRow.alloc hvo _) ⟨W1.heap.size, 0, none⟩ 1 1 [.int .i64 0] rfl rfl (fun j u hu => World.news_of_block (heap_alloc_new W1 _) j u (by simpa using hu)) q2 (by decide) q3 q4 (Nat.zero_le _) (W1.heap.size + 1) (by simp) ?_; intro g2 k2 w2 hown hgrow hat hlt2; have P2 : Hid (Raw (w2.setCell ⟨r, 1, none⟩ (.slice (some ⟨g2, 0, none⟩) (n + 1) k2)) r (.slice (some ⟨g1, 0, none⟩) (n + 1) k1) (.slice (some ⟨g2, 0, none⟩) (n + 1) k2) (.slice pt n ct) (.slice p 0 c) (gs ++ [Value.int .i64 0]) (vs ++ [Value.int .i64 0]) ts xs K ∧ Turn (fun k => k = r ∨ (Value.slice pv n cv).ownBlock = some k) W1 (w2.setCell ⟨r, 1, none⟩ (.slice (some ⟨g2, 0, none⟩) (n + 1) k2))) := (by have := raw_val_push (o := .cells #[.int .i64 0] 3) (Hid.out P1).1 (by rw [Hid.out E2]; exact hown) hgrow (hat.imp id (fun h => by omega)); rw [Hid.out E2] at this; exact this.2); have d1 : w2.heap[r]? = some (.cells #[.slice (some ⟨g1, 0, none⟩) (n + 1) k1, .slice pv n cv, .slice pt n ct, .slice p 0 c, .int .i64 K] 30 (0, 0)) := (by have := raw_val_push (o := .cells #[.int .i64 0] 3) (Hid.out P1).1 (by rw [Hid.out E2]; exact hown) hgrow (hat.imp id (fun h => by omega)); exact this.1); have b1 := cell_at d1 1; have b2 := free_at d1 1; simp at b1; have L2 : Hid ((Value.slice pv n cv).ownBlock = some g2 ∨ W1.heap.size ≤ g2) := hat.imp id (fun h => by omega); clear hown hgrow hat d1)
  obtain ⟨W2, hW2⟩ : ∃ W2, w2.setCell ⟨r, 1, none⟩ (.slice (some ⟨g2, 0, none⟩) (n + 1) k2) = W2 := ⟨_, rfl⟩
  rw [hW2] at P2 ⊢
  have a2 := cell_at P2.out.1.head 2
  simp at a2
  have hto := P2.out.1.tak
  rw [E3.out] at hto
  clear hW2 b1 b2 a1 hvo
  go_upto_region 10 with (at_builtin; refine wpList_append_lies _ rfl (.tmp 59) (.tmp 60) 28 rfl 0 4 i4 _ 1 1 bools hi4 hy0 hy1 hy2 rfl (by decide) (.slice pt n ct) n ts rfl (World.ownsRow.alloc hto _) ⟨W2.heap.size, 0, none⟩ 1 1 [.bool false] rfl rfl (fun j u hu => World.news_of_block (heap_alloc_new W2 _) j u (by simpa using hu)) q5 (by decide) q3 q6 (Nat.zero_le _) (W2.heap.size + 1) (by simp) ?_; intro g3 k3 w3 hown hgrow hat hlt3; have P3 : Hid (Raw (w3.setCell ⟨r, 2, none⟩ (.slice (some ⟨g3, 0, none⟩) (n + 1) k3)) r (.slice (some ⟨g1, 0, none⟩) (n + 1) k1) (.slice (some ⟨g2, 0, none⟩) (n + 1) k2) (.slice (some ⟨g3, 0, none⟩) (n + 1) k3) (.slice p 0 c) (gs ++ [Value.int .i64 0]) (vs ++ [Value.int .i64 0]) (ts ++ [Value.bool false]) xs K ∧ Turn (fun k => k = r ∨ (Value.slice pt n ct).ownBlock = some k) W2 (w3.setCell ⟨r, 2, none⟩ (.slice (some ⟨g3, 0, none⟩) (n + 1) k3))) := (by have := raw_tak_push (o := .cells #[.bool false] 4) (Hid.out P2).1 (by rw [Hid.out E3]; exact hown) hgrow; rw [Hid.out E3] at this; exact this.2); have d1 : w3.heap[r]? = some (.cells #[.slice (some ⟨g1, 0, none⟩) (n + 1) k1, .slice (some ⟨g2, 0, none⟩) (n + 1) k2, .slice pt n ct, .slice p 0 c, .int .i64 K] 30 (0, 0)) := (by have := raw_tak_push (o := .cells #[.bool false] 4) (Hid.out P2).1 (by rw [Hid.out E3]; exact hown) hgrow; exact this.1); have b1 := cell_at d1 2; have b2 := free_at d1 2; simp at b1; have L3 : Hid ((Value.slice pt n ct).ownBlock = some g3 ∨ W2.heap.size ≤ g3) := hat.imp id (fun h => by omega); clear hown hgrow hat d1)
  obtain ⟨W3, hW3⟩ : ∃ W3, w3.setCell ⟨r, 2, none⟩ (.slice (some ⟨g3, 0, none⟩) (n + 1) k3) = W3 := ⟨_, rfl⟩
  rw [hW3] at P3 ⊢
  have R3 := P3.out.1
  have a0 := cell_at R3.head 0
  have a1 := cell_at R3.head 1
  have a3 := cell_at R3.head 2
  simp at a0 a1 a3
  have hg3 := R3.gen
  have hv3 := R3.val
  have ht3 := R3.tak
  simp only [List.length_append, List.length_cons, List.length_nil, E1.out, E2.out, E3.out, Nat.zero_add] at hg3 hv3 ht3
  have f5 : W3.cell? ⟨g1, n, none⟩ = some (.int .i64 0) := by rw [hg3.cellAt n (by omega)]; simp [← E1.out]
  have f6 : (W3.cell? ⟨g2, n, none⟩) = some (.int .i64 0) := by rw [hv3.cellAt n (by omega)]; simp [← E2.out]
  have f7 : (W3.cell? ⟨g3, n, none⟩) = some (.bool false) := by rw [ht3.cellAt n (by omega)]; simp [← E3.out]
  have f8 := hg3.frozenAt n
  have f9 := hv3.frozenAt n
  have f10 := ht3.frozenAt n
  have f11 : g1 ≠ g2 := fun e => R3.d1 g1 rfl (by simp [Value.ownBlock, e])
  have f12 : g1 ≠ g3 := fun e => R3.gt (k := g1) rfl (by simp [Value.ownBlock, e])
  have f13 : g2 ≠ g3 := fun e => R3.vt' (k := g2) rfl (by simp [Value.ownBlock, e])
  have f14 : r ≠ g1 := fun e => R3.rg (by simp [Value.ownBlock, e])
  have f15 : r ≠ g2 := fun e => R3.rv (by simp [Value.ownBlock, e])
  have f16 : r ≠ g3 := fun e => R3.rt (by simp [Value.ownBlock, e])
  have fin := ref_sets (k := n) (x := .int .i64 1) (y := .int .i64 v) (b := .bool true) R3
  have FIN := (show Hid _ from fin)
  clear hW3 b1 b2 a2 hto R3 hg3 hv3 ht3 fin
  go_wp2
  go_ret
  have s1 := P1.out.2.size
  have s2 := P2.out.2.size
  have foot : ∀ j, RFoot r (.slice (some ⟨g1, 0, none⟩) (n + 1) k1) (.slice (some ⟨g2, 0, none⟩) (n + 1) k2) (.slice (some ⟨g3, 0, none⟩) (n + 1) k3) (.slice p 0 c) j → RFoot r (.slice pg n cg) (.slice pv n cv) (.slice pt n ct) (.slice p 0 c) j ∨ w.heap.size ≤ j := by
    intro j hj
    rcases hj with hj | hj | hj | hj | hj
    · exact .inl (.inl hj)
    · simp [Value.ownBlock] at hj
      subst hj
      exact L1.out.imp (fun h => .inr (.inl h)) (fun h => h)
    · simp [Value.ownBlock] at hj
      subst hj
      exact L2.out.imp (fun h => .inr (.inr (.inl h))) (fun h => by omega)
    · simp [Value.ownBlock] at hj
      subst hj
      exact L3.out.imp (fun h => .inr (.inr (.inr (.inl h)))) (fun h => by omega)
    · exact .inl (.inr (.inr (.inr (.inr hj))))
  have T1 := P1.out.2.mono (G := RFoot r (.slice pg n cg) (.slice pv n cv) (.slice pt n ct) (.slice p 0 c)) (fun j hj => .inl (hj.elim .inl (fun h => .inr (.inl h))))
  have T2 := T1.trans P2.out.2 (fun j hj => .inl (hj.elim .inl (fun h => .inr (.inr (.inl h)))))
  have T3 := T2.trans P3.out.2 (fun j hj => .inl (hj.elim .inl (fun h => .inr (.inr (.inr (.inl h))))))
  exact ⟨rfl, _, _, _, by rw [G1.out, G2.out, G3.out]; exact FIN.out.1, T3.trans FIN.out.2 foot, foot⟩

theorem ref_alloc (v : Int) (w : World) (r : Nat) (F : Nat → Prop) (m : Mod) (h : Ref w r F m) :
    Calls Try.prog 12 #[.pointer (some ⟨r, 0, none⟩), .int .i64 v] w fun e w' =>
      match m.alloc (.int .i64 0) (.int .i64 v) with
      | none => e = .returned (.int .i64 (-1)) ∧ w' = w
      | some (id, m') => e = .returned (.int .i64 id) ∧ ∃ F', Ref w' r F' m' ∧ Turn F w w' ∧ ∀ k, F' k → F k ∨ w.heap.size ≤ k := by
  obtain ⟨vg, vv, vt, vf, hh, ok, rfl⟩ := h
  cases hn : m.take (.int .i64 0) with
  | none =>
    obtain ⟨hf, hl⟩ := Mod.take_none hn
    have ha : m.alloc (.int .i64 0) (.int .i64 v) = none := by simp [Mod.alloc, hn]
    rw [ha]
    exact ref_alloc_full v w r vg vv vt vf m hh hf hl
  | some p =>
    obtain ⟨k, m1⟩ := p
    obtain ⟨t, hm⟩ := ok.mid (by rfl) hn
    have ha : m.alloc (.int .i64 0) (.int .i64 v) = some (((t.gen + 1 : Nat) : Int) * 65536 + k, m1.put k ⟨t.gen + 1, true, .int .i64 v⟩) := by simp [Mod.alloc, hn, hm.genAt]
    rw [ha]
    have ok' := hm.ok (v := .int .i64 v) rfl
    have hk : k < m1.slots.length := (List.getElem?_eq_some_iff.1 hm.at').1
    have hl1 := hm.len
    have hc1 := hm.cap
    have hr1 := hm.room
    rcases Mod.take_cases hn with ⟨init, hf, rfl⟩ | ⟨hf, hne, rfl, rfl⟩
    · refine (ref_alloc_freed v w r vg vv vt vf m init k t hh hf hm.at' hm.low (by omega) (by have h1 := ok.room; have h2 := ok.len; have h3 := ok.cap; rw [hf] at h1; simp at h1; omega)).mono ?_
      rintro e w' ⟨rfl, vf', h1, h2, h3⟩
      refine ⟨by simp, _, ⟨vg, vv, vt, vf', h1, ok', rfl⟩, h2, fun j hj => .inl ?_⟩
      rcases hj with hj | hj | hj | hj | hj
      · exact .inl hj
      · exact .inr (.inl hj)
      · exact .inr (.inr (.inl hj))
      · exact .inr (.inr (.inr (.inl hj)))
      · exact .inr (.inr (.inr (.inr (h3 j hj))))
    · have ht : t = ⟨0, false, .int .i64 0⟩ := by
        have := hm.at'
        simp at this
        exact this.symm
      subst ht
      have hlc := ok.len
      refine (ref_alloc_new v w r vg vv vt vf m hh hf (by omega) ok.cap).mono ?_
      rintro e w' ⟨rfl, vg', vv', vt', h1, h2, h3⟩
      have e : (Mod.put { m with slots := m.slots ++ [⟨0, false, .int .i64 0⟩] } m.slots.length ⟨0 + 1, true, .int .i64 v⟩) = { m with slots := m.slots ++ [⟨1, true, .int .i64 v⟩] } := by
        simp [Mod.put]
      rw [e] at ok' ⊢
      exact ⟨by simp, _, ⟨vg', vv', vt', vf, h1, ok', rfl⟩, h2, h3⟩

end Go.Proofs.Ytfpmbbplgdkogaa
