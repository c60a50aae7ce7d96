/-
  What the reference's Free answers, and what it makes of its memory. No conditions but that its arena is one that calls can make, and that no generation is the last one.
-/
import Derived.Test.YtfpmbbplgdkogaaRefAlloc
namespace Go.Proofs.Ytfpmbbplgdkogaa
open Go.ChangeShapes Go.WideShapes Go.ChangeAt Go.RowKit

theorem ref_free_none (w : World) (r : Nat) (F : Nat → Prop) (m : Mod) (id : Int) (h : Ref w r F m) (hf : m.find id = none) :
    Calls Try.prog 14 #[.pointer (some ⟨r, 0, none⟩), .int .i64 id] w fun e w' => e = .returned (.bool false) ∧ w' = w := by
  have c := ref_find w r F m id h
  have e : m.told id = -1 := by unfold Mod.told; rw [hf]
  rw [e] at c
  clear h hf e
  go_enter Try.func14, Try.ntmps14
  go_wp2_with (go_at_call 16; (with_reducible refine c.mono ?_); rintro e w' ⟨rfl, rfl⟩)
  go_ret
  exact ⟨rfl, rfl⟩

theorem reads_of_own {w : World} {g L c : Nat} {xs : List Nat} (hL : xs.length = L) (h : w.ownsRow 0 3 1 (.slice (some ⟨g, 0, none⟩) L c) L (natsOf xs)) : Reads w (.slice (some ⟨g, 0, none⟩) L c) xs := by
  rcases h.2 with ⟨h1, _⟩ | ⟨g', c', cur, h1, _, hg, h2, h3, h4, h5⟩
  · simp at h1
  · simp at h1
    obtain ⟨rfl, rfl⟩ := h1
    refine ⟨_, c, by rw [hL], by omega, by unfold maxLen at h3; exact h3, .inr ⟨g, 0, cur, rfl, hg, fun j x hx => ?_⟩⟩
    have hj : j < xs.length := (List.getElem?_eq_some_iff.1 hx).1
    have h6 : (cur.toList.take (L * 1))[j]? = (natsOf xs)[j]? := by rw [h5]
    rw [List.getElem?_take, if_pos (by omega)] at h6
    simp only [Nat.zero_add]
    rw [← Array.getElem?_toList, h6]
    simp [natsOf, hx]

/-- The new field of freed slots is stored. -/
theorem ref_fre_new {W w2 : World} {r g c k : Nat} {vg vv vt vf : Value} {gs vs ts : List Value} {xs : List Nat} {cap : Nat} {o : Obj} (h : Raw W r vg vv vt vf gs vs ts xs cap)
    (hown : w2.ownsRow 0 3 1 (.slice (some ⟨g, 0, none⟩) (xs.length + 1) c) (xs.length + 1) (natsOf (k :: xs))) (hgrow : (W.alloc o).grownBy w2 (some W.heap.size)) (hat : W.heap.size ≤ g) :
    w2.heap[r]? = some (.cells #[vg, vv, vt, vf, .int .i64 cap] 30 (0, 0)) ∧
    Raw (w2.setCell ⟨r, 3, none⟩ (.slice (some ⟨g, 0, none⟩) (xs.length + 1) c)) r vg vv vt (.slice (some ⟨g, 0, none⟩) (xs.length + 1) c) gs vs ts (k :: xs) cap ∧
    Turn (fun j => j = r) W (w2.setCell ⟨r, 3, none⟩ (.slice (some ⟨g, 0, none⟩) (xs.length + 1) c)) ∧
    (∀ j, (Value.slice (some ⟨g, 0, none⟩) (xs.length + 1) c).ownBlock = some j → W.heap.size ≤ j) := by
  have hT : Turn NoBlock W w2 := ((Turn.refl _ W).alloc o).grown hgrow (fun j hj => .inr (by injection hj with hj; omega))
  have h2 := h.kept hT (fun _ _ h => h)
  have hr : Reads w2 (.slice (some ⟨g, 0, none⟩) (xs.length + 1) c) (k :: xs) := reads_of_own rfl hown
  have hn : ∀ (v : Value), (∀ j, v.ownBlock = some j → j < W.heap.size) → ∀ j, v.ownBlock = some j → (Value.slice (some ⟨g, 0, none⟩) (xs.length + 1) c).ownBlock ≠ some j := by
    intro v hv j hj e
    simp [Value.ownBlock] at e
    subst e
    have := hv _ hj
    omega
  obtain ⟨h3, h4⟩ := raw_fre h2 hr (hn vg (fun j hj => h.lt (.inr (.inl hj)))) (hn vv (fun j hj => h.lt (.inr (.inr (.inl hj)))))
  refine ⟨h2.head, h3, (hT.mono (fun _ h => h.elim)).trans h4 (fun _ h => .inl h), fun j hj => ?_⟩
  simp [Value.ownBlock] at hj
  omega

set_option maxHeartbeats 2000000 in
theorem ref_free_some (w : World) (r : Nat) (F : Nat → Prop) (m : Mod) (id : Int) (k : Nat) (s : Slot) (h : Ref w r F m) (hf : m.find id = some k) (hs : m.slots[k]? = some s) (hlow : s.gen < 1073741824) :
    Calls Try.prog 14 #[.pointer (some ⟨r, 0, none⟩), .int .i64 id] w fun e w' => e = .returned (.bool true) ∧
      ∃ F', Ref w' r F' (m.free (.int .i64 0) k) ∧ Turn F w w' ∧ ∀ j, F' j → F j ∨ w.heap.size ≤ j := by
  have cf := ref_find w r F m id h
  have e0 : m.told id = k := by unfold Mod.told; rw [hf]
  rw [e0] at cf
  obtain ⟨vg, vv, vt, vf, hh, ok, rfl⟩ := h
  obtain ⟨i3, hi3, hz0, hz1, hz2⟩ := info_parts iinfo3
  obtain ⟨_, _, s', hs', htk, _⟩ := Mod.find_some hf
  rw [hs] at hs'
  simp only [Option.some.injEq] at hs'
  subst hs'
  have hga : m.genAt k = s.gen := by simp [Mod.genAt, hs]
  have OK2 : Hid (m.free (.int .i64 0) k).OK := ok.free' rfl hs htk
  obtain ⟨g1, c1, g2, c2, g3, c3, e1, e2, e3, f4, f5, f6, f7, f8, f9, f10, f11, f12, f13, f14, f15, f16⟩ := raw_slot hh hs
  subst e1 e2 e3
  have a1 := cell_at hh.head 1
  have a2 := cell_at hh.head 2
  simp at a1 a2
  have hfl : m.freed.length ≤ 65536 := by have := ok.room; have := ok.len; have := ok.cap; omega
  -- the two stores
  obtain ⟨t1, t2⟩ := raw_tak_set (j := k) (x := .bool false) hh
  obtain ⟨t3, t4⟩ := raw_val_set (j := k) (x := .int .i64 0) t1
  have hgs : gensOf (m.slots.set k ⟨s.gen, false, .int .i64 0⟩) = gensOf m.slots := by
    rw [gens_set]
    exact set_same (by simp [gensOf, hs])
  have R1 : Raw ((w.setCell ⟨g3, k, none⟩ (.bool false)).setCell ⟨g2, k, none⟩ (.int .i64 0)) r (.slice (some ⟨g1, 0, none⟩) m.slots.length c1) (.slice (some ⟨g2, 0, none⟩) m.slots.length c2) (.slice (some ⟨g3, 0, none⟩) m.slots.length c3) vf (gensOf (m.slots.set k ⟨s.gen, false, .int .i64 0⟩)) (valsOf (m.slots.set k ⟨s.gen, false, .int .i64 0⟩)) (taksOf (m.slots.set k ⟨s.gen, false, .int .i64 0⟩)) m.freed.reverse m.cap := by
    rw [hgs, vals_set, taks_set]
    exact t3
  have T1 : Turn (RFoot r (.slice (some ⟨g1, 0, none⟩) m.slots.length c1) (.slice (some ⟨g2, 0, none⟩) m.slots.length c2) (.slice (some ⟨g3, 0, none⟩) m.slots.length c3) vf) w ((w.setCell ⟨g3, k, none⟩ (.bool false)).setCell ⟨g2, k, none⟩ (.int .i64 0)) :=
    (t2.mono (fun j hj => .inl (.inr (.inr (.inr (.inl (by simp [Value.ownBlock, hj]))))))).trans t4 (fun j hj => .inl (.inr (.inr (.inl (by simp [Value.ownBlock, hj])))))
  have RR := (show Hid _ from R1)
  have TT := (show Hid _ from T1)
  obtain ⟨n, hn⟩ : ∃ n, m.slots.length = n := ⟨_, rfl⟩
  rw [hn] at a1 a2 f4 RR TT ⊢
  have HN : Hid (m.slots.length = n) := hn
  have hmf : m.free (.int .i64 0) k = ⟨m.cap, m.slots.set k ⟨s.gen, false, .int .i64 0⟩, m.freed ++ [k]⟩ := by simp [Mod.free, hga, hlow]
  rw [hmf] at OK2 ⊢
  have hkk : k < 65536 := by have := ok.len; have := ok.cap; omega
  have hrl : m.freed.reverse.length ≤ 65536 := by rw [List.length_reverse]; exact hfl
  have hrev : (m.freed ++ [k]).reverse = k :: m.freed.reverse := by simp
  have HREV : Hid ((m.freed ++ [k]).reverse = k :: m.freed.reverse) := hrev
  obtain ⟨xs, hxs⟩ : ∃ xs, m.freed.reverse = xs := ⟨_, rfl⟩
  rw [hxs] at RR hrl HREV
  clear hh ok hf hs htk t1 t2 t3 t4 hgs R1 T1 e0 hga hmf hrev hn hxs hfl hlow
  go_enter Try.func14, Try.ntmps14
  go_upto_region 6 with (go_at_call 16; (with_reducible refine (same cf).mono ?_); rintro e w' ⟨rfl, rfl⟩)
  obtain ⟨W, hW⟩ : ∃ W, (w.setCell ⟨g3, k, none⟩ (.bool false)).setCell ⟨g2, k, none⟩ (.int .i64 0) = W := ⟨_, rfl⟩
  rw [hW] at RR TT ⊢
  clear hW a1 a2 f5 f6 f7 f8 f9 f10
  have R2 := RR.out
  obtain ⟨p, c, hvf, hl1, hl2, hp⟩ := R2.fre
  have b3 := cell_at R2.head 3
  have hal := lt_of_block R2.head
  simp at b3
  rw [hvf] at b3
  obtain ⟨q, hq⟩ : ∃ q, xs.length = q := ⟨_, rfl⟩
  rw [hq] at b3 hl1 hrl
  have hown0 : (W.alloc (.cells #[.int .i64 (k : Int)] 3)).ownsRow 0 3 1 (.slice (some ⟨W.heap.size, 0, none⟩) 1 1) 1 [.int .i64 (k : Int)] := World.ownsRow_lit W #[.int .i64 (k : Int)] 1 (Nat.zero_le _) (by unfold maxLen; omega) rfl
  have HF : Hid (∀ (w2 : World) (g cc : Nat), w2.ownsRow 0 3 1 (.slice (some ⟨g, 0, none⟩) (1 + q) cc) (1 + q) ([.int .i64 (k : Int)] ++ natsOf xs) → (W.alloc (.cells #[.int .i64 (k : Int)] 3)).grownBy w2 (some W.heap.size) → W.heap.size ≤ g →
      w2.heap[r]? = some (.cells #[.slice (some ⟨g1, 0, none⟩) n c1, .slice (some ⟨g2, 0, none⟩) n c2, .slice (some ⟨g3, 0, none⟩) n c3, vf, .int .i64 m.cap] 30 (0, 0)) ∧
      Hid (∃ F', Ref (w2.setCell ⟨r, 3, none⟩ (.slice (some ⟨g, 0, none⟩) (1 + q) cc)) r F' ⟨m.cap, m.slots.set k ⟨s.gen, false, .int .i64 0⟩, m.freed ++ [k]⟩ ∧ Turn (RFoot r (.slice (some ⟨g1, 0, none⟩) n c1) (.slice (some ⟨g2, 0, none⟩) n c2) (.slice (some ⟨g3, 0, none⟩) n c3) vf) w (w2.setCell ⟨r, 3, none⟩ (.slice (some ⟨g, 0, none⟩) (1 + q) cc)) ∧ ∀ j, F' j → RFoot r (.slice (some ⟨g1, 0, none⟩) n c1) (.slice (some ⟨g2, 0, none⟩) n c2) (.slice (some ⟨g3, 0, none⟩) n c3) vf j ∨ w.heap.size ≤ j)) := by
    intro w2 g cc h1 h2 h3
    have e1 : 1 + q = xs.length + 1 := by omega
    rw [e1] at h1 ⊢
    obtain ⟨p1, p2, p3, p4⟩ := ref_fre_new (k := k) RR.out h1 h2 h3
    have hsz := TT.out.size
    refine ⟨p1, _, ⟨_, _, _, _, by rw [HREV.out]; exact p2, OK2.out, rfl⟩, TT.out.trans p3 (fun j hj => .inl (.inl hj)), fun j hj => ?_⟩
    rcases hj with hj | hj | hj | hj | hj
    · exact .inl (.inl hj)
    · exact .inl (.inr (.inl hj))
    · exact .inl (.inr (.inr (.inl hj)))
    · exact .inl (.inr (.inr (.inr (.inl hj))))
    · exact .inr (by have := p4 j hj; omega)
  have q3 : 1 + q ≤ maxLen := by unfold maxLen; omega
  have q4 : (1 + q) * 8 ≤ 140737488355328 := by omega
  have q2 : ∀ u ∈ natsOf xs, u.oneCell' = true := by
    intro u hu
    simp only [natsOf, List.mem_map] at hu
    obtain ⟨x, _, rfl⟩ := hu
    rfl
  have hnl : (natsOf xs).length = q * 1 := by simp [natsOf, hq]
  rcases hp with ⟨rfl, hx0, hc0⟩ | ⟨gf, off, cur, rfl, hgf, hcur⟩
  · have hq0 : q = 0 := by rw [← hq, hx0]; rfl
    subst hq0
    clear R2 hvf hl1
    subst hc0
    go_wp2_with (at_builtin; refine wpList_append_fits_any _ rfl (.tmp 27) (.tmp 31) 27 rfl 0 3 i3 1 iints hi3 hz1 W.heap.size 1 1 [.int .i64 (k : Int)] rfl hown0 none 0 0 (natsOf xs) rfl hnl (fun _ => ⟨rfl, rfl⟩) (fun ad h => by cases h) q2 (by omega) ?_; intro w2 hown hgrow; obtain ⟨d1, K6⟩ := (Hid.out HF) w2 W.heap.size 1 hown hgrow (Nat.le_refl _); have b1 := cell_at d1 3; have b2 := free_at d1 3; simp at b1; clear hown hgrow d1)
    go_ret
    obtain ⟨F', k1, k2, k3⟩ := K6.out
    exact ⟨rfl, F', k1, k2, k3⟩
  · by_cases hq0 : q = 0
    · subst hq0
      clear R2 hvf
      go_wp2_with (at_builtin; refine wpList_append_fits_any _ rfl (.tmp 27) (.tmp 31) 27 rfl 0 3 i3 1 iints hi3 hz1 W.heap.size 1 1 [.int .i64 (k : Int)] rfl hown0 (some ⟨gf, off, none⟩) 0 c (natsOf xs) rfl hnl (fun h => by cases h) (fun ad _ j u hu => by rw [List.eq_nil_of_length_eq_zero (show (natsOf xs).length = 0 by omega)] at hu; simp at hu) q2 (by omega) ?_; intro w2 hown hgrow; obtain ⟨d1, K6⟩ := (Hid.out HF) w2 W.heap.size 1 hown hgrow (Nat.le_refl _); have b1 := cell_at d1 3; have b2 := free_at d1 3; simp at b1; clear hown hgrow d1)
      go_ret
      obtain ⟨F', k1, k2, k3⟩ := K6.out
      exact ⟨rfl, F', k1, k2, k3⟩
    · have hnews : ∀ (j : Nat) (u : Value), (natsOf xs)[j]? = some u → (W.alloc (.cells #[.int .i64 (k : Int)] 3)).cell? ((⟨gf, off, none⟩ : Addr).add j) = some u := by
        intro j u hu
        have hgf2 : (W.alloc (.cells #[.int .i64 (k : Int)] 3)).heap[gf]? = some (.cells cur 3 (0, 0)) := (Below.heap_alloc W _ gf (lt_of_block hgf)).trans hgf
        rw [add_plain, cell_at hgf2]
        simp only [natsOf, List.getElem?_map, Option.map_eq_some_iff] at hu
        obtain ⟨x, hx, rfl⟩ := hu
        exact hcur j x hx
      have hq1 : 0 < q := by omega
      have HNW := (show Hid _ from hnews)
      clear R2 hvf hcur hnews hq0
      go_wp2_with (at_builtin; refine wpList_append_lies _ rfl (.tmp 27) (.tmp 31) 27 rfl 0 3 i3 _ 1 8 iints hi3 hz0 hz1 hz2 rfl (by decide) (.slice (some ⟨W.heap.size, 0, none⟩) 1 1) 1 [.int .i64 (k : Int)] rfl hown0 ⟨gf, off, none⟩ q c (natsOf xs) rfl hnl (Hid.out HNW) q2 hq1 q3 q4 (Nat.zero_le _) (W.heap.size + 1) (by simp) ?_; intro g cc w2 hown hgrow hat hlt; obtain ⟨d1, K6⟩ := (Hid.out HF) w2 g cc hown hgrow (by rcases hat with h | h; (simp [Value.ownBlock] at h; omega); omega); have b1 := cell_at d1 3; have b2 := free_at d1 3; simp at b1; clear hown hgrow hat d1)
      go_ret
      obtain ⟨F', k1, k2, k3⟩ := K6.out
      exact ⟨rfl, F', k1, k2, k3⟩

end Go.Proofs.Ytfpmbbplgdkogaa
