/-
  What Free of an arena (i) answers, and what it makes of its memory. No conditions but that the arena is one that calls can make.
-/
import Derived.Test.YtfpmbbplgdkogaaCalls1
import Derived.Deep.RegionLaw
import Derived.Deep.AppendLies
namespace Go.Proofs.Ytfpmbbplgdkogaa
open Go.ChangeShapes Go.WideShapes Go.ChangeAt Go.RowKit

theorem iints : Try.prog.underlying 27 = some (.slice 3) := by kernel_rfl
theorem iinfo3 : (Try.prog.info? 3).map (fun i => (i.zero, i.size, i.bytes)) = some (some (.int .i64 0), 1, 8) := by kernel_rfl

theorem ifree_none (w : World) (a : Nat) (F : Nat → Prop) (m : Mod) (id : Int) (h : iArena w a F m) (hid : id ≤ 9223372036854775807) (hf : m.find id = none) :
    Calls Try.prog 13 #[.pointer (some ⟨a, 0, none⟩), .int .i64 id] w fun e w' => e = .returned (.int .i64 (-25)) ∧ ∃ n, w' = w.drewN n := by
  obtain ⟨vs, vf, hh, ok, rfl⟩ := h
  have c := ifind_none w a vs vf m id hh hid hf
  clear hh ok hf
  go_enter Try.func13, Try.ntmps13
  go_wp2_with (go_at_call 33; (with_reducible refine c.mono ?_); rintro e w' ⟨rfl, n, rfl⟩)
  go_ret
  exact ⟨rfl, n, rfl⟩

/-- Behind the first two statements of the way on which there is a value. -/
theorem ifree_mid {w : World} {a k g n c : Nat} {vf : Value} {m : Mod} {t : Slot} {r : Int} (nn : Nat) (h : Holds w 57 61 3 a (.slice (some ⟨g, 0, none⟩) n c) vf m) (ht : m.slots[k]? = some t) (htk : t.taken = true) (hr : (t.gen : Int) = r) :
    ∃ W : World, (((((w.drewN nn).setCell ⟨g, k * 3, none⟩ (.int .i64 r)).setCell ⟨g, k * 3 + 1, none⟩ (.bool false)).setCell ⟨g, k * 3 + 2, none⟩ (.int .i64 0)).setCell ⟨a, 3, none⟩ (.int .i64 (m.count - 1))) = W ∧
      Holds W 57 61 3 a (.slice (some ⟨g, 0, none⟩) n c) vf { m with slots := m.slots.set k ⟨t.gen, false, (.int .i64 0)⟩ } ∧
      Turn (Foot a (.slice (some ⟨g, 0, none⟩) n c) vf) w W := by
  subst hr
  have hcs := count_set m.slots k ⟨t.gen, false, (.int .i64 0)⟩ t ht
  simp [htk] at hcs
  have st := step_count (w := w.drewN nn) (s := ⟨t.gen, false, (.int .i64 0)⟩) (z := (m.count : Int) - 1) ⟨h.head, h.slots, h.freed⟩ ht (by decide) (by decide) (by decide) (by simp only [Mod.count]; omega) rfl
  exact ⟨_, rfl, st.1, ((Turn.refl _ w).drewN nn).trans st.2 (fun _ h => .inl h)⟩

theorem ifree_old (w : World) (a : Nat) (vs vf : Value) (m : Mod) (id : Int) (k : Nat) (s : Slot) (h : Holds w 57 61 3 a vs vf m) (ok : m.OK) (hid : id ≤ 9223372036854775807) (hf : m.find id = some k) (hs : m.slots[k]? = some s) (hlow : ¬ s.gen < 1073741824) :
    Calls Try.prog 13 #[.pointer (some ⟨a, 0, none⟩), .int .i64 id] w fun e w' => e = .returned (.int .i64 0) ∧
      Holds w' 57 61 3 a vs vf { m with slots := m.slots.set k ⟨s.gen, false, (.int .i64 0)⟩ } ∧ Turn (Foot a vs vf) w w' := by
  obtain ⟨_, _, s', hs', htk, _⟩ := Mod.find_some hf
  rw [hs] at hs'
  simp only [Option.some.injEq] at hs'
  subst hs'
  have hcnt2 : 1 ≤ m.count := by
    have hcs := count_set m.slots k ⟨s.gen, false, s.val⟩ s hs
    simp [htk] at hcs
    simp only [Mod.count]
    omega
  have hcnt : m.count < 65537 := by have := ok.room; have := ok.len; have := ok.cap; omega
  have hsg := (ok.gen k s hs).1
  obtain ⟨g, n, c, rfl, f1, f2, f3, f4, f5, f6, f7, f8, f9, f10, f11, f12, f13⟩ := mid_facts h hs (by decide)
  have c1 := ifind_some w a vf m id k g n c h hid hf
  obtain ⟨r, hr⟩ : ∃ r : Int, (s.gen : Int) = r := ⟨_, rfl⟩
  have mid := fun nn => ifree_mid nn h hs htk hr
  have G : Hid (∀ nn, ∃ W : World, (((((w.drewN nn).setCell ⟨g, k * 3, none⟩ (.int .i64 r)).setCell ⟨g, k * 3 + 1, none⟩ (.bool false)).setCell ⟨g, k * 3 + 2, none⟩ (.int .i64 0)).setCell ⟨a, 3, none⟩ (.int .i64 (m.count - 1))) = W ∧
      Holds W 57 61 3 a (.slice (some ⟨g, 0, none⟩) n c) vf { m with slots := m.slots.set k ⟨s.gen, false, (.int .i64 0)⟩ } ∧
      Turn (Foot a (.slice (some ⟨g, 0, none⟩) n c) vf) w W) := mid
  have hr1 : 1073741824 ≤ r := by omega
  have hr2 : r ≤ 1073741824 := by omega
  rw [hr] at f5
  clear h ok hf hs htk hr mid hlow hsg
  go_enter Try.func13, Try.ntmps13
  go_wp2_with (go_at_call 33; (with_reducible refine c1.mono ?_); rintro e w' ⟨rfl, nn, rfl⟩)
  go_ret
  obtain ⟨W, hW, h1, h2⟩ := G.out nn
  rw [hW]
  exact ⟨rfl, h1, h2⟩

theorem ifree_tail {W w1 : World} {a k fl fc g2 fc2 : Nat} {p : Option Addr} {vs vf : Value} {m2 : Mod} {xs : List Value} {o : Obj} (h : Holds W 57 61 3 a vs vf m2) (hvf : vf = .slice p fl fc) (hfl : m2.freed.length = fl) (hxs : natsOf m2.freed = xs)
    (hown : w1.ownsRow 0 3 1 (.slice (some ⟨g2, 0, none⟩) (fl + 1) fc2) (fl + 1) (xs ++ [.int .i64 k])) (hgrow : (W.drew.alloc o).grownBy w1 (Value.slice p fl fc).ownBlock) :
    w1.cell? ⟨a, 2, none⟩ = some (.slice p fl fc) ∧ w1.frozen? ⟨a, 2, none⟩ = false ∧
    Hid (Holds (w1.setCell ⟨a, 2, none⟩ (.slice (some ⟨g2, 0, none⟩) (fl + 1) fc2)) 57 61 3 a vs (.slice (some ⟨g2, 0, none⟩) (fl + 1) fc2) { m2 with freed := m2.freed ++ [k] } ∧
      Turn (Foot a vs vf) W (w1.setCell ⟨a, 2, none⟩ (.slice (some ⟨g2, 0, none⟩) (fl + 1) fc2))) := by
  subst hfl hxs
  rw [← hvf] at hgrow
  obtain ⟨hA, hB, hC⟩ := step_push h (by decide) (by decide) (by decide) hown hgrow
  refine ⟨?_, free_at hA 2, hB, hC⟩
  rw [cell_at hA 2, ← hvf]
  simp

theorem ifree_low (w : World) (a : Nat) (vs vf : Value) (m : Mod) (id : Int) (k : Nat) (s : Slot) (h : Holds w 57 61 3 a vs vf m) (ok : m.OK) (hid : id ≤ 9223372036854775807) (hf : m.find id = some k) (hs : m.slots[k]? = some s) (hlow : s.gen < 1073741824) :
    Calls Try.prog 13 #[.pointer (some ⟨a, 0, none⟩), .int .i64 id] w fun e w' => e = .returned (.int .i64 0) ∧
      ∃ vf1, (∀ j, vf1.ownBlock = some j → vf.ownBlock = some j ∨ w.heap.size ≤ j) ∧ Holds w' 57 61 3 a vs vf1 { m with slots := m.slots.set k ⟨s.gen, false, (.int .i64 0)⟩, freed := m.freed ++ [k] } ∧ Turn (Foot a vs vf) w w' := by
  obtain ⟨i, hi, hz0, hz1, hz2⟩ := info_parts iinfo3
  obtain ⟨h0, hk, s', hs', htk, _⟩ := Mod.find_some hf
  rw [hs] at hs'
  simp only [Option.some.injEq] at hs'
  subst hs'
  have hcnt2 : 1 ≤ m.count := by
    have hcs := count_set m.slots k ⟨s.gen, false, s.val⟩ s hs
    simp [htk] at hcs
    simp only [Mod.count]
    omega
  have hcnt : m.count < 65537 := by have := ok.room; have := ok.len; have := ok.cap; omega
  have hfl : m.freed.length < 65537 := by have := ok.room; have := ok.len; have := ok.cap; omega
  obtain ⟨g, n, c, rfl, f1, f2, f3, f4, f5, f6, f7, f8, f9, f10, f11, f12, f13⟩ := mid_facts h hs (by decide)
  have c1 := ifind_some w a vf m id k g n c h hid hf
  have c2 := fun w => slot_yes id w h0 hid
  simp only [hk] at c2
  obtain ⟨r, hr⟩ : ∃ r : Int, (s.gen : Int) = r := ⟨_, rfl⟩
  have mid := fun nn => ifree_mid nn h hs htk hr
  have G : Hid (∀ nn, ∃ W : World, (((((w.drewN nn).setCell ⟨g, k * 3, none⟩ (.int .i64 r)).setCell ⟨g, k * 3 + 1, none⟩ (.bool false)).setCell ⟨g, k * 3 + 2, none⟩ (.int .i64 0)).setCell ⟨a, 3, none⟩ (.int .i64 (m.count - 1))) = W ∧
      Holds W 57 61 3 a (.slice (some ⟨g, 0, none⟩) n c) vf { m with slots := m.slots.set k ⟨s.gen, false, (.int .i64 0)⟩ } ∧
      Turn (Foot a (.slice (some ⟨g, 0, none⟩) n c) vf) w W) := mid
  have hr1 : r < 1073741824 := by omega
  have hr2 : 0 ≤ r := by omega
  rw [hr] at f5
  have hk' : k < 65536 := by omega
  clear h ok hf hs htk hr mid hlow hk h0
  go_enter Try.func13, Try.ntmps13
  go_wp2_with (go_at_call 33; (with_reducible refine c1.mono ?_); rintro e w' ⟨rfl, nn, rfl⟩)
  obtain ⟨W, hW, h1, h2⟩ := G.out nn
  rw [hW]
  clear hW G f1 f2 f3 f4 f5 f6 f7 f8 f9 f10 f11 f12 f13 c1 hr1 hr2 hcnt hcnt2
  obtain ⟨p, fc, hvf⟩ := own_slice h1.freed
  have hfo := h1.freed
  have e1 := cell_at h1.head 2
  have e2 := free_at h1.head 2
  have e3 := lt_of_block h1.head
  simp at e1
  rw [hvf] at e1 hfo
  obtain ⟨fl, hfle⟩ : ∃ fl, m.freed.length = fl := ⟨_, rfl⟩
  obtain ⟨xs, hxs⟩ : ∃ xs, natsOf m.freed = xs := ⟨_, rfl⟩
  simp only [hfle, hxs] at e1 hfo
  have K1 : Hid (vf = .slice p fl fc) := by rw [← hfle]; exact hvf
  have K2 : Hid (m.freed.length = fl) := hfle
  have K3 : Hid (natsOf m.freed = xs) := hxs
  have K4 : Hid (Holds W 57 61 3 a (.slice (some ⟨g, 0, none⟩) n c) vf { m with slots := m.slots.set k ⟨s.gen, false, (.int .i64 0)⟩ }) := h1
  have K5 : Hid (Turn (Foot a (.slice (some ⟨g, 0, none⟩) n c) vf) w W) := h2
  rw [hfle] at hfl
  have q2 : ∀ u ∈ [Value.int .i64 (k : Int)], u.oneCell' = true := by
    intro u hu
    simp at hu
    subst hu
    rfl
  have q3 : fl + 1 ≤ maxLen := by unfold maxLen; omega
  have q4 : (fl + 1) * 8 ≤ 140737488355328 := by omega
  clear hvf hfle hxs h1 h2 hfl
  go_region_law (first | (refine step_append_lies _ rfl (.tmp 34) (.tmp 37) 27 rfl 0 3 i _ 1 8 iints hi hz0 hz1 hz2 rfl (by decide) (.slice p fl fc) fl xs (by simp [Act.eval]) (World.ownsRow.alloc hfo _) ⟨W.heap.size, 0, none⟩ 1 1 [.int .i64 k] (by simp [Act.eval]) rfl (fun j u hu => World.news_of_block (heap_alloc_new W.drew _) j u (by simpa using hu)) q2 (by decide) q3 q4 (Nat.zero_le _) (W.heap.size + 1) (by simp) ?_; intro g2 fc2 w1 hown hgrow hat hlt; obtain ⟨d1, d2, K6⟩ := ifree_tail (Hid.out K4) (Hid.out K1) (Hid.out K2) (Hid.out K3) hown hgrow; have K7 : Hid ((Value.slice p fl fc).ownBlock = some g2 ∨ g2 = W.heap.size + 1) := hat; clear hown hgrow hat) | (go_simp; go_at_call 24; (with_reducible refine (c2 _).mono ?_); rintro e w' ⟨rfl, rfl⟩))
  all_goals go_wp2
  all_goals go_ret
  all_goals
    refine ⟨rfl, .slice (some ⟨g2, 0, none⟩) (fl + 1) fc2, ?_, K6.out.1, K5.out.trans K6.out.2 (fun _ h => .inl h)⟩
    intro j hj
    simp [Value.ownBlock] at hj
    subst hj
    have h5 := K5.out.size
    rcases K7.out with h7 | h7
    · left
      rw [K1.out]
      exact h7
    · right
      omega

theorem ifree_some (w : World) (a : Nat) (F : Nat → Prop) (m : Mod) (id : Int) (k : Nat) (h : iArena w a F m) (hid : id ≤ 9223372036854775807) (hf : m.find id = some k) :
    Calls Try.prog 13 #[.pointer (some ⟨a, 0, none⟩), .int .i64 id] w fun e w' => e = .returned (.int .i64 0) ∧
      ∃ F', iArena w' a F' (m.free (.int .i64 0) k) ∧ Turn F w w' ∧ ∀ j, F' j → F j ∨ w.heap.size ≤ j := by
  obtain ⟨vs, vf, hh, ok, rfl⟩ := h
  obtain ⟨h0, hk, s, hs, htk, _⟩ := Mod.find_some hf
  have hg : m.genAt k = s.gen := by simp [Mod.genAt, hs]
  have ok' := ok.free' (z := (.int .i64 0)) rfl hs htk
  by_cases hlow : s.gen < 1073741824
  · refine (ifree_low w a vs vf m id k s hh ok hid hf hs hlow).mono ?_
    rintro e w' ⟨rfl, vf1, h1, h2, h3⟩
    refine ⟨rfl, Foot a vs vf1, ⟨vs, vf1, ?_, ok', rfl⟩, h3, ?_⟩
    · simpa [Mod.free, hg, hlow] using h2
    · intro j hj
      rcases hj with hj | hj | hj
      · exact .inl (.inl hj)
      · exact .inl (.inr (.inl hj))
      · rcases h1 j hj with h4 | h4
        · exact .inl (.inr (.inr h4))
        · exact .inr h4
  · refine (ifree_old w a vs vf m id k s hh ok hid hf hs hlow).mono ?_
    rintro e w' ⟨rfl, h2, h3⟩
    refine ⟨rfl, Foot a vs vf, ⟨vs, vf, ?_, ok', rfl⟩, h3, fun j hj => .inl hj⟩
    simpa [Mod.free, hg, hlow] using h2

end Go.Proofs.Ytfpmbbplgdkogaa
