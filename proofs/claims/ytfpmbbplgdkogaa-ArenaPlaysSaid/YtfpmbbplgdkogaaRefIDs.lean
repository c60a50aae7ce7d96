/-
  What the reference's IDs tells: the ids of all values, by rising slots. No conditions but that its arena is one that calls can make.
-/
import Derived.Test.YtfpmbbplgdkogaaRefCalls
namespace Go.Proofs.Ytfpmbbplgdkogaa
open Go.ChangeShapes Go.WideShapes Go.ChangeAt Go.RowKit

set_option maxHeartbeats 1000000 in
theorem ref_ids (w : World) (r : Nat) (F : Nat → Prop) (m : Mod) (h : Ref w r F m) :
    Calls Try.prog 20 #[.pointer (some ⟨r, 0, none⟩)] w fun e w' => ∃ v, e = .returned v ∧ Ints v m.ids w' ∧ Turn NoBlock w w' := by
  obtain ⟨vg, vv, vt, vf, hh, ok, rfl⟩ := h
  obtain ⟨ii, hi0, hz0, hz1, hz2⟩ := info_parts iinfo3
  have e1 : (gensOf m.slots).length = m.slots.length := by simp [gensOf]
  have hg := hh.gen
  rw [e1] at hg
  obtain ⟨pg, cg, hvg⟩ := own_slice hg
  have HG : Hid (vg = .slice pg m.slots.length cg) := hvg
  have HH : Hid (Raw w r vg vv vt vf (gensOf m.slots) (valsOf m.slots) (taksOf m.slots) m.freed.reverse m.cap) := hh
  have HO : Hid m.OK := ok
  obtain ⟨n, hn⟩ : ∃ n, m.slots.length = n := ⟨_, rfl⟩
  have HN : Hid (m.slots.length = n) := hn
  have hn1 : n ≤ 65536 := by have := ok.len; have := ok.cap; omega
  clear hvg hh ok hg hn e1
  go_enter Try.func20, Try.ntmps20
  go_wp2
  go_loopg [3, 4] n (fun g u c wr => ∃ i : Nat, i ≤ n ∧ g = n - i ∧ c = .int .i64 i ∧ Hid (St w wr (Blk u) (Ints u (idsUpto m.slots i)) NoBlock Nothing NoBlock Nothing))
  case atStart => exact ⟨0, by omega, by omega, rfl, (St.begin w).step1 (own_ints _ _) (ints_nil _) (Turn.refl _ _) (fun k hk => (blk_nil k hk).elim)⟩
  case round =>
    obtain ⟨i, hi, hgk, rfl, S2⟩ := hrel
    have hh : Raw wr r vg vv vt vf (gensOf m.slots) (valsOf m.slots) (taksOf m.slots) m.freed.reverse m.cap := HH.out.kept S2.out.turn (fun _ _ h => h)
    have c0 := cell_at hh.head 0
    have c2 := cell_at hh.head 2
    simp at c0 c2
    have hvg := HG.out
    rw [HN.out] at hvg
    by_cases hlt : i < n
    · obtain ⟨s, hs⟩ : ∃ s, m.slots[i]? = some s := ⟨m.slots[i]'(by have := HN.out; omega), List.getElem?_eq_getElem (by have := HN.out; omega)⟩
      obtain ⟨g1, k1, g2, k2, g3, k3, f1, f2, f3, _, f5, _, f7, _⟩ := raw_slot hh hs
      rw [f1, HN.out] at c0
      rw [f3, HN.out] at c2
      have hsg := (HO.out.gen i s hs).1
      cases ht : s.taken with
      | false =>
        rw [ht] at f7
        have HE : Hid (idsUpto m.slots (i + 1) = idsUpto m.slots i) := idsUpto_no m.slots i s hs ht
        clear hh hs f1 f2 f3 ht hvg
        go_wp2
        go_roundg (n - (i + 1))
        case measure => omega
        case rel => exact ⟨i + 1, by omega, by omega, by go_num, by rw [HE.out]; exact S2⟩
      | true =>
        rw [ht] at f7
        have HE : Hid (idsUpto m.slots (i + 1) = idsUpto m.slots i ++ [(s.gen : Int) * 65536 + (i : Int)]) := idsUpto_yes m.slots i s hs ht
        have hle := idsUpto_len m.slots i
        obtain ⟨q, hq⟩ : ∃ q, (idsUpto m.slots i).length = q := ⟨_, rfl⟩
        have HQ : Hid ((idsUpto m.slots i).length = q) := hq
        have O3 : wr.ownsRow 0 3 1 u3 q ((idsUpto m.slots i).map (Value.int .i64)) := by
          have := S2.out.n1
          unfold Ints at this
          rw [hq] at this
          exact this
        have q3 : q + 1 ≤ maxLen := by unfold maxLen; omega
        have q4 : (q + 1) * 8 ≤ 140737488355328 := by omega
        have q2 : ∀ u ∈ [Value.int .i64 ((s.gen : Int) * 65536 + (i : Int))], u.oneCell' = true := by
          intro u hu
          simp at hu
          subst hu
          rfl
        clear hh hs f1 f2 f3 ht hvg hle hq
        go_wp2_with (at_builtin; refine wpList_append_lies _ rfl (.tmp 21) (.tmp 32) 27 rfl 0 3 ii _ 1 8 iints hi0 hz0 hz1 hz2 rfl (by decide) u3 q ((idsUpto m.slots i).map (Value.int .i64)) rfl (World.ownsRow.alloc O3 _) ⟨wr.heap.size, 0, none⟩ 1 1 [.int .i64 ((s.gen : Int) * 65536 + (i : Int))] rfl rfl (fun j u hu => World.news_of_block (heap_alloc_new wr _) j u (by simpa using hu)) q2 (by decide) q3 q4 (Nat.zero_le _) (wr.heap.size + 1) (by simp) ?_; intro g4 cc4 w4 hown hgrow hat hlt4; have S4 : Hid (St w w4 (Blk (.slice (some ⟨g4, 0, none⟩) (q + 1) cc4)) (Ints (.slice (some ⟨g4, 0, none⟩) (q + 1) cc4) (idsUpto m.slots (i + 1))) NoBlock Nothing NoBlock Nothing) := (by obtain ⟨r1, r2, r3⟩ := ints_push (Hid.out HQ) hown hgrow hat; rw [← Hid.out HE] at r1; exact (Hid.out S2).step1 (own_ints _ _) r1 r2 r3); clear hown hgrow hat O3)
        go_roundg (n - (i + 1))
        case measure => omega
        case rel => exact ⟨i + 1, by omega, by omega, by go_num, S4⟩
    · obtain rfl : i = n := by omega
      rw [hvg] at c0
      clear hh hvg
      go_wp2
      go_ret
      refine ⟨_, rfl, ?_, S2.out.turn⟩
      have := S2.out.n1
      unfold Mod.ids
      rw [HN.out]
      exact this

end Go.Proofs.Ytfpmbbplgdkogaa
