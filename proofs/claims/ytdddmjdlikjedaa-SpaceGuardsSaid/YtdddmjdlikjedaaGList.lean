/-
  What List answers: a copy of the pieces.
-/
import Derived.Test.YtdddmjdlikjedaaGRest
namespace Go.Proofs.Ytdddmjdlikjedaa
open Go.ChangeShapes Go.WideShapes Go.ChangeAt Go.RowKit Go.Shelf

set_option maxRecDepth 20000 in
theorem clone_any {w : World} {v : Value} {l : List Pc} (h : PRow v l w) (h0 : 0 < l.length) (hm : l.length ≤ 1048576) :
    Calls Try.prog 74 #[v] w fun e w' => ∃ v', e = .returned v' ∧ PRow v' l w' ∧ (∀ j, Blk v' j → w.heap.size ≤ j) ∧ Turn NoBlock w w' := by
  obtain ⟨iv, hiv, hz0, hz1, hz2⟩ := info_parts infoP
  obtain ⟨g, c, hv, hc1, hc2⟩ := h.shape h0
  have t0 : Turn NoBlock w (w.alloc (.cells #[] 61)) := (Turn.refl _ _).alloc _
  obtain ⟨D, c', hv', hcl, -⟩ := cls_of (h.past t0)
  obtain ⟨hl5, h1s, hca⟩ := hcl
  obtain ⟨ad, hD, hca⟩ := hca h0
  rw [hv] at hv'
  simp only [Value.slice.injEq] at hv'
  obtain ⟨hg, -, rfl⟩ := hv'
  rw [hD] at hg
  simp only [Option.some.injEq] at hg
  subst hg
  have hown : PRow (.slice (some ⟨w.heap.size, 0, none⟩) 0 0) [] (w.alloc (.cells #[] 61)) := by
    have hf := full_new w [] [] 0 #[] rfl rfl (by decide)
    exact hf.prow rfl (Nat.le_refl _) rfl
  unfold PRow at hown
  obtain ⟨n, hn⟩ : ∃ n, l.length = n := ⟨_, rfl⟩
  rw [hn] at hl5 hv hm h0 hc1
  have q1 : 0 + n ≤ maxLen := by unfold maxLen; omega
  have q2 : (0 + n) * 40 ≤ 140737488355328 := by omega
  have HN := Lib.hid hn
  subst hv
  clear h hn hD
  have hb : ∀ w, Sem.run Try.prog (binOp .eql 65 (.slice (some ⟨g, 0, none⟩) n c) (.slice none 0 0)) w = .ok (.bool false) w := fun w => by
    first
      | rfl
      | (simp [binOp, run_underlying pieces_s]; done)
      | (unfold binOp; simp [run_underlying pieces_s])
  go_enter Try.func74, Try.ntmps74
  go_wp2_with (at_builtin; refine wpList_append_lies _ rfl (.tmp 5) (.tmp 6) 65 rfl 0 61 iv _ 5 40 pieces_s hiv hz0 hz1 hz2 rfl (by decide) (.slice (some ⟨w.heap.size, 0, none⟩) 0 0) 0 (pcs []) rfl hown ⟨g, 0, none⟩ n c (pcs l) rfl hl5 hca h1s h0 q1 q2 (Nat.zero_le _) _ rfl ?_; intro g1 c1 w1 k1 k2 k3 k4; have K := Lib.hid (And.intro k1 (And.intro k2 k3)); clear k1 k2 k3)
  go_ret
  obtain ⟨k1, k2, k3⟩ := K.out
  refine ⟨_, rfl, ?_, fun j hj => ?_, ?_⟩
  · unfold PRow
    rw [HN.out]
    rw [Nat.zero_add] at k1
    exact k1
  · simp [Blk, Value.ownBlock] at hj
    subst hj
    rcases k3 with k3 | k3
    · simp [Value.ownBlock] at k3; omega
    · rw [k3]; simp
  · have t1 := (Turn.refl (fun j => j = w.heap.size) (w.alloc (.cells #[] 61))).grown k2 (fun k hk => .inl (by simp [Value.ownBlock] at hk; exact hk.symm))
    exact t0.trans t1 (fun j hj => .inr (by omega))
theorem list_any {w : World} {a : Nat} {size most : Int} {v : Value} {l : List Pc} (h : GMem w a size most v l) (h0 : 0 < l.length) (hm : l.length ≤ 1048576) :
    Calls Try.prog 35 #[.pointer (some ⟨a, 0, none⟩)] w fun e w' => ∃ v', e = .returned v' ∧ PRow v' l w' ∧ (∀ j, Blk v' j → w.heap.size ≤ j) ∧ Turn NoBlock w w' := by
  have c2 := h.c2
  have cT := clone_any h.row h0 hm
  clear h h0 hm
  go_enter Try.func35, Try.ntmps35
  go_wp2_with (go_at_call 74; (with_reducible refine cT.mono ?_); rintro e w' ⟨v', rfl, K⟩; have HK := Lib.hid K; clear K)
  go_ret
  exact ⟨_, rfl, HK.out⟩
end Go.Proofs.Ytdddmjdlikjedaa
