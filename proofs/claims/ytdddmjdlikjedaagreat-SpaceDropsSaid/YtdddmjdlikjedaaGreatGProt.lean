/-
  What Protect answers, and List of any pieces. No conditions but that the pieces rise and lie in the region, and that arguments are numbers of 64 bits.
-/
import Derived.Test.YtdddmjdlikjedaaGreatGAppAll
namespace Go.Proofs.YtdddmjdlikjedaaGreat
open Go.ChangeShapes Go.WideShapes Go.ChangeAt Go.RowKit Go.Shelf

set_option maxRecDepth 20000 in
theorem clone_all {w : World} {v : Value} {l : List Pc} (h : PRow v l w) (hm : l.length ≤ 1048576) :
    Calls Tryz.prog 40 #[v] w fun e w' => ∃ v', e = .returned v' ∧ PRow v' l w' ∧ (∀ j, Blk v' j → w.heap.size ≤ j) ∧ Turn NoBlock w w' := by
  rcases Nat.eq_zero_or_pos l.length with h0 | h0
  · obtain rfl : l = [] := List.eq_nil_of_length_eq_zero h0
    rcases h.2 with ⟨rfl, _⟩ | ⟨g, c, cur, rfl, _⟩
    · have hb : ∀ w, Sem.run Tryz.prog (binOp .eql 62 (.slice none 0 0) (.slice none 0 0)) w = .ok (.bool true) w := fun w => by
        first
          | rfl
          | (simp [binOp, run_underlying pieces_s]; done)
          | (unfold binOp; simp [run_underlying pieces_s])
      go_enter Tryz.func40, Tryz.ntmps40
      go_wp2
      go_ret
      exact ⟨_, rfl, prow_nil _, fun j hj => (by cases hj), Turn.refl _ _⟩
    · have t0 : Turn NoBlock w (w.alloc (.cells #[] 58)) := (Turn.refl _ _).alloc _
      have hown : PRow (.slice (some ⟨w.heap.size, 0, none⟩) 0 0) [] (w.alloc (.cells #[] 58)) := by
        have hf := full_new w [] [] 0 #[] rfl rfl (by decide)
        exact hf.prow rfl (Nat.le_refl _) rfl
      obtain ⟨v', W', h1, h2, h3, h4⟩ := append_all hown (h.past t0) (by simp)
      have HS := Lib.hid (And.intro h2 (And.intro h3 (And.intro h4 t0)))
      have hb : ∀ w, Sem.run Tryz.prog (binOp .eql 62 (.slice (some ⟨g, 0, none⟩) 0 c) (.slice none 0 0)) w = .ok (.bool false) w := fun w => by
        first
          | rfl
          | (simp [binOp, run_underlying pieces_s]; done)
          | (unfold binOp; simp [run_underlying pieces_s])
      simp only [List.length_nil] at h1
      clear h2 h3 h4 t0 hown h h0
      go_enter Tryz.func40, Tryz.ntmps40
      go_wp2_with (at_builtin; refine Lib.wpList_append_run _ rfl (.tmp 5) (.tmp 6) 62 62 rfl _ _ rfl rfl _ _ (h1 _) ?_)
      go_ret
      obtain ⟨h2, h3, h4, t0⟩ := HS.out
      refine ⟨_, rfl, h2, fun j hj => ?_, t0.trans h4 (fun j hj => .inr ?_)⟩
      · rcases h3 j hj with e | e
        · simp [Blk, Value.ownBlock] at e; omega
        · rw [World.size_alloc] at e; omega
      · simp [Blk, Value.ownBlock] at hj
        omega
  · exact clone_any h h0 hm
theorem list_all {w : World} {a : Nat} {size most : Int} {v : Value} {l : List Pc} (h : GMem w a size most v l) (hm : l.length ≤ 1048576) :
    Calls Tryz.prog 24 #[.pointer (some ⟨a, 0, none⟩)] w fun e w' => ∃ v', e = .returned v' ∧ PRow v' l w' ∧ (∀ j, Blk v' j → w.heap.size ≤ j) ∧ Turn NoBlock w w' := by
  have c2 := h.c2
  have cT := clone_all h.row hm
  clear h hm
  go_enter Tryz.func24, Tryz.ntmps24
  go_wp2_with (go_at_call 40; (with_reducible refine cT.mono ?_); rintro e w' ⟨v', rfl, K⟩; have HK := Lib.hid K; clear K)
  go_ret
  exact ⟨_, rfl, HK.out⟩

/-- What Protect leaves when it changes something. -/
structure ProtIs (w w' : World) (a : Nat) (size most : Int) (v : Value) (l lp : List Pc) (k b : Nat) : Prop where
  ok : ∃ v' lo', lo'.Perm lp ∧ lo'.Pairwise (fun p q => p.at' ≤ q.at') ∧ GMem w' a size most v' (l.take k ++ lo' ++ l.drop b) ∧ ∀ j, GFoot a v' j → GFoot a v j ∨ w.heap.size ≤ j
  turn : Turn (GFoot a v) w w'
/-- On the way: the rows of the parts, the region. -/
structure PrI (B : Nat) (a : Nat) (size most : Int) (v vi vo : Value) (l li lo : List Pc) (w : World) : Prop where
  ri : PRow vi li w
  ro : PRow vo lo w
  gm : GMem w a size most v l
  fi : ∀ j, Blk vi j → B ≤ j
  fo : ∀ j, Blk vo j → B ≤ j
  fg : ∀ j, GFoot a v j → j < B
  ap : ∀ j, Blk vi j → ¬ Blk vo j

end Go.Proofs.YtdddmjdlikjedaaGreat
