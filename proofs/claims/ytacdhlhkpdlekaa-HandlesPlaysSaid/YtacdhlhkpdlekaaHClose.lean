/-
  What Close of a table answers, and what it makes of its places. No conditions but that the table is one that calls can make, and that values are numbers of 64 bits.
-/
import Derived.Test.YtacdhlhkpdlekaaHFind2
namespace Go.Proofs.Ytacdhlhkpdlekaa
open Go.ChangeShapes Go.WideShapes Go.ChangeAt Go.RowKit

section
variable {w : World} {a cap : Nat} {vs vf : Value} {ps : List Pl} {fr : List Nat}

set_option maxRecDepth 20000 in
set_option maxHeartbeats 2000000 in
theorem close_no (h : TMem w a vs vf cap ps fr) (hl : ps.length ≤ 65536) (v : Int) (hv : fit v) (hf : findL ps v = none) :
    Calls Try.prog 29 #[.pointer (some ⟨a, 0, none⟩), .int .i64 v] w fun e w' => e = .returned (.tuple #[Ent.zero.agg, .int .i64 (-11)]) ∧ Turn NoBlock w w' := by
  have hM1 := h.past ((Turn.refl NoBlock w).alloc (.cells #[.int .i64 0, .int .i64 0, .int .i64 0] 33))
  have c1 := find_mem hM1 hl v hv
  unfold findI at c1
  rw [hf] at c1
  simp only at c1
  clear h hM1 hf hl
  go_enter Try.func29, Try.ntmps29
  go_wp2_with (go_at_call 42; (with_reducible refine c1.mono ?_); rintro e w1 ⟨rfl, rfl⟩)
  (try simp only [Exit.inBlock, Exit.then])
  refine bodyPost_ret (v := .tuple #[Ent.zero.agg, .int .i64 (-11)]) (by rw [results_cell_tmp rfl]; unfold Ent.agg Ent.zero; go_simp) rfl ⟨rfl, ?_⟩
  repeat' (first | exact Turn.refl _ _ | refine Turn.drew ?_ | refine Turn.alloc ?_ _ | refine Turn.setCell ?_ (.inr (by simp)) _)

theorem fr_len (ok : TOK cap ps fr) : fr.length ≤ ps.length := by
  refine nodup_len ps.length fr ok.once (fun k hk => ?_)
  obtain ⟨p, hp, _⟩ := (ok.free k).1 hk
  exact (List.getElem?_eq_some_iff.1 hp).1

/-- The push of the place that was closed. -/
theorem close_push {g n c k : Nat} {p : Pl} (h : TMem w a (.slice (some ⟨g, 0, none⟩) n c) vf cap ps fr) (ok : TOK cap ps fr) (hp : ps[k]? = some p) (h0 : p.value ≠ 0) :
    Calls Try.prog 45 #[.iface 99 (.pointer (some ⟨a, 2, none⟩)), .iface 3 (.int .i64 k)]
      ((((((w.setCell ⟨g, k * 4, none⟩ (.int .i64 0)).setCell ⟨g, k * 4 + 1, none⟩ (.int .i64 0)).setCell ⟨g, k * 4 + 2, none⟩ (.int .i64 0)).setCell ⟨g, k * 4 + 3, none⟩ (.int .i64 0)).alloc (.cells #[.int .i64 0, .int .i64 0, .int .i64 0] 33)).alloc
        (.cells #[.int .i64 p.e.o, .int .i64 p.e.k, .int .i64 p.e.r] 33)) fun e w4 => e = .returned (.tuple #[]) ∧
      ∃ F', TableAt w4 a F' (padL cap (ps.set k Pl.none)) ∧ Turn (Foot a (.slice (some ⟨g, 0, none⟩) n c) vf) w w4 ∧ (∀ j, F' j → Foot a (.slice (some ⟨g, 0, none⟩) n c) vf j ∨ w.heap.size + 2 ≤ j) ∧
        w4.heap[w.heap.size]? = some (.cells #[.int .i64 0, .int .i64 0, .int .i64 0] 33 (0, 0)) ∧ w4.heap[w.heap.size + 1]? = some (.cells #[.int .i64 p.e.o, .int .i64 p.e.k, .int .i64 p.e.r] 33 (0, 0)) := by
  have hlt := (List.getElem?_eq_some_iff.1 hp).1
  have h1 := TMem.put Pl.none h hlt
  have hsz : ((((w.setCell ⟨g, k * 4, none⟩ (.int .i64 0)).setCell ⟨g, k * 4 + 1, none⟩ (.int .i64 0)).setCell ⟨g, k * 4 + 2, none⟩ (.int .i64 0)).setCell ⟨g, k * 4 + 3, none⟩ (.int .i64 0)).heap.size = w.heap.size := by simp
  change TMem ((((w.setCell ⟨g, k * 4, none⟩ (.int .i64 0)).setCell ⟨g, k * 4 + 1, none⟩ (.int .i64 0)).setCell ⟨g, k * 4 + 2, none⟩ (.int .i64 0)).setCell ⟨g, k * 4 + 3, none⟩ (.int .i64 0)) _ _ _ _ _ _ ∧ Turn _ w ((((w.setCell ⟨g, k * 4, none⟩ (.int .i64 0)).setCell ⟨g, k * 4 + 1, none⟩ (.int .i64 0)).setCell ⟨g, k * 4 + 2, none⟩ (.int .i64 0)).setCell ⟨g, k * 4 + 3, none⟩ (.int .i64 0)) at h1
  generalize (((w.setCell ⟨g, k * 4, none⟩ (.int .i64 0)).setCell ⟨g, k * 4 + 1, none⟩ (.int .i64 0)).setCell ⟨g, k * 4 + 2, none⟩ (.int .i64 0)).setCell ⟨g, k * 4 + 3, none⟩ (.int .i64 0) = W2 at *
  obtain ⟨hM2, hT2⟩ := h1
  have tN : Turn NoBlock W2 ((W2.alloc (.cells #[.int .i64 0, .int .i64 0, .int .i64 0] 33)).alloc (.cells #[.int .i64 p.e.o, .int .i64 p.e.k, .int .i64 p.e.r] 33)) := ((Turn.refl NoBlock W2).alloc _).alloc _
  have b1 : ((W2.alloc (.cells #[.int .i64 0, .int .i64 0, .int .i64 0] 33)).alloc (.cells #[.int .i64 p.e.o, .int .i64 p.e.k, .int .i64 p.e.r] 33)).heap[w.heap.size]? = some (.cells #[.int .i64 0, .int .i64 0, .int .i64 0] 33 (0, 0)) := by
    rw [← hsz, Below.heap_alloc _ _ _ (by simp)]; exact heap_alloc_new W2 _
  have b2 : ((W2.alloc (.cells #[.int .i64 0, .int .i64 0, .int .i64 0] 33)).alloc (.cells #[.int .i64 p.e.o, .int .i64 p.e.k, .int .i64 p.e.r] 33)).heap[w.heap.size + 1]? = some (.cells #[.int .i64 p.e.o, .int .i64 p.e.k, .int .i64 p.e.r] 33 (0, 0)) := by
    have := heap_alloc_new (W2.alloc (.cells #[.int .i64 0, .int .i64 0, .int .i64 0] 33)) (.cells #[.int .i64 p.e.o, .int .i64 p.e.k, .int .i64 p.e.r] 33)
    simpa [hsz] using this
  have hs3 : ((W2.alloc (.cells #[.int .i64 0, .int .i64 0, .int .i64 0] 33)).alloc (.cells #[.int .i64 p.e.o, .int .i64 p.e.k, .int .i64 p.e.r] 33)).heap.size = w.heap.size + 2 := by simp [hsz]
  generalize (W2.alloc (.cells #[.int .i64 0, .int .i64 0, .int .i64 0] 33)).alloc (.cells #[.int .i64 p.e.o, .int .i64 p.e.k, .int .i64 p.e.r] 33) = W3 at *
  have hM3 := hM2.past tN
  have hfl := fr_len ok
  have htop := ok.top
  have hlen := ok.len
  refine (hpush_any hM3.low k (by omega) ok.heap).mono ?_
  rintro e w4 ⟨rfl, g', c', l', hL, hP, hI, hT, hg, hK⟩
  have hFlt : ∀ j, Foot a (.slice (some ⟨g, 0, none⟩) n c) vf j → j < w.heap.size := fun j hj => Foot.lt h hj
  have hsub : ∀ b, (b = a ∨ vf.ownBlock = some b) → Foot a (.slice (some ⟨g, 0, none⟩) n c) vf b := fun b hb => by
    rcases hb with hb | hb
    · exact .inl hb
    · exact .inr (.inr hb)
  refine ⟨rfl, _, ⟨_, _, cap, _, l', TMem.freedNew hM3 hL hT (fun b hb => ?_) hg hK, ok_close ok hp h0 hP hI, rfl, rfl⟩, ?_, ?_, ?_, ?_⟩
  · rcases hb with hb | hb
    · exact .inl hb
    · exact .inr (.inl hb)
  · have t1 : Turn (Foot a (.slice (some ⟨g, 0, none⟩) n c) vf) w W3 := (hT2.mono (fun b hb => .inl (by rw [hb]; exact .inr (.inl rfl)))).trans tN (fun _ h => h.elim)
    exact t1.trans hT (fun b hb => .inl (hsub b hb))
  · intro j hj
    rcases hj with hj | hj | hj
    · exact .inl (.inl hj)
    · exact .inl (.inr (.inl hj))
    · simp [Value.ownBlock] at hj
      subst hj
      rcases hg with hg | hg
      · exact .inl (.inr (.inr hg))
      · right; omega
  · rw [hT.block _ (by omega) (fun hb => by have := hFlt _ (hsub _ hb); omega)]; exact b1
  · rw [hT.block _ (by omega) (fun hb => by have := hFlt _ (hsub _ hb); omega)]; exact b2

set_option maxRecDepth 20000 in
set_option maxHeartbeats 2000000 in
theorem close_yes (h : TMem w a vs vf cap ps fr) (ok : TOK cap ps fr) (v : Int) (hv : fit v) (k : Nat) (p : Pl) (hf : findL ps v = some k) (hp : ps[k]? = some p) (h0 : p.value ≠ 0) :
    Calls Try.prog 29 #[.pointer (some ⟨a, 0, none⟩), .int .i64 v] w fun e w' => e = .returned (.tuple #[p.e.agg, .int .i64 0]) ∧
      ∃ F', TableAt w' a F' (padL cap (ps.set k Pl.none)) ∧ Turn (Foot a vs vf) w w' ∧ ∀ j, F' j → Foot a vs vf j ∨ w.heap.size ≤ j := by
  have hl : ps.length ≤ 65536 := by have := ok.len; have := ok.top; omega
  have hM1 := h.past ((Turn.refl NoBlock w).alloc (.cells #[.int .i64 0, .int .i64 0, .int .i64 0] 33))
  have c1 := find_mem hM1 hl v hv
  unfold findI at c1
  rw [hf] at c1
  simp only at c1
  obtain ⟨g, c, rfl, g1, g2, g3, g4, g5, g6, g7, g8, g9, g10⟩ := h.place hp
  have d1 := h.c1
  have glt := World.block_lt_of_cell? _ _ g6
  have alt := World.block_lt_of_cell? _ _ d1
  have hF := fun j hj => Foot.lt (k := j) h hj
  have HF := Lib.hid hF
  have c2 := close_push h ok hp h0
  generalize ps.length = n at *
  clear h hM1 hf ok hF
  go_enter Try.func29, Try.ntmps29
  go_wp2_with (first
    | (go_at_call 42; (with_reducible refine c1.mono ?_); rintro e w1 ⟨rfl, rfl⟩)
    | (go_at_call 45; (with_reducible refine c2.mono ?_); rintro e w4 ⟨rfl, F', hA, hT, hsub, b1, b2⟩; have HA := Lib.hid (And.intro hA (And.intro hT hsub)); have q1 := cell_at b1 0; have q2 := cell_at b1 1; have q3 := cell_at b1 2; have q4 := free_at b1; have r1 := cell_at b2 0; have r2 := cell_at b2 1; have r3 := cell_at b2 2; simp at q1 q2 q3 r1 r2 r3; have s1 := lt_of_block b1; have s2 := lt_of_block b2; clear hA hT hsub b1 b2))
  (try simp only [Exit.inBlock, Exit.then])
  refine bodyPost_ret (v := .tuple #[p.e.agg, .int .i64 0]) (by rw [results_cell_tmp rfl]; unfold Ent.agg; go_simp) rfl ⟨rfl, F', ?_, ?_, ?_⟩
  · refine (table_own a F' _).kept w4 _ (fun b => b = w.heap.size) HA.out.1 ?_ (fun j hj e => ?_)
    · exact (((Turn.refl (fun b => b = w.heap.size) w4).setCell (p := ⟨w.heap.size, 0, none⟩) (.inl rfl) _).setCell (p := ⟨w.heap.size, 1, none⟩) (.inl rfl) _).setCell (p := ⟨w.heap.size, 2, none⟩) (.inl rfl) _
    · rcases HA.out.2.2 j hj with h1 | h1
      · have := HF.out j h1; omega
      · omega
  · repeat' (first | exact HA.out.2.1 | refine Turn.drew ?_ | refine Turn.setCell ?_ (.inr (by simp)) _)
  · intro j hj
    rcases HA.out.2.2 j hj with h1 | h1
    · exact .inl h1
    · right; omega

theorem close_any {F : Nat → Prop} {L : List Pl} (h : TableAt w a F L) (v : Int) (hv : fit v) :
    Calls Try.prog 29 #[.pointer (some ⟨a, 0, none⟩), .int .i64 v] w fun e w' => e = .returned (.tuple #[(getE L v).agg, .int .i64 (getS L v)]) ∧
      ∃ F', TableAt w' a F' (closeL L v) ∧ Turn F w w' ∧ ∀ j, F' j → F j ∨ w.heap.size ≤ j := by
  obtain ⟨vs, vf, cap, ps, fr, hM, ok, rfl, rfl⟩ := h
  have hl : ps.length ≤ 65536 := by have := ok.len; have := ok.top; omega
  unfold getE getS closeL
  rw [findL_pad]
  cases hf : findL ps v with
  | none =>
    refine (close_no hM hl v hv hf).mono ?_
    rintro e w' ⟨rfl, hT⟩
    exact ⟨rfl, _, ⟨_, _, cap, _, _, hM.past hT, ok, rfl, rfl⟩, hT.mono (fun _ h => h.elim), fun j hj => .inl hj⟩
  | some k =>
    obtain ⟨p, hp, hpv, hv0, -⟩ := findL_some hf
    have hlt := (List.getElem?_eq_some_iff.1 hp).1
    have he : entL (padL cap ps) k = p.e := by rw [entL_pad]; simp [entL, List.getD, hp]
    simp only [he]
    rw [← padL_set _ hlt]
    exact close_yes hM ok v hv k p hf hp (by rw [hpv]; exact hv0)
end
end Go.Proofs.Ytacdhlhkpdlekaa
