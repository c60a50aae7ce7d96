/-
  Queue and Take in a law's state. No conditions.
-/
import Derived.Test.YtcnellkoejhofaaQOps
import Derived.BigRegion
namespace Go.Proofs.Ytcnellkoejhofaa
open Go.ChangeShapes Go.WideShapes Go.ChangeAt Go.RowKit

section
variable {w0 w w' : World} {c b : Nat} {depth most : Int} {Q Q' : List Pk} {Ws Ws' : List Wc} {v v' : Value} {V V' : Int → Value} {K K' : List Int} {X Y : Nat → Prop}
/-- A packet more. -/
theorem PM.more (h : PM w c depth most v Q b V Ws K) {u : Int} {p : Pk} (hu : u = (usersN (Q ++ [p]) : Int)) (hh : Hd w' c depth most v' u b (Ws.length : Int)) (hr : PRow v' (Q ++ [p]) w') (t : Turn (fun k => k = c ∨ Blk v k) w w') : PM w' c depth most v' (Q ++ [p]) b V Ws K := by
  subst hu
  exact ⟨hh, hr, h.wm.kept t (fun k hk hc => by
    rcases hc with rfl | hc
    · exact h.cf hk
    · exact h.vw hc hk)⟩
theorem tu_foot {W W' : World} (t : Turn (fun k => k = c ∨ Blk v k) W W') : Turn (PFoot c v b V) W W' := t.mono (fun _ hk => .inl (hk.elim .inl (fun h => .inr (.inl h))))
set_option maxRecDepth 20000 in
set_option maxHeartbeats 1000000 in
theorem PSt.queue (h : PSt w0 w c depth most Q Ws X) (k n : Int) : Calls Try.prog 10 #[.pointer (some ⟨c, 0, none⟩), .int .i64 k, .int .i64 n] w fun x w' => x = .returned (.int .i64 (queS depth Q)) ∧ PSt w0 w' c depth most (queL depth Q k n) Ws X ∧ Kp X w w' := by
  obtain ⟨v, b, V, K, h1, h4, h5⟩ := h.ex
  have c0 := (h1.hd.past (Turn.refl NoBlock w).drew).c0
  have c3 := (h1.hd.past (Turn.refl NoBlock w).drew).c3
  have hul := h.ok.ulen
  have HF := Lib.hid (And.intro h (And.intro h1 (And.intro h4 h5)))
  unfold queS queL
  by_cases hu : (usersN Q : Int) = depth
  · rw [if_pos hu, if_pos hu]
    have hq : ((usersN Q : Int) == depth) = true := by simp [hu]
    generalize (usersN Q : Int) = u at *
    clear h h1 h4 h5 hu
    go_enter Try.func10, Try.ntmps10
    go_wp2
    go_region
    go_wp2
    go_ret
    exact ⟨rfl, HF.out.1.past (Turn.refl _ w).drew, Kp.of_past (Turn.refl _ w).drew⟩
  · rw [if_neg hu, if_neg hu]
    have hq : ((usersN Q : Int) == depth) = false := by simp [hu]
    obtain ⟨W, hW⟩ : ∃ W, w.drew.setCell ⟨c, 3, none⟩ (.int .i64 ((usersN Q : Int) + 1)) = W := ⟨_, rfl⟩
    have hh : Hd W c depth most v ((usersN Q : Int) + 1) b (Ws.length : Int) := by rw [← hW]; exact (h1.hd.past (Turn.refl NoBlock w).drew).set3 _
    have tW : Turn (fun k => k = c) w W := by rw [← hW]; exact (TU (F := fun k => k = c) (Turn.refl NoBlock w).drew).trans (turn_c _ _ _ _) (fun k hk => .inl hk)
    have f3 := (h1.hd.past (Turn.refl NoBlock w).drew).typ.free 3
    have hrW : PRow v Q W := h1.row.kept tW (fun k hk e => h1.vc (e ▸ hk))
    have CA := Lib.hid (add_any hh hrW ⟨k, 0, n⟩ (by have := h.ok.qlen; omega))
    have hus : ((usersN Q : Int) + 1) = (usersN (Q ++ [⟨k, 0, n⟩]) : Int) := by rw [usersN_push]; simp
    have HU := Lib.hid (And.intro hus (And.intro tW hu))
    have hub : 0 ≤ (usersN Q : Int) ∧ (usersN Q : Int) ≤ 65536 := by omega
    unfold Pk.agg at CA
    generalize hgu : (usersN Q : Int) = u at *
    have HGU := Lib.hid hgu
    clear h h1 h4 h5 hu hh hrW hus tW hul hgu
    obtain ⟨hub0, hub1⟩ := hub
    go_enter Try.func10, Try.ntmps10
    go_wp2
    go_region
    go_wp2_with (go_at_call 27; (with_reducible refine CA.out.mono ?_); rintro x w2 ⟨rfl, v', h2, r2, b2, t2⟩; have H2 := Lib.hid (And.intro h2 (And.intro r2 (And.intro b2 t2))); clear h2 r2 b2 t2)
    go_ret
    obtain ⟨hF, g1, g4, g5⟩ := HF.out
    have tt : Turn (fun k => k = c ∨ Blk v k) w w2 := (HU.out.2.1.mono (G := fun k => k = c ∨ Blk v k) (fun k hk => .inl (.inl hk))).trans H2.out.2.2.2 (fun k hk => .inl hk)
    refine ⟨rfl, pst_made hF g1 g4 g5 (g1.more HU.out.1 H2.out.1 H2.out.2.1 tt) ⟨hF.ok.dep, hF.ok.mst, ?_, ?_, hF.ok.objs⟩ (fun k hk => (H2.out.2.2.1 k hk).imp id (fun e => Nat.le_trans HU.out.2.1.size e)) (fun i k hk => .inl hk) (tu_foot tt)⟩
    · rw [← HU.out.1]; have := hF.ok.users; have := HU.out.2.2; have := HGU.out; omega
    · rw [← HU.out.1, List.length_append]; have := hF.ok.fired; have := HGU.out; simp; omega
end
end Go.Proofs.Ytcnellkoejhofaa
