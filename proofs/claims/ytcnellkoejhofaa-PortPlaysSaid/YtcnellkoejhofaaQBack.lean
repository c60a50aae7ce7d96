/-
  takeBack and Cancel in a law's state. No conditions but that the object is a number of 64 bits.
-/
import Derived.Test.YtcnellkoejhofaaQTell
import Derived.BigRegion
namespace Go.Proofs.Ytcnellkoejhofaa
open Go.ChangeShapes Go.WideShapes Go.ChangeAt Go.RowKit

/-- The packets that are not of this object with this key. -/
def backL (Q : List Pk) (o k : Int) : List Pk := Q.filter (fun p => !backP o k p)
def backN (Q : List Pk) (o k : Int) : Nat := (Q.filter (fun p => backP o k p)).length
theorem back_len (Q : List Pk) (o k : Int) : (backL Q o k).length + backN Q o k = Q.length := by
  have := two_parts (fun p : Pk => backP o k p) Q
  unfold backL backN
  omega
theorem back_users (Q : List Pk) (o k : Int) : usersN (backL Q o k) = usersN Q := by
  unfold usersN backL backP
  induction Q with
  | nil => rfl
  | cons p r ih =>
    by_cases h0 : p.s = 0
    · simp [h0] at ih ⊢
      exact ih
    · cases h1 : (p.s == o) <;> cases h2 : (p.k == k) <;> simp [h0, h1, h2] at ih ⊢ <;> exact ih
section
variable {w0 w w' : World} {c b : Nat} {depth most : Int} {Q Q' : List Pk} {Ws Ws' : List Wc} {v v' : Value} {V V' : Int → Value} {K K' : List Int} {X Y : Nat → Prop}
set_option maxRecDepth 20000 in
set_option maxHeartbeats 1000000 in
theorem PSt.back (h : PSt w0 w c depth most Q Ws X) (o k : Int) : Calls Try.prog 34 #[.pointer (some ⟨c, 0, none⟩), .int .i64 o, .int .i64 k] w fun x w' => x = .returned (.int .i64 (backN Q o k : Int)) ∧ PSt w0 w' c depth most (backL Q o k) Ws X ∧ Kp X w w' := by
  obtain ⟨v, b, V, K, h1, h4, h5⟩ := h.ex
  have HF := Lib.hid (And.intro h (And.intro h1 (And.intro h4 h5)))
  obtain ⟨W1, hW1⟩ : ∃ W1, w.alloc (.cells #[.int .i64 o] 3) = W1 := ⟨_, rfl⟩
  obtain ⟨W2, hW2⟩ : ∃ W2, W1.alloc (.cells #[.int .i64 k] 3) = W2 := ⟨_, rfl⟩
  have t1 : Turn NoBlock w W1 := by rw [← hW1]; exact (Turn.refl _ w).alloc _
  have t2 : Turn NoBlock W1 W2 := by rw [← hW2]; exact (Turn.refl _ _).alloc _
  have hs1 : W1.heap.size = w.heap.size + 1 := by rw [← hW1]; simp
  have ba : W2.cell? ⟨w.heap.size, 0, none⟩ = some (.int .i64 o) := t2.cell (by rw [← hW1]; exact World.cell?_alloc_new w _ _ 0) (fun h => h)
  have bb : W2.cell? ⟨w.heap.size + 1, 0, none⟩ = some (.int .i64 k) := by rw [← hW2, ← hs1]; exact World.cell?_alloc_new W1 _ _ 0
  have g1 := h1.past (TT t1 t2)
  have c2 := g1.hd.c2
  have hvb : ¬ Blk v w.heap.size ∧ ¬ Blk v (w.heap.size + 1) := ⟨fun hk => by have := WRow.lt h1.row hk; omega, fun hk => by have := WRow.lt h1.row hk; omega⟩
  have hcb : w.heap.size ≠ c ∧ w.heap.size + 1 ≠ c := by have := h1.hd.typ.lt; omega
  have hql := h.ok.qlen
  have CD := Lib.hid (fun W (t : Turn NoBlock W2 W) => delete_p W v Q 39 #[.pointer (some ⟨w.heap.size, 0, none⟩), .pointer (some ⟨w.heap.size + 1, 0, none⟩)] (backP o k) (g1.past t).row Try.call39
    (fun W' p _ hT => clos_back W' p w.heap.size (w.heap.size + 1) o k (hT.cell (t.cell ba (fun h => h)) hvb.1) (hT.cell (t.cell bb (fun h => h)) hvb.2)) (by omega))
  have hbl := back_len Q o k
  have hbu := back_users Q o k
  have FIN := Lib.hid (fun (W : World) (v' : Value) (t : Turn NoBlock W2 W) (W3 : World) (hr : PRow v' (backL Q o k) W3) (tt : Turn (Blk v) W W3) (hb : ∀ j, Blk v' j → Blk v j) => show W3.cell? ⟨c, 2, none⟩ = some v ∧ W3.frozen? ⟨c, 2, none⟩ = false ∧ (W3.setCell ⟨c, 2, none⟩ v').cell? ⟨c, 2, none⟩ = some v' ∧ (W3.setCell ⟨c, 2, none⟩ v').cell? ⟨w.heap.size, 0, none⟩ = some (.int .i64 o) ∧ PSt w0 (W3.setCell ⟨c, 2, none⟩ v') c depth most (backL Q o k) Ws X ∧ Kp X w (W3.setCell ⟨c, 2, none⟩ v') from by
    have g2 := g1.past t
    have hd3 := g2.hd.kept tt g2.vc
    have tc := turn_c W3 c 2 v'
    have tot : Turn (PFoot c v b V) w (W3.setCell ⟨c, 2, none⟩ v') := ((TU (TT t1 (TT t2 t))).trans (tt.mono (G := PFoot c v b V) (fun _ hk => .inl (.inr (.inl hk)))) (fun _ h => .inl h)).trans (tc.mono (G := PFoot c v b V) (fun _ hk => .inl (.inl hk))) (fun _ h => .inl h)
    have hd4 := hd3.set2 v'
    refine ⟨hd3.c2, hd3.typ.free 2, hd4.c2, tc.cell (tt.cell (t.cell ba (fun h => h)) hvb.1) hcb.1, ?_⟩
    refine pst_made h h1 h4 h5 (v' := v') (V' := V) (K' := K) ⟨?_, ?_, ?_⟩ ⟨h.ok.dep, h.ok.mst, by rw [hbu]; exact h.ok.users, ?_, h.ok.objs⟩ (fun j hj => .inl (hb j hj)) (fun i j hj => .inl hj) tot
    · rw [hbu]; exact hd4
    · exact hr.kept tc (fun j hj e => g2.vc (e ▸ hb j hj))
    · exact (g2.wm.kept tt (fun j hj hv => g2.vw hv hj)).kept tc (fun j hj e => g2.cf (e ▸ hj))
    · rw [hbu]
      have := h.ok.fired
      omega)
  obtain ⟨p, cap, hv⟩ := WRow.sl h1.row
  obtain ⟨q, hq⟩ : ∃ q, Q.length = q := ⟨_, rfl⟩
  obtain ⟨r, hr⟩ : ∃ r, (backL Q o k).length = r := ⟨_, rfl⟩
  obtain ⟨n, hn⟩ : ∃ n, backN Q o k = n := ⟨_, rfl⟩
  rw [hq, hr, hn] at hbl
  rw [hq] at hql
  rw [hq] at hv
  subst hv
  have HR := Lib.hid hr
  rw [hn]
  clear h h1 h4 h5 t1 t2 bb g1 hvb hcb hbu hq hr hn
  go_enter Try.func34, Try.ntmps34
  go_wp2_with (go_at_call 38; (with_reducible refine (CD.out _ (Turn.refl NoBlock W2)).mono ?_); rintro x W3 ⟨v', rfl, r3, t3, b3⟩; obtain ⟨p3, cap3, he3⟩ := WRow.sl r3; obtain ⟨e2, f2, e3, e4, hfin⟩ := FIN.out W2 v' (Turn.refl NoBlock W2) W3 r3 t3 b3; have HFIN := Lib.hid hfin; have he4 := he3.trans (by rw [show ((Q.filter (fun t => !(backP o k t))).length) = r from HR.out]); clear he3 r3 t3 b3 hfin; subst he4)
  go_ret
  exact ⟨ret_int (by omega), HFIN.out⟩
/-- Cancel. -/
def canL (Ws : List Wc) (o k : Int) : List Wc := dropW Ws o (fun t => t.k == k)
def canN (Q : List Pk) (Ws : List Wc) (o k : Int) : Nat := goneN Ws o (fun t => t.k == k) + backN Q o k
def canS (Q : List Pk) (Ws : List Wc) (o k : Int) : Int := if canN Q Ws o k = 0 then -25 else 0
theorem PSt.beside (h : PSt w0 w c depth most Q Ws X) (o : Obj) : PSt w0 (w.alloc o) c depth most Q Ws (fun k => X k ∨ k = w.heap.size) := by
  obtain ⟨v, b, V, K, h1, h4, h5⟩ := h.ex
  have t : Turn NoBlock w (w.alloc o) := (Turn.refl _ w).alloc _
  refine ⟨⟨v, b, V, K, h1.past t, h4, fun k hk => ?_⟩, h.ok, h.turn.trans t (fun _ h => .inl h)⟩
  rcases hk with hk | rfl
  · exact ⟨Nat.lt_of_lt_of_le (h5 k hk).1 t.size, (h5 k hk).2⟩
  · exact ⟨by rw [World.size_alloc]; omega, fun hf => by have := h1.lt hf; omega⟩
theorem PSt.dropS (h : PSt w0 w c depth most Q Ws X) (o : Int) (ho : fit o) (N : Nat) (caps : Array Value) (P : Wc → Bool) (hE : ∀ a W, Sem.run Try.prog (callFunc N a) W = .ok (.enter N a) W)
    (hP : ∀ W t, Kp X w W → Calls Try.prog N (#[t.agg] ++ caps) W fun e w' => e = .returned (.bool (P t)) ∧ Turn NoBlock W w') :
    Calls Try.prog 32 #[.pointer (some ⟨c, 0, none⟩), .int .i64 o, .func (.func N) #[] caps] w fun x w' => x = .returned (.int .i64 (goneN Ws o P : Int)) ∧ PSt w0 w' c depth most Q (dropW Ws o P) X ∧ Kp X w w' := by
  obtain ⟨v, b, V, K, h1, h4, h5⟩ := h.ex
  refine (h1.drop h.ok.wlen o ho N caps P hE (fun W t hT => hP W t ⟨_, hT, fun k hk hk' => (h5 k hk).2 (.inr (.inr (.inr ⟨o, hk'⟩)))⟩)).mono ?_
  rintro x w2 ⟨rfl, V', K', hP, hT, hV⟩
  exact ⟨rfl, pst_made h h1 h4 h5 hP (pok_drop h.ok o P) (fun _ hk => .inl hk) (fun i j hj => .inl (hV i j hj)) hT⟩
set_option maxRecDepth 20000 in
set_option maxHeartbeats 1000000 in
theorem PSt.cancel (h : PSt w0 w c depth most Q Ws X) (o k : Int) (ho : fit o) : Calls Try.prog 19 #[.pointer (some ⟨c, 0, none⟩), .int .i64 o, .int .i64 k] w fun x w' => x = .returned (.int .i64 (canS Q Ws o k)) ∧ PSt w0 w' c depth most (backL Q o k) (canL Ws o k) X ∧ Kp X w w' := by
  obtain ⟨W1, hW1⟩ : ∃ W1, w.alloc (.cells #[.int .i64 k] 3) = W1 := ⟨_, rfl⟩
  have t1 : Turn NoBlock w W1 := by rw [← hW1]; exact (Turn.refl _ w).alloc _
  have bk : W1.cell? ⟨w.heap.size, 0, none⟩ = some (.int .i64 k) := by rw [← hW1]; exact World.cell?_alloc_new w _ _ 0
  have hB := h.beside (.cells #[.int .i64 k] 3)
  rw [hW1] at hB
  have CD := Lib.hid (hB.dropS o ho 33 #[.pointer (some ⟨w.heap.size, 0, none⟩)] (fun t => t.k == k) Try.call33 (fun W t hK => clos_cancel W t w.heap.size k (hK.cell bk (.inr rfl))))
  have BK := Lib.hid bk
  have HT := Lib.hid t1
  have hgl : goneN Ws o (fun t => t.k == k) ≤ 65536 := by
    have := dropW_len Ws o (fun t => t.k == k)
    have := h.ok.wlen
    unfold goneN
    omega
  have hbl : backN Q o k ≤ 131072 := by have := back_len Q o k; have := h.ok.qlen; omega
  have hS : canS Q Ws o k = if goneN Ws o (fun t => t.k == k) + backN Q o k = 0 then -25 else 0 := rfl
  rw [hS]
  obtain ⟨gn, hgn⟩ : ∃ gn, goneN Ws o (fun t => t.k == k) = gn := ⟨_, rfl⟩
  obtain ⟨bn, hbn⟩ : ∃ bn, backN Q o k = bn := ⟨_, rfl⟩
  have HO := Lib.hid hbn
  rw [hgn] at CD hgl ⊢
  rw [hbn] at hbl ⊢
  have hXs := fun j hj => ((h.ex).elim fun v h => h.elim fun b h => h.elim fun V h => h.elim fun K h => (h.2.2 j hj).1)
  have KF := Lib.hid (fun (wa wb : World) (a : Kp (fun j => X j ∨ j = w.heap.size) W1 wa) (b : Kp (fun j => X j ∨ j = w.heap.size) wa wb) => show Kp X w wb from ((Kp.of_past t1).trans (a.mono (fun j hj => .inl hj)) hXs).trans (b.mono (fun j hj => .inl hj)) hXs)
  clear h t1 hB bk hS hgn hbn ho hXs
  by_cases h0 : gn + bn = 0
  · obtain rfl : gn = 0 := by omega
    obtain rfl : bn = 0 := by omega
    rw [if_pos rfl]
    go_enter Try.func19, Try.ntmps19
    go_wp2_with (first
      | (go_at_call 32; (with_reducible refine CD.out.mono ?_); rintro x w2 ⟨rfl, k2, kp2⟩; have cb := kp2.cell BK.out (.inr rfl); have K2 := Lib.hid (And.intro k2 kp2); clear k2 kp2)
      | (go_at_call 34; (with_reducible refine (K2.out.1.back o k).mono ?_); rintro x w3 ⟨rfl, k3, kp3⟩; rw [HO.out]; have K3 := Lib.hid (And.intro k3 kp3); clear k3 kp3))
    go_ret
    exact ⟨rfl, K3.out.1.fewer (fun j hj => .inl hj), KF.out _ _ K2.out.2 K3.out.2⟩
  · rw [if_neg h0]
    have hgb : (gn : Int) + (bn : Int) ≠ 0 := by omega
    have hgb0 : ((gn : Int) + (bn : Int) == 0) = false := by simpa using hgb
    clear h0 hgb
    go_enter Try.func19, Try.ntmps19
    go_wp2_with (first
      | (go_at_call 32; (with_reducible refine CD.out.mono ?_); rintro x w2 ⟨rfl, k2, kp2⟩; have cb := kp2.cell BK.out (.inr rfl); have K2 := Lib.hid (And.intro k2 kp2); clear k2 kp2)
      | (go_at_call 34; (with_reducible refine (K2.out.1.back o k).mono ?_); rintro x w3 ⟨rfl, k3, kp3⟩; rw [HO.out]; have K3 := Lib.hid (And.intro k3 kp3); clear k3 kp3))
    go_ret
    exact ⟨rfl, K3.out.1.fewer (fun j hj => .inl hj), KF.out _ _ K2.out.2 K3.out.2⟩
end
end Go.Proofs.Ytcnellkoejhofaa
