/-
  Slice, and Snapshot where it is refused. No conditions but that the set is one that calls can make.
-/
import Derived.Test.YtdhbhigoboamfaaVSlice
namespace Go.Proofs.Ytdhbhigoboamfaa
open Go.ChangeShapes Go.WideShapes Go.ChangeAt Go.RowKit

def sliceS (M : Mod) (i t n : Int) : Int := if winS M i t n ≠ 0 then winS M i t n else match M.O i with | none => 0 | some o => if o.depth = 16 then -2 else if M.most ≤ M.live then -4 else 0
def kid (o : Ob) : Ob := { o with kids := o.kids + 1 }
def kidS (o : Ob) : Ob := { o with kids := o.kids + 1, slc := o.slc + 1 }
def sliceM (M : Mod) (i : Int) (o : Ob) (t n : Int) : Mod := { addM M (newOb n.toNat i.toNat (o.depth + 1) t.toNat) with O := updI (addM M (newOb n.toNat i.toNat (o.depth + 1) t.toNat)).O i (some (kidS o)) }

section
variable {w : World} {s : Nat} {r : Rep} {M : Mod}
theorem bump1 (h : SMem w s r M) {i : Int} {o : Ob} {a : Nat} (hO : M.O i = some o) (hA : r.A i = some a) :
    SMem (w.setCell ⟨a, 2, none⟩ (.int .i64 ((o.kids : Int) + 1))) s r { M with O := updI M.O i (some (kid o)) } ∧ Turn (fun k => k = a) w (w.setCell ⟨a, 2, none⟩ (.int .i64 ((o.kids : Int) + 1))) := by
  obtain ⟨a', pb, hA', hB, hcell, hpm⟩ := h.live hO
  rw [hA] at hA'
  cases hA'
  have t2 : Turn (fun k => k = a) w (w.setCell ⟨a, 2, none⟩ (.int .i64 ((o.kids : Int) + 1))) := (Turn.refl (fun k => k = a) _).setCell (p := ⟨a, 2, none⟩) (.inl rfl) _
  exact ⟨h.setOb (o' := kid o) hA hB t2 (fun k hk => .inl hk) (set_at hcell 2 _) (IMap.past hpm t2 (fun e => h.aB hA hB e.symm)), t2⟩
theorem bump2 (h : SMem w s r M) {i : Int} {o : Ob} {a : Nat} (hO : M.O i = some o) (hA : r.A i = some a) :
    SMem ((w.setCell ⟨a, 2, none⟩ (.int .i64 ((o.kids : Int) + 1))).setCell ⟨a, 3, none⟩ (.int .i64 ((o.slc : Int) + 1))) s r { M with O := updI M.O i (some (kidS o)) } ∧
      Turn (fun k => k = a) w ((w.setCell ⟨a, 2, none⟩ (.int .i64 ((o.kids : Int) + 1))).setCell ⟨a, 3, none⟩ (.int .i64 ((o.slc : Int) + 1))) := by
  obtain ⟨m1, t1⟩ := bump1 h hO hA
  generalize w.setCell ⟨a, 2, none⟩ (.int .i64 ((o.kids : Int) + 1)) = W at *
  obtain ⟨a', pb, hA', hB, hcell, hpm⟩ := m1.live (i := i) (o := kid o) (updI_same _ _ _)
  rw [hA] at hA'
  cases hA'
  have t2 : Turn (fun k => k = a) W (W.setCell ⟨a, 3, none⟩ (.int .i64 ((o.slc : Int) + 1))) := (Turn.refl (fun k => k = a) _).setCell (p := ⟨a, 3, none⟩) (.inl rfl) _
  have m2 := m1.setOb (o' := kidS o) hA hB t2 (fun k hk => .inl hk) (set_at hcell 3 _) (IMap.past hpm t2 (fun e => m1.aB hA hB e.symm))
  simp only [updI_twice] at m2
  exact ⟨m2, t1.trans t2 (fun j hj => .inl hj)⟩

set_option maxRecDepth 20000 in
theorem slice_no (h : SMem w s r M) (hc : Chain M.O) (i t n : Int) (hi : fit i) (ht : fit t) (hn : fit n) (hs : sliceS M i t n ≠ 0) :
    Calls Try.prog 20 #[.pointer (some ⟨s, 0, none⟩), .int .i64 i, .int .i64 t, .int .i64 n] w fun e w' => e = .returned (.tuple #[.int .i64 0, .int .i64 (sliceS M i t n)]) ∧ Turn NoBlock w w' := by
  unfold sliceS at *
  by_cases h1 : winS M i t n ≠ 0
  · rw [if_pos h1]
    have c := window_no h hc i t n hi ht hn h1
    have hb : (winS M i t n == 0) = false := by simpa using h1
    clear h hs hc
    generalize winS M i t n = z at *
    go_enter Try.func20, Try.ntmps20
    go_wp2_with (go_at_call 55; (with_reducible refine c.mono ?_); rintro x w1 ⟨rfl, rfl⟩)
    go_ret2
    exact ⟨rfl, Turn.refl _ _⟩
  · rw [if_neg h1] at hs ⊢
    have h10 := Classical.not_not.1 h1
    have hfind : findS M i = 0 := by
      unfold winS at h10
      by_cases e : findS M i ≠ 0
      · rw [if_pos e] at h10; simp at h10
      · exact Classical.not_not.1 e
    obtain ⟨o, hO, hd⟩ := find_ok hfind
    rw [hO] at hs ⊢
    simp only at hs ⊢
    obtain ⟨a, pb, hA, hB, hcell, hpm⟩ := h.live hO
    have c := window_yes h hc i t n hi hO hA h10
    have d4 := (ocells hcell).c4
    have halt := lt_of_block hcell
    by_cases h2 : o.depth = 16
    · rw [if_pos h2]
      rw [h2] at d4
      clear h hs hc h1 h10 hfind hO hd hA hB hcell hpm
      go_enter Try.func20, Try.ntmps20
      go_wp2_with (go_at_call 55; (with_reducible refine c.mono ?_); rintro x w1 ⟨rfl, rfl⟩)
      go_ret2
      exact ⟨rfl, Turn.refl _ _⟩
    · rw [if_neg h2] at hs ⊢
      by_cases h3 : M.most ≤ M.live
      · rw [if_pos h3]
        have H := Lib.hid (fun ob => h.past ((Turn.refl NoBlock w).alloc ob))
        have H3 := Lib.hid h3
        have hb : ((o.depth : Int) == 16) = false := by simp; omega
        have hdp := (hc.small i o hO).2.2
        have hwr : IntKind.i64.wrap ((o.depth : Int) + 1) = (o.depth : Int) + 1 := wrap_nat (o.depth + 1) (by omega)
        clear h hs hc h1 h10 hfind hO hd hA hB hcell hpm h2 h3
        go_enter Try.func20, Try.ntmps20
        go_wp2_with (first
          | (go_at_call 55; (with_reducible refine c.mono ?_); rintro x w1 ⟨rfl, rfl⟩)
          | (go_at_call 48; (with_reducible refine (add_full (H.out _) _ H3.out).mono ?_); rintro x w2 ⟨rfl, q, rfl⟩))
        go_ret2
        exact ⟨rfl, ((Turn.refl NoBlock w).alloc _).drewN q⟩
      · rw [if_neg h3] at hs
        exact absurd rfl hs

set_option maxRecDepth 20000 in
set_option maxHeartbeats 1000000 in
theorem slice_yes (h : SMem w s r M) (hc : Chain M.O) (i t n : Int) (hi : fit i) {o : Ob} (hO : M.O i = some o) (hs : sliceS M i t n = 0) (hm : M.most ≤ 65536) (hmd : M.made < 4611686018427387904) (hk : o.kids < 4611686018427387904) (hsl : o.slc < 4611686018427387904) :
    Calls Try.prog 20 #[.pointer (some ⟨s, 0, none⟩), .int .i64 i, .int .i64 t, .int .i64 n] w fun e w' => e = .returned (.tuple #[.int .i64 ((M.made : Int) + 1), .int .i64 0]) ∧
      ∃ r', SMem w' s r' (sliceM M i o t n) ∧ VNext w s r w' r' := by
  unfold sliceS at hs
  have h1 : winS M i t n = 0 := by
    by_cases e : winS M i t n ≠ 0
    · rw [if_pos e] at hs; exact hs
    · exact Classical.not_not.1 e
  rw [if_neg (fun e => e h1), hO] at hs
  simp only at hs
  have h2 : ¬ o.depth = 16 := fun e => by rw [if_pos e] at hs; simp at hs
  rw [if_neg h2] at hs
  have h3 : ¬ M.most ≤ M.live := fun e => by rw [if_pos e] at hs; simp at hs
  obtain ⟨a, pb, hA, hB, hcell, hpm⟩ := h.live hO
  have c := window_yes h hc i t n hi hO hA h1
  have d4 := (ocells hcell).c4
  have halt := lt_of_block hcell
  have hids := h.ids i a hA
  have htn : 0 ≤ t ∧ 0 ≤ n := by
    unfold winS at h1
    split at h1
    · simp at h1
    · split at h1
      · simp at h1
      · omega
  have hdp := (hc.small i o hO).2.2
  have t0 : ∀ ob, Turn NoBlock w (w.alloc ob) := fun ob => (Turn.refl NoBlock w).alloc ob
  have hne : i ≠ (M.made : Int) + 1 := by omega
  have eO : (addM M (newOb n.toNat i.toNat (o.depth + 1) t.toNat)).O i = some o := by simp [addM, updI, hne, hO]
  have H := Lib.hid (fun ob (e : ob = .cells (newOb n.toNat i.toNat (o.depth + 1) t.toNat).raw 88 (0, 0)) =>
    (add_yes8 (a := w.heap.size) (h.past (t0 ob)) (by subst e; exact heap_alloc_new w _) (fresh_not h) rfl rfl (by omega) hm hmd).mono fun e w2 hw => by
      obtain ⟨k1, k2, k3⟩ := hw
      have eA : (addR r ((M.made : Int) + 1) w.heap.size (w.alloc ob).heap.size).A i = some a := by simp [addR, updI, hne, hA]
      have nx := addM_next (i := (M.made : Int) + 1) (b := (w.alloc ob).heap.size) h (t0 ob) (Nat.le_refl _) (by simp) k3
      obtain ⟨a2, pb2, g1, g2, g3, g4⟩ := k2.live eO
      rw [eA] at g1
      cases g1
      obtain ⟨b1, b2⟩ := bump2 k2 eO eA
      have oc := ocells g3
      exact (⟨k1, oc.c2, oc.c3, oc.f, _, b1, nx.trans ⟨b2.mono (fun j hj => .inl (.inr (.inr (.inr (.inl ⟨i, by subst hj; exact eA⟩))))), fun j hj => .inl hj⟩⟩ :
        e = .returned (.tuple #[.int .i64 ((M.made : Int) + 1), .int .i64 0]) ∧ w2.cell? ⟨a, 2, none⟩ = some (.int .i64 (o.kids : Int)) ∧ w2.cell? ⟨a, 3, none⟩ = some (.int .i64 (o.slc : Int)) ∧ (∀ j, w2.frozen? ⟨a, j, none⟩ = false) ∧
          ∃ r', SMem ((w2.setCell ⟨a, 2, none⟩ (.int .i64 ((o.kids : Int) + 1))).setCell ⟨a, 3, none⟩ (.int .i64 ((o.slc : Int) + 1))) s r' (sliceM M i o t n) ∧ VNext w s r ((w2.setCell ⟨a, 2, none⟩ (.int .i64 ((o.kids : Int) + 1))).setCell ⟨a, 3, none⟩ (.int .i64 ((o.slc : Int) + 1))) r'))
  have HE := Lib.hid (show (newOb n.toNat i.toNat (o.depth + 1) t.toNat).raw = #[.int .i64 n, .int .i64 i, .int .i64 0, .int .i64 0, .int .i64 ((o.depth : Int) + 1), .int .i64 t, .bool false, .map none] from by
    unfold Ob.raw newOb
    simp only
    rw [Int.toNat_of_nonneg htn.2, Int.toNat_of_nonneg htn.1, Int.toNat_of_nonneg (by omega)]
    rfl)
  have hb : ((o.depth : Int) == 16) = false := by simp; omega
  have hwr : IntKind.i64.wrap ((o.depth : Int) + 1) = (o.depth : Int) + 1 := wrap_nat (o.depth + 1) (by omega)
  have hwk : IntKind.i64.wrap ((o.kids : Int) + 1) = (o.kids : Int) + 1 := wrap_nat (o.kids + 1) (by omega)
  have hws : IntKind.i64.wrap ((o.slc : Int) + 1) = (o.slc : Int) + 1 := wrap_nat (o.slc + 1) (by omega)
  clear h hs hc h1 h2 h3 hO hA hB hcell hpm hids htn t0 hne eO
  generalize newOb n.toNat i.toNat (o.depth + 1) t.toNat = ob0 at *
  generalize sliceM M i o t n = SM at *
  go_enter Try.func20, Try.ntmps20
  go_wp2_with (first
    | (go_at_call 55; (with_reducible refine c.mono ?_); rintro x w1 ⟨rfl, rfl⟩)
    | (go_at_call 48; (with_reducible refine (H.out _ (by rw [HE.out])).mono ?_); rintro x w2 ⟨rfl, y2, y3, yf, r', k1, k2⟩; have yf2 := yf 2; have yf3 := yf 3; have K := Lib.hid (And.intro k1 k2); clear k1 k2 yf))
  go_ret2
  exact ⟨rfl, r', K.out.1, K.out.2⟩

set_option maxRecDepth 20000 in
theorem snap_slice (h : SMem w s r M) (hc : Chain M.O) (i t n : Int) (hi : fit i) {o : Ob} (hO : M.O i = some o) (hs : winS M i t n = 0) (hd : 0 < o.depth) :
    Calls Try.prog 19 #[.pointer (some ⟨s, 0, none⟩), .int .i64 i, .int .i64 t, .int .i64 n] w fun e w' => e = .returned (.tuple #[.int .i64 0, .int .i64 (-2)]) ∧ w = w' := by
  obtain ⟨a, pb, hA, hB, hcell, hpm⟩ := h.live hO
  have c := window_yes h hc i t n hi hO hA hs
  have d4 := (ocells hcell).c4
  have hd2 : (0 : Int) < (o.depth : Int) := by omega
  clear h hs hc hO hA hB hcell hpm hd
  go_enter Try.func19, Try.ntmps19
  go_wp2_with (go_at_call 55; (with_reducible refine c.mono ?_); rintro x w1 ⟨rfl, rfl⟩)
  go_ret2
  exact ⟨rfl, rfl⟩
end
end Go.Proofs.Ytdhbhigoboamfaa
