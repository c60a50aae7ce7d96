/-
  Snapshot, where it is not refused. No conditions but that the set is one that calls can make.
-/
import Derived.Test.YtdhbhigoboamfaaVShare
namespace Go.Proofs.Ytdhbhigoboamfaa
open Go.ChangeShapes Go.WideShapes Go.ChangeAt Go.RowKit

def snapB (M : Mod) (i : Int) (o : Ob) (N : Nat) : Mod := { addM M (newOb (64 * N) i.toNat 0 0) with O := updI (addM M (newOb (64 * N) i.toNat 0 0)).O i (some (kid o)) }
def snapP (M : Mod) (o : Ob) (T N : Nat) : PL := shAll o.pgs T ⟨M.L, fun _ => none, 0⟩ N
def snapM (M : Mod) (i : Int) (o : Ob) (T N : Nat) : Mod := setM (snapB M i o N) ((M.made : Int) + 1) (newOb (64 * N) i.toNat 0 0) (snapP M o T N)

section
variable {w : World} {s : Nat} {r : Rep} {M : Mod}
set_option maxRecDepth 20000 in
set_option maxHeartbeats 1000000 in
theorem snap_yes (h : SMem w s r M) (hc : Chain M.O) (hh : Held M) (i : Int) (T N : Nat) (hi : fit i) {o : Ob} (hO : M.O i = some o) (hs : winS M i ((64 * T : Nat) : Int) ((64 * N : Nat) : Int) = 0) (hN : N ≤ 64) (hT : T ≤ 1152921504606846976 / 64) (hd : o.depth = 0) (hl : M.live < M.most) (hm : M.most ≤ 65536) (hmd : M.made < 4611686018427387904) (hk : o.kids < 4611686018427387904)
    (U : Nat) (hU : Ub M.L U) (hUs : U ≤ 1152921504606846976) :
    Calls Try.prog 19 #[.pointer (some ⟨s, 0, none⟩), .int .i64 i, .int .i64 ((64 * T : Nat) : Int), .int .i64 ((64 * N : Nat) : Int)] w fun e w' => e = .returned (.tuple #[.int .i64 ((M.made : Int) + 1), .int .i64 0]) ∧
      (∃ r', SMem w' s r' (snapM M i o T N) ∧ VNext w s r w' r') ∧ Ub (snapP M o T N).L (U + N) := by
  obtain ⟨a, pb, hA, hB, hcell, hpm⟩ := h.live hO
  have c := window_yes h hc i ((64 * T : Nat) : Int) ((64 * N : Nat) : Int) hi hO hA hs
  have d4 := (ocells hcell).c4
  rw [hd] at d4
  have halt := lt_of_block hcell
  have hids := h.ids i a hA
  have has := h.aS hA
  have hlen := h.pool.len
  have t0 : ∀ ob, Turn NoBlock w (w.alloc ob) := fun ob => (Turn.refl NoBlock w).alloc ob
  have hne : i ≠ (M.made : Int) + 1 := by omega
  have hfit : ∀ q f, o.pgs q = some f → fit f := fun q f hq => by
    obtain ⟨r1, r2, r3⟩ := users_range (hh i o q f hO hq)
    unfold fit; omega
  have eO : (addM M (newOb (64 * N) i.toNat 0 0)).O i = some o := by simp [addM, updI, hne, hO]
  have H := Lib.hid (fun ob (e : ob = .cells (newOb (64 * N) i.toNat 0 0).raw 88 (0, 0)) =>
    (add_yes8 (a := w.heap.size) (h.past (t0 ob)) (by subst e; exact heap_alloc_new w _) (fresh_not h) rfl rfl hl hm hmd).mono fun e w2 hw => by
      obtain ⟨k1, k2, k3⟩ := hw
      have eA : (addR r ((M.made : Int) + 1) w.heap.size (w.alloc ob).heap.size).A i = some a := by simp [addR, updI, hne, hA]
      have eA2 : (addR r ((M.made : Int) + 1) w.heap.size (w.alloc ob).heap.size).A ((M.made : Int) + 1) = some w.heap.size := by simp [addR, updI]
      have eB2 : (addR r ((M.made : Int) + 1) w.heap.size (w.alloc ob).heap.size).B ((M.made : Int) + 1) = some (w.alloc ob).heap.size := by simp [addR, updI]
      have nx := addM_next (i := (M.made : Int) + 1) (b := (w.alloc ob).heap.size) h (t0 ob) (Nat.le_refl _) (by simp) k3
      obtain ⟨a2, pb2, g1, g2, g3, g4⟩ := k2.live eO
      rw [eA] at g1
      cases g1
      obtain ⟨b1, b2⟩ := bump1 k2 eO eA
      have oc := ocells g3
      have hOi : (snapB M i o N).O i = some (kid o) := updI_same _ _ _
      have hOj : (snapB M i o N).O ((M.made : Int) + 1) = some (newOb (64 * N) i.toNat 0 0) := by
        show updI (updI M.O _ _) i _ _ = _
        unfold updI
        rw [if_neg (Ne.symm hne), if_pos rfl]
      have lk := OMap.look b1.omap ((M.made : Int) + 1) (by unfold fit; omega)
      rw [eA2] at lk
      have nx2 : VNext w s r (w2.setCell ⟨a, 2, none⟩ (.int .i64 ((o.kids : Int) + 1))) (addR r ((M.made : Int) + 1) w.heap.size (w.alloc ob).heap.size) :=
        nx.trans ⟨b2.mono (fun j hj => .inl (.inr (.inr (.inr (.inl ⟨i, by subst hj; exact eA⟩))))), fun j hj => .inl hj⟩
      have cS := (share8_any (M := snapB M i o N) b1 (i := i) (j := (M.made : Int) + 1) (o := kid o) (oc := newOb (64 * N) i.toNat 0 0) hOi eA hne hOj eA2 eB2 T N U rfl hN (by omega) hfit hU hUs (by show 0 ≤ _; omega)).mono
        (R' := fun e w' => e = .returned (.tuple #[]) ∧ (∃ r', SMem w' s r' (snapM M i o T N) ∧ VNext w s r w' r') ∧ Ub (snapP M o T N).L (U + N)) fun e w' hw => by
          obtain ⟨q1, F, q2⟩ := hw
          exact ⟨q1, ⟨_, q2.mem, nx2.trans q2.next⟩, q2.ub⟩
      exact (⟨k1, oc.c2, oc.f, b1.c3, lk, cS⟩ :
        e = .returned (.tuple #[.int .i64 ((M.made : Int) + 1), .int .i64 0]) ∧ w2.cell? ⟨a, 2, none⟩ = some (.int .i64 (o.kids : Int)) ∧ (∀ j, w2.frozen? ⟨a, j, none⟩ = false) ∧
          (w2.setCell ⟨a, 2, none⟩ (.int .i64 ((o.kids : Int) + 1))).cell? ⟨s, 3, none⟩ = some (.map (some r.mo)) ∧
          Sem.run Try.prog (Instr.lookup 81 (.map (some r.mo)) (.int .i64 ((M.made : Int) + 1)) false) (w2.setCell ⟨a, 2, none⟩ (.int .i64 ((o.kids : Int) + 1))) = .ok (.pointer (some ⟨w.heap.size, 0, none⟩)) (w2.setCell ⟨a, 2, none⟩ (.int .i64 ((o.kids : Int) + 1))) ∧
          Calls Try.prog 56 #[.pointer (some ⟨s, 0, none⟩), .pointer (some ⟨a, 0, none⟩), .pointer (some ⟨w.heap.size, 0, none⟩), .int .i64 (T : Int)] (w2.setCell ⟨a, 2, none⟩ (.int .i64 ((o.kids : Int) + 1))) fun e w' => e = .returned (.tuple #[]) ∧ (∃ r', SMem w' s r' (snapM M i o T N) ∧ VNext w s r w' r') ∧ Ub (snapP M o T N).L (U + N)))
  have HE := Lib.hid (show (newOb (64 * N) i.toNat 0 0).raw = #[.int .i64 ((64 * N : Nat) : Int), .int .i64 i, .int .i64 0, .int .i64 0, .int .i64 0, .int .i64 0, .bool false, .map none] from by
    unfold Ob.raw newOb
    simp only
    rw [Int.toNat_of_nonneg (by omega)]
    rfl)
  have hwk : IntKind.i64.wrap ((o.kids : Int) + 1) = (o.kids : Int) + 1 := wrap_nat (o.kids + 1) (by omega)
  have eq1 : (((64 * T : Nat) : Int)).tdiv 64 = (T : Int) := by rw [Int.tdiv_eq_ediv_of_nonneg (by omega)]; omega
  have eq2 : (((64 * T : Nat) : Int)) / 64 = (T : Int) := by omega
  have ew : IntKind.i64.wrap (T : Int) = (T : Int) := wrap_nat T (by omega)
  have hn1 : ¬ (4096 : Int) < ((64 * N : Nat) : Int) := by omega
  generalize ((64 * T : Nat) : Int) = ZT at *
  generalize ((64 * N : Nat) : Int) = ZN at *
  clear h hs hc hh hO hA hB hcell hpm hids t0 hne eO hfit hlen hd hl hU
  generalize newOb (64 * N) i.toNat 0 0 = ob0 at *
  generalize snapM M i o T N = SM at *
  generalize snapP M o T N = SP at *
  go_enter Try.func19, Try.ntmps19
  go_wp2_with (first
    | (go_at_call 55; (with_reducible refine c.mono ?_); rintro x w1 ⟨rfl, rfl⟩)
    | (go_at_call 48; (with_reducible refine (H.out _ (by rw [HE.out])).mono ?_); rintro x w2 ⟨rfl, y2, yf, y3, lk, k1⟩; have yf2 := yf 2; have K := Lib.hid k1; clear k1 yf)
    | (go_at_call 56; (with_reducible refine K.out.mono ?_); rintro x w3 ⟨rfl, k3⟩; have K3 := Lib.hid k3; clear k3))
  go_ret2
  exact ⟨rfl, K3.out⟩
end
end Go.Proofs.Ytdhbhigoboamfaa
