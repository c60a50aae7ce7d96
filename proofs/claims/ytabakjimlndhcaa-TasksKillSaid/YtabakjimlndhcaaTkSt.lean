/-
  The calls of a tree in a law's state: New, Make, Kill, Live, Count, Alive, Under. Conditions: there are fewer tasks than a million.
-/
import Derived.Test.YtabakjimlndhcaaTkMake
import Derived.Test.YtabakjimlndhcaaTkDieW
namespace Go.Proofs.Ytabakjimlndhcaa
open Go.ChangeShapes Go.WideShapes Go.ChangeAt Go.RowKit

def T1 : Nat → Tk := fun _ => ⟨1, 0, 1, 0, 0, 0⟩
theorem tok1 {most : Int} (h : 1 ≤ most ∧ most ≤ 65536) : TOK most 1 T1 := by
  have z : ∀ {j : Nat}, j < 1 → j = 0 := fun h => by omega
  refine ⟨⟨fun j hj => ?_, fun j hj => ?_, fun j i hj hi he hd => ?_⟩, Nat.le_refl _, ⟨rfl, rfl⟩, fun j hj h0 => by omega, fun j hj => ?_, fun j hj => ?_, fun j i hj hi e => ?_, ?_, h, fun j hj hk => ?_⟩
  · show (0 : Int) ≤ 0 ∧ (0 : Int) ≤ j; omega
  · show (0 : Int) ≤ 0 ∧ (0 : Int) ≤ (1 : Nat); omega
  · have : (0 : Int) = (i : Int) + 1 := he; omega
  · show (0 : Int) ≤ 1 ∧ (1 : Int) ≤ 2; omega
  · show (0 : Int) ≤ 0 ∧ (0 : Int) ≤ 15; omega
  · have : (0 : Int) = (i : Int) + 1 := e; omega
  · have : liveN T1 1 = 1 := by decide
    rw [this]; omega
  · obtain rfl := z hj
    have : dep T1 0 = 1 := by decide
    omega
theorem new_no (most : Int) (w : World) (h : most < 1 ∨ 65536 < most) : Calls Try.prog 29 #[.int .i64 most] w fun x w' => x = .returned (.pointer none) ∧ w = w' := by
  by_cases h1 : most < 1
  · clear h
    go_enter Try.func29, Try.ntmps29
    go_wp2
    go_ret
    exact ⟨rfl, rfl⟩
  · have h2 : 65536 < most := by omega
    clear h
    go_enter Try.func29, Try.ntmps29
    go_wp2
    go_ret
    exact ⟨rfl, rfl⟩
theorem new_yes (most : Int) (w : World) (h : 1 ≤ most ∧ most ≤ 65536) : Calls Try.prog 29 #[.int .i64 most] w fun x w' => ∃ c, x = .returned (tp c) ∧ KSt w w' c most 1 T1 NoBlock := by
  have n0 : ¬ most < 1 := by omega
  have n1 : ¬ 65536 < most := by omega
  have hb := heap_alloc_new w (.cells #[.int .i64 most, .int .i64 0, .slice none 0 0] 125)
  have tW : Turn NoBlock w (w.alloc (.cells #[.int .i64 most, .int .i64 0, .slice none 0 0] 125)) := (Turn.refl _ w).alloc _
  have hsz : (w.alloc (.cells #[.int .i64 most, .int .i64 0, .slice none 0 0] 125)).heap.size = w.heap.size + 1 := World.size_alloc _ _
  have CA := Lib.hid (add_any (B := fun _ => 0) (n := 0) hb (wrow_nil _ _ _) (by omega) ⟨by omega, by omega⟩ ⟨1, 0, 1, 0, 0, 0⟩)
  unfold Tk.agg tp at CA
  have HW := Lib.hid (And.intro tW (And.intro hsz h))
  clear hb tW hsz h
  unfold tp
  go_enter Try.func29, Try.ntmps29
  go_wp2_with (go_at_call 63; (with_reducible refine CA.out.mono ?_); rintro e w2 ⟨rfl, sv', b, hA⟩; have HA := Lib.hid hA; clear hA)
  go_ret
  refine ⟨w.heap.size, rfl, ?_⟩
  have hA := HA.out
  obtain ⟨tW, hsz, h⟩ := HW.out
  have hnew := hA.new
  have hfoot : ∀ k, KFoot w.heap.size 1 sv' (updN (fun _ => 0) 0 b) (fun _ => .slice none 0 0) k → w.heap.size ≤ k := by
    rintro k (rfl | hk | ⟨j, hj, hk⟩)
    · exact Nat.le_refl _
    · rcases hA.blk k hk with h1 | h1
      · exact (blk_nil k h1).elim
      · omega
    · obtain rfl : j = 0 := by omega
      rw [updN_same] at hk
      rcases hk with rfl | hk
      · omega
      · exact (blk_nil k hk).elim
  refine ⟨⟨sv', updN (fun _ => 0) 0 b, fun _ => .slice none 0 0, fun _ => 0, ⟨?_, hA.row, fun j hj => ?_, fun j hj => ?_, fun i j hi hj _ => by omega, fun i j hi hj hij => absurd (show i = j by omega) hij, fun j hj => ⟨Nat.zero_le _, fun i q hi => absurd hi (Nat.not_lt_zero _)⟩⟩, hfoot, fun k hk => hk.elim⟩, tok1 h, tW.trans hA.turn (fun k hk => .inr ?_)⟩
  · rw [show liveN T1 1 = 1 by decide]
    have := hA.head
    simpa using this
  · obtain rfl : j = 0 := by omega
    rw [updN_same]
    exact hA.obj
  · obtain rfl : j = 0 := by omega
    exact wrow_nil _ _ _
  · rcases hk with rfl | hk
    · exact Nat.le_refl _
    · exact (blk_nil k hk).elim
section
variable {w0 w : World} {c n : Nat} {most : Int} {T : Nat → Tk} {X : Nat → Prop}
def mkT (most : Int) (n : Nat) (T : Nat → Tk) (kind par : Int) : Nat → Tk := if mkS most n T kind par = 0 then setT T n (newT T kind par) else T
def mkC (most : Int) (n : Nat) (T : Nat → Tk) (kind par : Int) : Nat := if mkS most n T kind par = 0 then n + 1 else n
theorem KSt.make (h : KSt w0 w c most n T X) (hn : n ≤ 999999) (kind par : Int) : Calls Try.prog 45 #[tp c, .int .i64 kind, .int .i64 par] w fun x w' =>
    x = .returned (.tuple #[.int .i64 (mkN n (mkS most n T kind par)), .int .i64 (mkS most n T kind par)]) ∧ KSt w0 w' c most (mkC most n T kind par) (mkT most n T kind par) X ∧ Kp X w w' := by
  obtain ⟨sv, B, V, G, h1, h4, h5⟩ := h.ex
  refine (make_any h1 h.ok hn kind par).mono ?_
  rintro x w' ⟨rfl, ha, hb⟩
  refine ⟨rfl, ?_⟩
  unfold mkC mkT
  by_cases hs : mkS most n T kind par = 0
  · rw [if_pos hs, if_pos hs]
    obtain ⟨t, sv', B', V', G', m, hf⟩ := hb hs
    exact kst_made h h4 h5 m (h.ok.make hs) hf t
  · rw [if_neg hs, if_neg hs]
    exact ⟨h.past (ha hs), Kp.of_past (ha hs)⟩
def killS (n : Nat) (T : Nat → Tk) (id : Int) : Int := if inN n id = false then -25 else if (T (plc id)).st = 2 then -20 else 0
def killT (n : Nat) (T : Nat → Tk) (id code : Int) : Nat → Tk := if killS n T id = 0 then (die n code T (plc id)).1 else T
def killL (n : Nat) (T : Nat → Tk) (id code : Int) : List Int := if killS n T id = 0 then numL (die n code T (plc id)).2 else []
theorem KSt.kill (h : KSt w0 w c most n T X) (hn : n ≤ 1000000) (id code : Int) : Calls Try.prog 47 #[tp c, .int .i64 id, .int .i64 code] w fun x w' =>
    ∃ v, x = .returned (.tuple #[v, .int .i64 (killS n T id)]) ∧ Nums v (killL n T id code) w' ∧ KSt w0 w' c most n (killT n T id code) X ∧ Kp X w w' ∧ ∀ k, Blk v k → w.heap.size ≤ k := by
  obtain ⟨sv, B, V, G, h1, h4, h5⟩ := h.ex
  have NIL := Lib.hid (fun (W : World) => (wrow_nil W 3 1 : Nums (.slice none 0 0) [] W))
  by_cases hin : inN n id = false
  · have hs : killS n T id = -25 := by unfold killS; rw [if_pos hin]
    unfold killT killL
    rw [hs]
    have C := Lib.hid (find_no h1.fm id hin)
    have HH := Lib.hid h
    unfold tp at *
    clear h h1 h4 h5 hin hs
    go_enter Try.func47, Try.ntmps47
    go_wp2_with (go_at_call 70; (with_reducible refine C.out.mono ?_); rintro e w2 ⟨rfl, rfl⟩)
    go_ret2
    exact ⟨_, rfl, NIL.out _, HH.out, Kp.of_past (Turn.refl _ _), fun k hk => (blk_nil k hk).elim⟩
  · have hit : inN n id = true := by simpa using hin
    have hp := plc_lt hit
    have hpe := plc_id hit
    have C := Lib.hid (find_yes h1.fm hn hp)
    have CA := Lib.hid (alive_any h1 hn id)
    rw [← hpe] at C
    by_cases hd : (T (plc id)).st = 2
    · have hs : killS n T id = -20 := by unfold killS; rw [if_neg hin, if_pos hd]
      have ha : aliveAt n T id = false := by unfold aliveAt aliveB; simp [hd]
      unfold killT killL
      rw [hs]
      rw [ha] at CA
      have HH := Lib.hid h
      unfold tp at *
      clear h h1 h4 h5 hin hs hit hpe ha hd
      go_enter Try.func47, Try.ntmps47
      go_wp2_with (first
        | (go_at_call 70; (with_reducible refine C.out.mono ?_); rintro e w2 ⟨rfl, rfl⟩)
        | (go_at_call 38; (with_reducible refine CA.out.mono ?_); rintro e w2 ⟨rfl, rfl⟩))
      go_ret2
      exact ⟨_, rfl, NIL.out _, HH.out, Kp.of_past (Turn.refl _ _), fun k hk => (blk_nil k hk).elim⟩
    · have hs : killS n T id = 0 := by unfold killS; rw [if_neg hin, if_neg hd]
      have ha : aliveAt n T id = true := by unfold aliveAt aliveB; simp [hd, hit]
      unfold killT killL
      rw [hs, if_pos rfl, if_pos rfl]
      rw [ha] at CA
      have CD := Lib.hid (die_any (told := .slice none 0 0) (pre := []) h1 h.ok.dok hn hp code (wrow_nil w 3 1) (by simp) (fun k hk => (blk_nil k hk).elim))
      rw [← hpe] at CD
      have FIN := Lib.hid (show ∀ w' v G', KMem w' c most n (die n code T (plc id)).1 sv B V G' → Nums v ([] ++ numL (die n code T (plc id)).2) w' → Turn (fun k => KCore c n B k ∨ Blk (.slice none 0 0) k) w w' → (∀ k, Blk v k → Blk (.slice none 0 0) k ∨ w.heap.size ≤ k) →
          Nums v (numL (die n code T (plc id)).2) w' ∧ KSt w0 w' c most n (die n code T (plc id)).1 X ∧ Kp X w w' ∧ ∀ k, Blk v k → w.heap.size ≤ k from fun w' v G' m r t b => by
        have t' : Turn (KFoot c n sv B V) w w' := t.mono (fun k hk => .inl (hk.elim core_foot (fun e => (blk_nil k e).elim)))
        obtain ⟨k1, k2⟩ := kst_made h h4 h5 m (h.ok.ends (die_ends h.ok.dok hp code).1) (fun k hk => .inl hk) t'
        exact ⟨r, k1, k2, fun k hk => (b k hk).resolve_left (fun e => blk_nil k e)⟩)
      unfold tp at *
      clear h h1 h4 h5 hin hs hit hpe ha hd NIL
      go_enter Try.func47, Try.ntmps47
      go_wp2_with (first
        | (go_at_call 70; (with_reducible refine C.out.mono ?_); rintro e w2 ⟨rfl, rfl⟩)
        | (go_at_call 38; (with_reducible refine CA.out.mono ?_); rintro e w2 ⟨rfl, rfl⟩)
        | (go_at_call 78; (with_reducible refine CD.out.mono ?_); rintro e w2 ⟨v, G', rfl, m2⟩; have M2 := Lib.hid m2; clear m2))
      go_ret2
      exact ⟨v, rfl, FIN.out _ _ _ M2.out.1 M2.out.2.1 M2.out.2.2.1 M2.out.2.2.2⟩
theorem KSt.live (h : KSt w0 w c most n T X) : Calls Try.prog 34 #[tp c] w fun x w' => x = .returned (.int .i64 (liveN T n : Int)) ∧ w = w' := by
  obtain ⟨sv, B, V, G, h1, -⟩ := h.ex
  exact live_any h1
theorem KSt.count (h : KSt w0 w c most n T X) : Calls Try.prog 33 #[tp c] w fun x w' => x = .returned (.int .i64 (n : Int)) ∧ w = w' := by
  obtain ⟨sv, B, V, G, h1, -⟩ := h.ex
  exact count_any h1
theorem KSt.alive (h : KSt w0 w c most n T X) (hn : n ≤ 1000000) (id : Int) : Calls Try.prog 38 #[tp c, .int .i64 id] w fun x w' => x = .returned (.bool (aliveAt n T id)) ∧ w = w' := by
  obtain ⟨sv, B, V, G, h1, -⟩ := h.ex
  exact alive_any h1 hn id
theorem KSt.under (h : KSt w0 w c most n T X) (hn : n ≤ 1000000) (id top : Int) : Calls Try.prog 40 #[tp c, .int .i64 id, .int .i64 top] w fun x w' => x = .returned (.bool (underB n T id top)) ∧ Turn NoBlock w w' := by
  obtain ⟨sv, B, V, G, h1, -⟩ := h.ex
  exact under_any h1 h.ok.dok hn id top
end
end Go.Proofs.Ytabakjimlndhcaa
