/-
  The statements' own below.
-/
import Derived.Test.YtobjmngfikmdhaaNumBelow2
import Derived.Test.YtobjmngfikmdhaaNumTold
import Derived.Test.YtobjmngfikmdhaaNumBelow
import Derived.WalkKit
import Derived.ProofKit
import Derived.Outline
import Derived.LoopN
import Derived.WalkSmall
import Derived.Deep.QuietTactic
import Derived.BigQuiet
import Derived.Deep.RegionHeld3
import Derived.Deep.DeepCutAuto
namespace Go.Proofs.Ytobjmngfikmdhaa
open Go.ChangeShapes Go.WideShapes Go.ChangeAt Go.RowKit
set_option maxRecDepth 100000 in
set_option maxHeartbeats 8000000 in
theorem below_over (n : Int) (s t q z : Bool) (x y r : Nat → Int) (w : World)
    (c1 : ∀ w, Calls Try.prog 13 #[.int .i64 n] w fun e w' => e = .returned (.agg #[.int .i64 (y 0), .int .i64 (y 1), .int .i64 (y 2), .int .i64 (y 3), .int .i64 (y 4), .int .i64 0, .int .i64 0, .int .i64 0, .int .i64 0, .int .i64 0, .int .i64 0, .int .i64 0, .bool t]) ∧ Below w.heap.size w w')
    (c2 : ∀ w, Calls Try.prog 18 #[.agg #[.int .i64 (y 0), .int .i64 (y 1), .int .i64 (y 2), .int .i64 (y 3), .int .i64 (y 4), .int .i64 0, .int .i64 0, .int .i64 0, .int .i64 0, .int .i64 0, .int .i64 0, .int .i64 0, .bool t]] w fun e w' => e = .returned (.agg #[.int .i64 (y 0), .int .i64 (y 1), .int .i64 (y 2), .int .i64 (y 3), .int .i64 (y 4), .int .i64 0, .int .i64 0, .int .i64 0, .int .i64 0, .int .i64 0, .int .i64 0, .int .i64 0, .bool (!t)]) ∧ Below w.heap.size w w')
    (c3 : ∀ w, Calls Try.prog 17 #[.agg #[.int .i64 (x 0), .int .i64 (x 1), .int .i64 (x 2), .int .i64 (x 3), .int .i64 (x 4), .int .i64 0, .int .i64 0, .int .i64 0, .int .i64 0, .int .i64 0, .int .i64 0, .int .i64 0, .bool s], .agg #[.int .i64 (y 0), .int .i64 (y 1), .int .i64 (y 2), .int .i64 (y 3), .int .i64 (y 4), .int .i64 0, .int .i64 0, .int .i64 0, .int .i64 0, .int .i64 0, .int .i64 0, .int .i64 0, .bool (!t)]] w fun e w' => e = .returned (.agg #[.int .i64 (r 0), .int .i64 (r 1), .int .i64 (r 2), .int .i64 (r 3), .int .i64 (r 4), .int .i64 0, .int .i64 0, .int .i64 0, .int .i64 0, .int .i64 0, .int .i64 0, .int .i64 0, .bool q]) ∧ Below w.heap.size w w')
    (hcmp : q = false → ∀ w, (Op.equalIn 10000 22 (.agg #[.int .i64 (r 0), .int .i64 (r 1), .int .i64 (r 2), .int .i64 (r 3), .int .i64 (r 4), .int .i64 0, .int .i64 0, .int .i64 0, .int .i64 0, .int .i64 0, .int .i64 0, .int .i64 0]) (.agg #[.int .i64 0, .int .i64 0, .int .i64 0, .int .i64 0, .int .i64 0, .int .i64 0, .int .i64 0, .int .i64 0, .int .i64 0, .int .i64 0, .int .i64 0, .int .i64 0])).run Try.prog w = .ok (!z) w) (hq : q = true → z = false) :
    Calls Try.prog 25 #[.int .i64 n, .agg #[.int .i64 (x 0), .int .i64 (x 1), .int .i64 (x 2), .int .i64 (x 3), .int .i64 (x 4), .int .i64 0, .int .i64 0, .int .i64 0, .int .i64 0, .int .i64 0, .int .i64 0, .int .i64 0, .bool s]] w fun e w' => e = .returned (.bool z) ∧ Below w.heap.size w w' := by
  have HC := (show Hid _ from hcmp)
  clear hcmp
  go_enter Try.func25, Try.ntmps25
  go_upto_region 1 with (fail)
  have hbw : Below w.heap.size w (World.alloc w (.cells #[.int .i64 (x 0), .int .i64 (x 1), .int .i64 (x 2), .int .i64 (x 3), .int .i64 (x 4), .int .i64 0, .int .i64 0, .int .i64 0, .int .i64 0, .int .i64 0, .int .i64 0, .int .i64 0, .bool s] 24)) := (Below.refl _ _).alloc (Nat.le_refl _) _
  have F : (fun w' : World => w'.cell? ⟨w.heap.size, 0, none⟩ = some (.int .i64 (x 0)) ∧ w'.cell? ⟨w.heap.size, 1, none⟩ = some (.int .i64 (x 1)) ∧ w'.cell? ⟨w.heap.size, 2, none⟩ = some (.int .i64 (x 2)) ∧ w'.cell? ⟨w.heap.size, 3, none⟩ = some (.int .i64 (x 3)) ∧ w'.cell? ⟨w.heap.size, 4, none⟩ = some (.int .i64 (x 4)) ∧ w'.cell? ⟨w.heap.size, 5, none⟩ = some (.int .i64 0) ∧ w'.cell? ⟨w.heap.size, 6, none⟩ = some (.int .i64 0) ∧ w'.cell? ⟨w.heap.size, 7, none⟩ = some (.int .i64 0) ∧ w'.cell? ⟨w.heap.size, 8, none⟩ = some (.int .i64 0) ∧ w'.cell? ⟨w.heap.size, 9, none⟩ = some (.int .i64 0) ∧ w'.cell? ⟨w.heap.size, 10, none⟩ = some (.int .i64 0) ∧ w'.cell? ⟨w.heap.size, 11, none⟩ = some (.int .i64 0) ∧ w'.cell? ⟨w.heap.size, 12, none⟩ = some (.bool s)) (World.alloc w (.cells #[.int .i64 (x 0), .int .i64 (x 1), .int .i64 (x 2), .int .i64 (x 3), .int .i64 (x 4), .int .i64 0, .int .i64 0, .int .i64 0, .int .i64 0, .int .i64 0, .int .i64 0, .int .i64 0, .bool s] 24)) := by simp
  generalize World.alloc w (.cells #[.int .i64 (x 0), .int .i64 (x 1), .int .i64 (x 2), .int .i64 (x 3), .int .i64 (x 4), .int .i64 0, .int .i64 0, .int .i64 0, .int .i64 0, .int .i64 0, .int .i64 0, .int .i64 0, .bool s] 24) = W at *
  generalize hg : w.heap.size = g at *
  have HG : Hid (w.heap.size = g) := hg
  clear hg
  have HS : Hid (∀ w', Below W.heap.size W w' → (w'.cell? ⟨g, 0, none⟩ = some (.int .i64 (x 0)) ∧ w'.cell? ⟨g, 1, none⟩ = some (.int .i64 (x 1)) ∧ w'.cell? ⟨g, 2, none⟩ = some (.int .i64 (x 2)) ∧ w'.cell? ⟨g, 3, none⟩ = some (.int .i64 (x 3)) ∧ w'.cell? ⟨g, 4, none⟩ = some (.int .i64 (x 4)) ∧ w'.cell? ⟨g, 5, none⟩ = some (.int .i64 0) ∧ w'.cell? ⟨g, 6, none⟩ = some (.int .i64 0) ∧ w'.cell? ⟨g, 7, none⟩ = some (.int .i64 0) ∧ w'.cell? ⟨g, 8, none⟩ = some (.int .i64 0) ∧ w'.cell? ⟨g, 9, none⟩ = some (.int .i64 0) ∧ w'.cell? ⟨g, 10, none⟩ = some (.int .i64 0) ∧ w'.cell? ⟨g, 11, none⟩ = some (.int .i64 0) ∧ w'.cell? ⟨g, 12, none⟩ = some (.bool s)) ∧ Below W.heap.size W w') := fun w' hB => ⟨⟨cell_of hB F.1, cell_of hB F.2.1, cell_of hB F.2.2.1, cell_of hB F.2.2.2.1, cell_of hB F.2.2.2.2.1, cell_of hB F.2.2.2.2.2.1, cell_of hB F.2.2.2.2.2.2.1, cell_of hB F.2.2.2.2.2.2.2.1, cell_of hB F.2.2.2.2.2.2.2.2.1, cell_of hB F.2.2.2.2.2.2.2.2.2.1, cell_of hB F.2.2.2.2.2.2.2.2.2.2.1, cell_of hB F.2.2.2.2.2.2.2.2.2.2.2.1, cell_of hB F.2.2.2.2.2.2.2.2.2.2.2.2⟩, hB⟩
  have F' : W.cell? ⟨g, 0, none⟩ = some (.int .i64 (x 0)) ∧ W.cell? ⟨g, 1, none⟩ = some (.int .i64 (x 1)) ∧ W.cell? ⟨g, 2, none⟩ = some (.int .i64 (x 2)) ∧ W.cell? ⟨g, 3, none⟩ = some (.int .i64 (x 3)) ∧ W.cell? ⟨g, 4, none⟩ = some (.int .i64 (x 4)) ∧ W.cell? ⟨g, 5, none⟩ = some (.int .i64 0) ∧ W.cell? ⟨g, 6, none⟩ = some (.int .i64 0) ∧ W.cell? ⟨g, 7, none⟩ = some (.int .i64 0) ∧ W.cell? ⟨g, 8, none⟩ = some (.int .i64 0) ∧ W.cell? ⟨g, 9, none⟩ = some (.int .i64 0) ∧ W.cell? ⟨g, 10, none⟩ = some (.int .i64 0) ∧ W.cell? ⟨g, 11, none⟩ = some (.int .i64 0) ∧ W.cell? ⟨g, 12, none⟩ = some (.bool s) := F
  clear F
  have hgW : g < W.heap.size := World.block_lt_of_cell? W _ F'.1
  clear F'
  go_cut [5] (fun s5 wx => ∃ p : Nat, s5 = .pointer (some ⟨p, 0, none⟩) ∧ (wx.cell? ⟨p, 0, none⟩ = some (.int .i64 (r 0)) ∧ wx.cell? ⟨p, 1, none⟩ = some (.int .i64 (r 1)) ∧ wx.cell? ⟨p, 2, none⟩ = some (.int .i64 (r 2)) ∧ wx.cell? ⟨p, 3, none⟩ = some (.int .i64 (r 3)) ∧ wx.cell? ⟨p, 4, none⟩ = some (.int .i64 (r 4)) ∧ wx.cell? ⟨p, 5, none⟩ = some (.int .i64 0) ∧ wx.cell? ⟨p, 6, none⟩ = some (.int .i64 0) ∧ wx.cell? ⟨p, 7, none⟩ = some (.int .i64 0) ∧ wx.cell? ⟨p, 8, none⟩ = some (.int .i64 0) ∧ wx.cell? ⟨p, 9, none⟩ = some (.int .i64 0) ∧ wx.cell? ⟨p, 10, none⟩ = some (.int .i64 0) ∧ wx.cell? ⟨p, 11, none⟩ = some (.int .i64 0) ∧ wx.cell? ⟨p, 12, none⟩ = some (.bool q)) ∧ Below W.heap.size W wx)
  case first =>
    clear hq HC hbw
    go_region_held3 (fun w' => (w'.cell? ⟨g, 0, none⟩ = some (.int .i64 (x 0)) ∧ w'.cell? ⟨g, 1, none⟩ = some (.int .i64 (x 1)) ∧ w'.cell? ⟨g, 2, none⟩ = some (.int .i64 (x 2)) ∧ w'.cell? ⟨g, 3, none⟩ = some (.int .i64 (x 3)) ∧ w'.cell? ⟨g, 4, none⟩ = some (.int .i64 (x 4)) ∧ w'.cell? ⟨g, 5, none⟩ = some (.int .i64 0) ∧ w'.cell? ⟨g, 6, none⟩ = some (.int .i64 0) ∧ w'.cell? ⟨g, 7, none⟩ = some (.int .i64 0) ∧ w'.cell? ⟨g, 8, none⟩ = some (.int .i64 0) ∧ w'.cell? ⟨g, 9, none⟩ = some (.int .i64 0) ∧ w'.cell? ⟨g, 10, none⟩ = some (.int .i64 0) ∧ w'.cell? ⟨g, 11, none⟩ = some (.int .i64 0) ∧ w'.cell? ⟨g, 12, none⟩ = some (.bool s)) ∧ Below W.heap.size W w') ((refine HS.out _ ?_; (repeat (first | (with_reducible assumption) | (with_reducible exact Below.refl _ _) | (with_reducible refine Below.drew ?_) | (with_reducible refine below_alloc ?_) | (with_reducible refine below_call (by with_reducible assumption) ?_) | (with_reducible refine below_set ?_ (by first | assumption | exact Nat.le_refl _ | omega | (simp; done) | (simp; omega)))))))
      (first | (go_at_call 13; (with_reducible refine (c1 _).mono ?_); rintro e w1 ⟨rfl, hb1⟩; obtain ⟨hc1, hf1⟩ := bcell' hb1; have hm1 := size_rule hb1; have hq1g : g < w1.heap.size := (by (have := hb1.size; (try simp at this); omega)); have hl1 := Nat.le_of_lt hq1g; have hB1 : Below W.heap.size W w1 := (by (repeat (first | (with_reducible assumption) | (with_reducible exact Below.refl _ _) | (with_reducible refine Below.drew ?_) | (with_reducible refine below_alloc ?_) | (with_reducible refine below_call (by with_reducible assumption) ?_) | (with_reducible refine below_set ?_ (by first | assumption | exact Nat.le_refl _ | omega | (simp; done) | (simp; omega)))))); have hz1 := hB1.size) | (go_at_call 18; (with_reducible refine (c2 _).mono ?_); rintro e w2 ⟨rfl, hb2⟩; obtain ⟨hc2, hf2⟩ := bcell' hb2; have hm2 := size_rule hb2; have hq2g : g < w2.heap.size := (by (have := hb2.size; (try simp at this); omega)); have hl2 := Nat.le_of_lt hq2g; have hn2 : ∀ b, b < w1.heap.size → b < w2.heap.size := (fun b h => hm2 b (by first | exact h | (simp; omega))); have hp2 := (fun b h => hn2 b (hm1 b h)); have hB2 : Below W.heap.size W w2 := (by (repeat (first | (with_reducible assumption) | (with_reducible exact Below.refl _ _) | (with_reducible refine Below.drew ?_) | (with_reducible refine below_alloc ?_) | (with_reducible refine below_call (by with_reducible assumption) ?_) | (with_reducible refine below_set ?_ (by first | assumption | exact Nat.le_refl _ | omega | (simp; done) | (simp; omega)))))); have hz2 := hB2.size) | (go_at_call 17; (with_reducible refine (c3 _).mono ?_); rintro e w3 ⟨rfl, hb3⟩; obtain ⟨hc3, hf3⟩ := bcell' hb3; have hm3 := size_rule hb3; have hq3g : g < w3.heap.size := (by (have := hb3.size; (try simp at this); omega)); have hl3 := Nat.le_of_lt hq3g; have hn3 : ∀ b, b < w2.heap.size → b < w3.heap.size := (fun b h => hm3 b (by first | exact h | (simp; omega))); have hp3 := (fun b h => hn3 b (hm2 b h)); have hr3 := (fun b h => hn3 b (hp2 b h)); have hB3 : Below W.heap.size W w3 := (by (repeat (first | (with_reducible assumption) | (with_reducible exact Below.refl _ _) | (with_reducible refine Below.drew ?_) | (with_reducible refine below_alloc ?_) | (with_reducible refine below_call (by with_reducible assumption) ?_) | (with_reducible refine below_set ?_ (by first | assumption | exact Nat.le_refl _ | omega | (simp; done) | (simp; omega)))))); have hz3 := hB3.size))
    all_goals (go_wp2_with fail; go_meet; refine ⟨_, rfl, ?_, ?_⟩)
    all_goals first
      | (with_reducible exact stored13 (There.new hb3 (by simp) (by rfl)))
      | (with_reducible exact stored13 (There.new' hb3 (by simp) (by rfl)))
      | (with_reducible exact stored13 ((There.new hb2 (by simp) (by rfl)).keep hb3))
      | (with_reducible exact stored13 ((There.new' hb2 (by simp) (by rfl)).keep hb3))
      | (with_reducible exact stored13 (((There.new hb1 (by simp) (by rfl)).keep hb2).keep hb3))
      | (with_reducible exact stored13 (((There.new' hb1 (by simp) (by rfl)).keep hb2).keep hb3))
      | ((repeat (first | (with_reducible assumption) | (with_reducible exact Below.refl _ _) | (with_reducible refine Below.drew ?_) | (with_reducible refine below_alloc ?_) | (with_reducible refine below_call (by with_reducible assumption) ?_) | (with_reducible refine below_set ?_ (by first | assumption | exact Nat.le_refl _ | omega | (simp; done) | (simp; omega))))); done)
      | (simp; done)
      | skip
  case rest =>
    obtain ⟨p, rfl, ⟨d0, d1, d2, d3, d4, d5, d6, d7, d8, d9, d10, d11, d12⟩, hB⟩ := hcut
    have hgW2 := Nat.le_of_lt hgW
    clear HS
    have HB : Below g w wc := hbw.trans (hB.mono hgW2)
    cases q
    · have hcm := HC.out rfl
      clear HC hq hB hbw c1 c2 c3
      go_wp2_with fail
      refine bodyPost_ret (v := .bool z) (by simp [results, Try.results25, go_sem]) rfl ⟨rfl, ?_⟩
      rw [HG.out]
      exact HB
    · obtain rfl := hq rfl
      clear HC hB hbw c1 c2 c3
      go_wp2_with fail
      refine bodyPost_ret (v := .bool false) (by simp [results, Try.results25, go_sem]) rfl ⟨rfl, ?_⟩
      rw [HG.out]
      exact HB

theorem val5_nil (r : Nat → Int) (h : ∀ i, i < 5 → 0 ≤ r i ∧ r i < 65536) : val5 r = 0 ↔ (r 0 = 0 ∧ r 1 = 0 ∧ r 2 = 0 ∧ r 3 = 0 ∧ r 4 = 0) := by
  have h0 := h 0 (by omega); have h1 := h 1 (by omega); have h2 := h 2 (by omega); have h3 := h 3 (by omega); have h4 := h 4 (by omega)
  unfold val5
  omega
/-- The statements' below, by value. -/
theorem below_val (n v : Int) (hn : fit n) (x : Nat → Int) (s : Bool) (hx : Num5 x s v) (hz : val5 x ≤ 604462909807314587353088) (w : World) :
    Calls Try.prog 25 #[.int .i64 n, .agg #[.int .i64 (x 0), .int .i64 (x 1), .int .i64 (x 2), .int .i64 (x 3), .int .i64 (x 4), .int .i64 0, .int .i64 0, .int .i64 0, .int .i64 0, .int .i64 0, .int .i64 0, .int .i64 0, .bool s]] w fun e w' => e = .returned (.bool (decide (n < v))) ∧ Below w.heap.size w w' := by
  have hd := dig_size n hn
  obtain ⟨r, q, hr, _, c3⟩ := add_val x (dig n) s (!decide (n < 0)) v (-n) hx (num5_turn _ _ _ (of_num n hn)) (by omega)
  obtain ⟨hr1, hr2⟩ := hr
  have h0 := val5_bd r hr1
  have hzz := val5_nil r hr1
  have key : q = true → decide (n < v) = false := by
    rintro rfl
    simp at hr2 ⊢
    omega
  refine below_over n s (decide (n < 0)) q (decide (n < v)) x (dig n) r w (fun w => of_val n hn w) (fun w => turn5 (dig n) _ w) c3 ?_ key
  rintro rfl w
  simp at hr2
  by_cases hv : val5 r = 0
  · have : decide (n < v) = false := by simp; omega
    rw [this]
    exact cmp_zero r w (hzz.1 hv)
  · have : decide (n < v) = true := by simp; omega
    rw [this]
    exact cmp_other r w (fun h => hv (hzz.2 h))
end Go.Proofs.Ytobjmngfikmdhaa
