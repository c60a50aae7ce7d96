/-
  The statement NumRanges: its walk over the contracts of what it calls.
-/
import Derived.Test.YteoedpghpijkaaaNumBelow3
import Derived.WalkKit
import Derived.ProofKit
import Derived.Outline
import Derived.LoopN
import Derived.WalkSmall
import Derived.Deep.QuietTactic
import Derived.BigQuiet
import Derived.Deep.RegionHeld3
import Derived.Deep.DeepCutAuto
namespace Go.Proofs.Yteoedpghpijkaaa
open Go.ChangeShapes Go.WideShapes Go.ChangeAt Go.RowKit
theorem drew_size (w : World) : w.drew.heap.size = w.heap.size := rfl
theorem there_of {w : World} {b : Nat} {cs : Array Value} (h : ∀ o, w.cell? ⟨b, o, none⟩ = cs[o]?) (hs : cs.size = 13) : There w b := fun i hi => ⟨cs[i]'(by omega), (h i).trans (Array.getElem?_eq_getElem (by omega))⟩
theorem new_at {w1 w2 : World} {cs : Array Value} {t : TypeId} (hb : Below (w1.alloc (.cells cs t)).heap.size (w1.alloc (.cells cs t)) w2) : (∀ o, w2.cell? ⟨w1.heap.size, o, none⟩ = cs[o]?) ∧ (∀ o, w2.frozen? ⟨w1.heap.size, o, none⟩ = false) := new_cells hb
theorem new_at' {w1 w2 : World} {cs : Array Value} {t : TypeId} (hb : Below (w1.alloc (.cells cs t)).drew.heap.size (w1.alloc (.cells cs t)).drew w2) : (∀ o, w2.cell? ⟨w1.heap.size, o, none⟩ = cs[o]?) ∧ (∀ o, w2.frozen? ⟨w1.heap.size, o, none⟩ = false) := new_cells' hb
theorem min_law (a b c d : Int) : ∃ m : Int, (∀ (ts : Array TypeId) (t : TypeId) (w : World), (Builtin.min_ ts t #[.int .i64 a, .int .i64 b, .int .i64 c, .int .i64 d]).run Try.prog w = .ok (.int .i64 m) w) ∧ (0 ≤ m ↔ 0 ≤ a ∧ 0 ≤ b ∧ 0 ≤ c ∧ 0 ≤ d) := by
  refine ⟨_, fun ts t w => by simp [Builtin.min_, Builtin.min2]; rfl, ?_⟩
  split <;> (try split) <;> (try split) <;> omega
theorem ranges_cases (a b n pf pn : Int) (ok pk : Bool) (hi : ok = true ∧ n = a + b ∧ fit (a + b) ∨ ok = false ∧ n = 0 ∧ ¬ fit (a + b))
    (hp : pk = true ∧ 0 ≤ a ∧ 0 ≤ b ∧ fit (a + b) ∧ pf = a / 64 ∧ (b = 0 ∧ pn = 0 ∨ 1 ≤ b ∧ pn = (a + b - 1) / 64 - a / 64 + 1) ∨ pk = false ∧ pf = 0 ∧ pn = 0 ∧ ¬ (0 ≤ a ∧ 0 ≤ b ∧ fit (a + b))) :
    (pk = false ∧ pf = 0 ∧ pn = 0 ∧ (a < 0 ∨ 0 ≤ a ∧ b < 0 ∨ 0 ≤ a ∧ 0 ≤ b ∧ ok = false)) ∨
    (pk = true ∧ ok = true ∧ 0 ≤ a ∧ b = 0 ∧ n = a ∧ pf = a / 64 ∧ pn = 0) ∨
    (pk = true ∧ ok = true ∧ 0 ≤ a ∧ 1 ≤ b ∧ n = a + b ∧ a + b ≤ 9223372036854775807 ∧ pf = a / 64 ∧ pn = (a + b - 1) / 64 - a / 64 + 1) := by
  rcases hp with ⟨h1, h2, h3, h4, h5, h6⟩ | ⟨h1, h2, h3, h4⟩
  · rcases hi with ⟨g1, g2, g3⟩ | ⟨g1, g2, g3⟩
    · rcases h6 with ⟨k1, k2⟩ | ⟨k1, k2⟩
      · exact .inr (.inl ⟨h1, g1, h2, k1, by omega, h5, k2⟩)
      · exact .inr (.inr ⟨h1, g1, h2, k1, g2, g3.2, h5, k2⟩)
    · exact absurd h4 g3
  · refine .inl ⟨h1, h2, h3, ?_⟩
    by_cases x : a < 0
    · exact .inl x
    · by_cases y : b < 0
      · exact .inr (.inl ⟨by omega, y⟩)
      · rcases hi with ⟨g1, g2, g3⟩ | ⟨g1, g2, g3⟩
        · exact absurd ⟨by omega, by omega, g3⟩ h4
        · exact .inr (.inr ⟨by omega, by omega, g1⟩)
theorem div64 (a : Int) (h : fit a) (h0 : 0 ≤ a) : wrap64 (a.tdiv 64) = a / 64 := by
  rw [Int.tdiv_eq_ediv_of_nonneg h0]
  have h1 := h.2
  have h2 : 0 ≤ a / 64 := by omega
  have h3 : a / 64 ≤ 9223372036854775807 := by omega
  generalize a / 64 = x at *
  unfold wrap64
  omega
set_option maxRecDepth 100000 in
set_option maxHeartbeats 8000000 in
theorem ranges_over (a b c d n pf pn : Int) (sa sb sc sd qe qr qf ok l1 l2 wv ov pk : Bool) (pa pb pc pd u r f : Nat → Int) (w : World)
    (cA : ∀ w, Calls Try.prog 13 #[.int .i64 a] w fun e w' => e = .returned (.agg #[.int .i64 (pa 0), .int .i64 (pa 1), .int .i64 (pa 2), .int .i64 (pa 3), .int .i64 (pa 4), .int .i64 0, .int .i64 0, .int .i64 0, .int .i64 0, .int .i64 0, .int .i64 0, .int .i64 0, .bool sa]) ∧ Below w.heap.size w w')
    (cB : ∀ w, Calls Try.prog 13 #[.int .i64 b] w fun e w' => e = .returned (.agg #[.int .i64 (pb 0), .int .i64 (pb 1), .int .i64 (pb 2), .int .i64 (pb 3), .int .i64 (pb 4), .int .i64 0, .int .i64 0, .int .i64 0, .int .i64 0, .int .i64 0, .int .i64 0, .int .i64 0, .bool sb]) ∧ Below w.heap.size w w')
    (cC : ∀ w, Calls Try.prog 13 #[.int .i64 c] w fun e w' => e = .returned (.agg #[.int .i64 (pc 0), .int .i64 (pc 1), .int .i64 (pc 2), .int .i64 (pc 3), .int .i64 (pc 4), .int .i64 0, .int .i64 0, .int .i64 0, .int .i64 0, .int .i64 0, .int .i64 0, .int .i64 0, .bool sc]) ∧ Below w.heap.size w w')
    (cD : ∀ w, Calls Try.prog 13 #[.int .i64 d] w fun e w' => e = .returned (.agg #[.int .i64 (pd 0), .int .i64 (pd 1), .int .i64 (pd 2), .int .i64 (pd 3), .int .i64 (pd 4), .int .i64 0, .int .i64 0, .int .i64 0, .int .i64 0, .int .i64 0, .int .i64 0, .int .i64 0, .bool sd]) ∧ Below w.heap.size w w')
    (cE : ∀ w, Calls Try.prog 17 #[.agg #[.int .i64 (pa 0), .int .i64 (pa 1), .int .i64 (pa 2), .int .i64 (pa 3), .int .i64 (pa 4), .int .i64 0, .int .i64 0, .int .i64 0, .int .i64 0, .int .i64 0, .int .i64 0, .int .i64 0, .bool sa], .agg #[.int .i64 (pb 0), .int .i64 (pb 1), .int .i64 (pb 2), .int .i64 (pb 3), .int .i64 (pb 4), .int .i64 0, .int .i64 0, .int .i64 0, .int .i64 0, .int .i64 0, .int .i64 0, .int .i64 0, .bool sb]] w fun e w' => e = .returned (.agg #[.int .i64 (u 0), .int .i64 (u 1), .int .i64 (u 2), .int .i64 (u 3), .int .i64 (u 4), .int .i64 0, .int .i64 0, .int .i64 0, .int .i64 0, .int .i64 0, .int .i64 0, .int .i64 0, .bool qe]) ∧ Below w.heap.size w w')
    (cT : ∀ w, Calls Try.prog 18 #[.agg #[.int .i64 (u 0), .int .i64 (u 1), .int .i64 (u 2), .int .i64 (u 3), .int .i64 (u 4), .int .i64 0, .int .i64 0, .int .i64 0, .int .i64 0, .int .i64 0, .int .i64 0, .int .i64 0, .bool qe]] w fun e w' => e = .returned (.agg #[.int .i64 (u 0), .int .i64 (u 1), .int .i64 (u 2), .int .i64 (u 3), .int .i64 (u 4), .int .i64 0, .int .i64 0, .int .i64 0, .int .i64 0, .int .i64 0, .int .i64 0, .int .i64 0, .bool (!qe)]) ∧ Below w.heap.size w w')
    (cR : ∀ w, Calls Try.prog 17 #[.agg #[.int .i64 (pc 0), .int .i64 (pc 1), .int .i64 (pc 2), .int .i64 (pc 3), .int .i64 (pc 4), .int .i64 0, .int .i64 0, .int .i64 0, .int .i64 0, .int .i64 0, .int .i64 0, .int .i64 0, .bool sc], .agg #[.int .i64 (u 0), .int .i64 (u 1), .int .i64 (u 2), .int .i64 (u 3), .int .i64 (u 4), .int .i64 0, .int .i64 0, .int .i64 0, .int .i64 0, .int .i64 0, .int .i64 0, .int .i64 0, .bool (!qe)]] w fun e w' => e = .returned (.agg #[.int .i64 (r 0), .int .i64 (r 1), .int .i64 (r 2), .int .i64 (r 3), .int .i64 (r 4), .int .i64 0, .int .i64 0, .int .i64 0, .int .i64 0, .int .i64 0, .int .i64 0, .int .i64 0, .bool qr]) ∧ Below w.heap.size w w')
    (cI : ∀ w, Calls Try.prog 28 #[.agg #[.int .i64 (u 0), .int .i64 (u 1), .int .i64 (u 2), .int .i64 (u 3), .int .i64 (u 4), .int .i64 0, .int .i64 0, .int .i64 0, .int .i64 0, .int .i64 0, .int .i64 0, .int .i64 0, .bool qe]] w fun e w' => e = .returned (.tuple #[.int .i64 n, .bool ok]) ∧ Below w.heap.size w w')
    (cF : ∀ w, Calls Try.prog 17 #[.agg #[.int .i64 (pc 0), .int .i64 (pc 1), .int .i64 (pc 2), .int .i64 (pc 3), .int .i64 (pc 4), .int .i64 0, .int .i64 0, .int .i64 0, .int .i64 0, .int .i64 0, .int .i64 0, .int .i64 0, .bool sc], .agg #[.int .i64 (pd 0), .int .i64 (pd 1), .int .i64 (pd 2), .int .i64 (pd 3), .int .i64 (pd 4), .int .i64 0, .int .i64 0, .int .i64 0, .int .i64 0, .int .i64 0, .int .i64 0, .int .i64 0, .bool sd]] w fun e w' => e = .returned (.agg #[.int .i64 (f 0), .int .i64 (f 1), .int .i64 (f 2), .int .i64 (f 3), .int .i64 (f 4), .int .i64 0, .int .i64 0, .int .i64 0, .int .i64 0, .int .i64 0, .int .i64 0, .int .i64 0, .bool qf]) ∧ Below w.heap.size w w')
    (cL1 : ∀ w, Calls Try.prog 25 #[.int .i64 c, .agg #[.int .i64 (u 0), .int .i64 (u 1), .int .i64 (u 2), .int .i64 (u 3), .int .i64 (u 4), .int .i64 0, .int .i64 0, .int .i64 0, .int .i64 0, .int .i64 0, .int .i64 0, .int .i64 0, .bool qe]] w fun e w' => e = .returned (.bool l1) ∧ Below w.heap.size w w')
    (cL2 : ∀ w, Calls Try.prog 25 #[.int .i64 a, .agg #[.int .i64 (f 0), .int .i64 (f 1), .int .i64 (f 2), .int .i64 (f 3), .int .i64 (f 4), .int .i64 0, .int .i64 0, .int .i64 0, .int .i64 0, .int .i64 0, .int .i64 0, .int .i64 0, .bool qf]] w fun e w' => e = .returned (.bool l2) ∧ Below w.heap.size w w')
    (cW : ∀ w, Calls Try.prog 24 #[.int .i64 a, .int .i64 b, .int .i64 c] w fun e w' => e = .returned (.bool wv) ∧ w = w')
    (cO : ∀ w, Calls Try.prog 26 #[.int .i64 a, .int .i64 b, .int .i64 c, .int .i64 d] w fun e w' => e = .returned (.bool ov) ∧ w = w')
    (cP : ∀ w, Calls Try.prog 27 #[.int .i64 a, .int .i64 b] w fun e w' => e = .returned (.tuple #[.int .i64 pf, .int .i64 pn, .bool pk]) ∧ w = w')
    (cK : ∀ w, Calls Try.prog 19 #[] w fun e w' => e = .returned (.bool true) ∧ w = w')
    (HW : Hid (wv = true ↔ 0 ≤ a ∧ 0 ≤ b ∧ (qr = false ∨ r 0 = 0 ∧ r 1 = 0 ∧ r 2 = 0 ∧ r 3 = 0 ∧ r 4 = 0)))
    (HO : Hid (ov = true ↔ 0 ≤ a ∧ 1 ≤ b ∧ 0 ≤ c ∧ 1 ≤ d ∧ l1 = true ∧ l2 = true))
    (HI : Hid (ok = true ∧ n = a + b ∧ fit (a + b) ∨ ok = false ∧ n = 0 ∧ ¬ fit (a + b)))
    (HL : Hid (fit a ∧ fit b ∧ fit c ∧ fit d))
    (HP : Hid (pk = true ∧ 0 ≤ a ∧ 0 ≤ b ∧ fit (a + b) ∧ pf = a / 64 ∧ (b = 0 ∧ pn = 0 ∨ 1 ≤ b ∧ pn = (a + b - 1) / 64 - a / 64 + 1) ∨ pk = false ∧ pf = 0 ∧ pn = 0 ∧ ¬ (0 ≤ a ∧ 0 ≤ b ∧ fit (a + b)))) :
    Calls Try.prog 6 #[.agg #[.int .i64 a, .int .i64 b, .int .i64 c, .int .i64 d]] w fun e w' => e = .returned (.bool true) ∧ Below w.heap.size w w' := by
  go_enter Try.func6, Try.ntmps6
  go_upto_region 1 with (fail)
  have hbw : Below w.heap.size w (World.alloc w (.cells #[.int .i64 a, .int .i64 b, .int .i64 c, .int .i64 d] 34)) := (Below.refl _ _).alloc (Nat.le_refl _) _
  have F : ((World.alloc w (.cells #[.int .i64 a, .int .i64 b, .int .i64 c, .int .i64 d] 34)).cell? ⟨w.heap.size, 0, none⟩ = some (.int .i64 a) ∧ (World.alloc w (.cells #[.int .i64 a, .int .i64 b, .int .i64 c, .int .i64 d] 34)).cell? ⟨w.heap.size, 1, none⟩ = some (.int .i64 b) ∧ (World.alloc w (.cells #[.int .i64 a, .int .i64 b, .int .i64 c, .int .i64 d] 34)).cell? ⟨w.heap.size, 2, none⟩ = some (.int .i64 c) ∧ (World.alloc w (.cells #[.int .i64 a, .int .i64 b, .int .i64 c, .int .i64 d] 34)).cell? ⟨w.heap.size, 3, none⟩ = some (.int .i64 d)) := by simp
  generalize World.alloc w (.cells #[.int .i64 a, .int .i64 b, .int .i64 c, .int .i64 d] 34) = W at *
  generalize hg : w.heap.size = g at *
  have HG : Hid (w.heap.size = g) := hg
  clear hg
  have HF := (show Hid _ from F)
  have HS : Hid (∀ w', Below W.heap.size W w' → (w'.cell? ⟨g, 0, none⟩ = some (.int .i64 a) ∧ w'.cell? ⟨g, 1, none⟩ = some (.int .i64 b) ∧ w'.cell? ⟨g, 2, none⟩ = some (.int .i64 c) ∧ w'.cell? ⟨g, 3, none⟩ = some (.int .i64 d)) ∧ Below W.heap.size W w') := fun w' hB => ⟨⟨cell_of hB F.1, cell_of hB F.2.1, cell_of hB F.2.2.1, cell_of hB F.2.2.2⟩, hB⟩
  have hgW : g < W.heap.size := World.block_lt_of_cell? W _ F.1
  clear F
  go_cut [3] (fun s3 wx => ∃ p : Nat, s3 = .pointer (some ⟨p, 0, none⟩) ∧ (wx.cell? ⟨p, 0, none⟩ = some (.int .i64 (u 0)) ∧ wx.cell? ⟨p, 1, none⟩ = some (.int .i64 (u 1)) ∧ wx.cell? ⟨p, 2, none⟩ = some (.int .i64 (u 2)) ∧ wx.cell? ⟨p, 3, none⟩ = some (.int .i64 (u 3)) ∧ wx.cell? ⟨p, 4, none⟩ = some (.int .i64 (u 4)) ∧ wx.cell? ⟨p, 5, none⟩ = some (.int .i64 0) ∧ wx.cell? ⟨p, 6, none⟩ = some (.int .i64 0) ∧ wx.cell? ⟨p, 7, none⟩ = some (.int .i64 0) ∧ wx.cell? ⟨p, 8, none⟩ = some (.int .i64 0) ∧ wx.cell? ⟨p, 9, none⟩ = some (.int .i64 0) ∧ wx.cell? ⟨p, 10, none⟩ = some (.int .i64 0) ∧ wx.cell? ⟨p, 11, none⟩ = some (.int .i64 0) ∧ wx.cell? ⟨p, 12, none⟩ = some (.bool qe)) ∧ Below W.heap.size W wx)
  case first =>
    as_aux_lemma =>
    clear hbw
    go_region_held3 (fun w' => (w'.cell? ⟨g, 0, none⟩ = some (.int .i64 a) ∧ w'.cell? ⟨g, 1, none⟩ = some (.int .i64 b) ∧ w'.cell? ⟨g, 2, none⟩ = some (.int .i64 c) ∧ w'.cell? ⟨g, 3, none⟩ = some (.int .i64 d)) ∧ Below W.heap.size W w') ((refine HS.out _ ?_; (repeat (first | (with_reducible assumption) | (with_reducible exact Below.refl _ _) | (with_reducible refine Below.drew ?_) | (with_reducible refine below_alloc ?_) | (with_reducible refine below_call (by with_reducible assumption) ?_) | (with_reducible refine below_set ?_ (by first | assumption | exact Nat.le_refl _ | omega | (simp; done) | (simp; omega)))))))
      (first | (go_at_call 13; (with_reducible refine (cA _).mono ?_); rintro e wA ⟨rfl, hbA⟩; have hBA : Below W.heap.size W wA := (by (repeat (first | (with_reducible assumption) | (with_reducible exact Below.refl _ _) | (with_reducible refine Below.drew ?_) | (with_reducible refine below_alloc ?_) | (with_reducible refine below_call (by with_reducible assumption) ?_) | (with_reducible refine below_set ?_ (by first | assumption | exact Nat.le_refl _ | omega | (simp; done) | (simp; omega)))))); have hzA := hBA.size; (first | (have N := new_at hbA; obtain ⟨Nc, Nf⟩ := N) | (have N := new_at' hbA; obtain ⟨Nc, Nf⟩ := N) | (have N := keep_cells Nc Nf (by simp) hbA; clear Nc Nf; obtain ⟨Nc, Nf⟩ := N) | skip); (try simp only [drew_size] at Nc Nf)) | (go_at_call 13; (with_reducible refine (cB _).mono ?_); rintro e wB ⟨rfl, hbB⟩; have hBB : Below W.heap.size W wB := (by (repeat (first | (with_reducible assumption) | (with_reducible exact Below.refl _ _) | (with_reducible refine Below.drew ?_) | (with_reducible refine below_alloc ?_) | (with_reducible refine below_call (by with_reducible assumption) ?_) | (with_reducible refine below_set ?_ (by first | assumption | exact Nat.le_refl _ | omega | (simp; done) | (simp; omega)))))); have hzB := hBB.size; (first | (have N := new_at hbB; obtain ⟨Nc, Nf⟩ := N) | (have N := new_at' hbB; obtain ⟨Nc, Nf⟩ := N) | (have N := keep_cells Nc Nf (by simp) hbB; clear Nc Nf; obtain ⟨Nc, Nf⟩ := N) | skip); (try simp only [drew_size] at Nc Nf)) | (go_at_call 17; (with_reducible refine (cE _).mono ?_); rintro e wE ⟨rfl, hbE⟩; have hBE : Below W.heap.size W wE := (by (repeat (first | (with_reducible assumption) | (with_reducible exact Below.refl _ _) | (with_reducible refine Below.drew ?_) | (with_reducible refine below_alloc ?_) | (with_reducible refine below_call (by with_reducible assumption) ?_) | (with_reducible refine below_set ?_ (by first | assumption | exact Nat.le_refl _ | omega | (simp; done) | (simp; omega)))))); have hzE := hBE.size; (first | (have N := new_at hbE; obtain ⟨Nc, Nf⟩ := N) | (have N := new_at' hbE; obtain ⟨Nc, Nf⟩ := N) | (have N := keep_cells Nc Nf (by simp) hbE; clear Nc Nf; obtain ⟨Nc, Nf⟩ := N) | skip); (try simp only [drew_size] at Nc Nf)))
    all_goals (go_wp2_with fail; go_meet; refine ⟨_, rfl, ?_, ?_⟩)
    all_goals first
      | ((with_reducible refine stored13 ?_); (with_reducible exact there_of Nc (by simp)))
      | ((repeat (first | (with_reducible assumption) | (with_reducible exact Below.refl _ _) | (with_reducible refine Below.drew ?_) | (with_reducible refine below_alloc ?_) | (with_reducible refine below_call (by with_reducible assumption) ?_) | (with_reducible refine below_set ?_ (by first | assumption | exact Nat.le_refl _ | omega | (simp; done) | (simp; omega))))); done)
      | (simp; done)
  case rest =>
    obtain ⟨p, rfl, D, hB⟩ := hcut
    generalize wc = W1 at *
    have HS2 : Hid (∀ w', Below W1.heap.size W1 w' → (w'.cell? ⟨g, 0, none⟩ = some (.int .i64 a) ∧ w'.cell? ⟨g, 1, none⟩ = some (.int .i64 b) ∧ w'.cell? ⟨g, 2, none⟩ = some (.int .i64 c) ∧ w'.cell? ⟨g, 3, none⟩ = some (.int .i64 d)) ∧ (w'.cell? ⟨p, 0, none⟩ = some (.int .i64 (u 0)) ∧ w'.cell? ⟨p, 1, none⟩ = some (.int .i64 (u 1)) ∧ w'.cell? ⟨p, 2, none⟩ = some (.int .i64 (u 2)) ∧ w'.cell? ⟨p, 3, none⟩ = some (.int .i64 (u 3)) ∧ w'.cell? ⟨p, 4, none⟩ = some (.int .i64 (u 4)) ∧ w'.cell? ⟨p, 5, none⟩ = some (.int .i64 0) ∧ w'.cell? ⟨p, 6, none⟩ = some (.int .i64 0) ∧ w'.cell? ⟨p, 7, none⟩ = some (.int .i64 0) ∧ w'.cell? ⟨p, 8, none⟩ = some (.int .i64 0) ∧ w'.cell? ⟨p, 9, none⟩ = some (.int .i64 0) ∧ w'.cell? ⟨p, 10, none⟩ = some (.int .i64 0) ∧ w'.cell? ⟨p, 11, none⟩ = some (.int .i64 0) ∧ w'.cell? ⟨p, 12, none⟩ = some (.bool qe)) ∧ Below W1.heap.size W1 w') := fun w' hB' => ⟨(HS.out _ (hB.trans (hB'.mono hB.size))).1, ⟨cell_of hB' D.1, cell_of hB' D.2.1, cell_of hB' D.2.2.1, cell_of hB' D.2.2.2.1, cell_of hB' D.2.2.2.2.1, cell_of hB' D.2.2.2.2.2.1, cell_of hB' D.2.2.2.2.2.2.1, cell_of hB' D.2.2.2.2.2.2.2.1, cell_of hB' D.2.2.2.2.2.2.2.2.1, cell_of hB' D.2.2.2.2.2.2.2.2.2.1, cell_of hB' D.2.2.2.2.2.2.2.2.2.2.1, cell_of hB' D.2.2.2.2.2.2.2.2.2.2.2.1, cell_of hB' D.2.2.2.2.2.2.2.2.2.2.2.2⟩, hB'⟩
    have hgc : g < W1.heap.size := Nat.lt_of_lt_of_le hgW hB.size
    have hpc : p < W1.heap.size := World.block_lt_of_cell? W1 _ D.1
    have HB : Hid (Below g w W1) := hbw.trans (hB.mono (Nat.le_of_lt hgW))
    have HD := (show Hid _ from D)
    clear D hB hbw HS hgW
    go_upto_region 2 with (fail)
    go_cut [4] (fun s4 wx => ∃ p2 : Nat, s4 = .pointer (some ⟨p2, 0, none⟩) ∧ (wx.cell? ⟨p2, 0, none⟩ = some (.int .i64 (r 0)) ∧ wx.cell? ⟨p2, 1, none⟩ = some (.int .i64 (r 1)) ∧ wx.cell? ⟨p2, 2, none⟩ = some (.int .i64 (r 2)) ∧ wx.cell? ⟨p2, 3, none⟩ = some (.int .i64 (r 3)) ∧ wx.cell? ⟨p2, 4, none⟩ = some (.int .i64 (r 4)) ∧ wx.cell? ⟨p2, 5, none⟩ = some (.int .i64 0) ∧ wx.cell? ⟨p2, 6, none⟩ = some (.int .i64 0) ∧ wx.cell? ⟨p2, 7, none⟩ = some (.int .i64 0) ∧ wx.cell? ⟨p2, 8, none⟩ = some (.int .i64 0) ∧ wx.cell? ⟨p2, 9, none⟩ = some (.int .i64 0) ∧ wx.cell? ⟨p2, 10, none⟩ = some (.int .i64 0) ∧ wx.cell? ⟨p2, 11, none⟩ = some (.int .i64 0) ∧ wx.cell? ⟨p2, 12, none⟩ = some (.bool qr)) ∧ Below W1.heap.size W1 wx)
    case first =>
      as_aux_lemma =>
      clear HB HD HF HG
      go_region_held3 (fun w' => (w'.cell? ⟨g, 0, none⟩ = some (.int .i64 a) ∧ w'.cell? ⟨g, 1, none⟩ = some (.int .i64 b) ∧ w'.cell? ⟨g, 2, none⟩ = some (.int .i64 c) ∧ w'.cell? ⟨g, 3, none⟩ = some (.int .i64 d)) ∧ (w'.cell? ⟨p, 0, none⟩ = some (.int .i64 (u 0)) ∧ w'.cell? ⟨p, 1, none⟩ = some (.int .i64 (u 1)) ∧ w'.cell? ⟨p, 2, none⟩ = some (.int .i64 (u 2)) ∧ w'.cell? ⟨p, 3, none⟩ = some (.int .i64 (u 3)) ∧ w'.cell? ⟨p, 4, none⟩ = some (.int .i64 (u 4)) ∧ w'.cell? ⟨p, 5, none⟩ = some (.int .i64 0) ∧ w'.cell? ⟨p, 6, none⟩ = some (.int .i64 0) ∧ w'.cell? ⟨p, 7, none⟩ = some (.int .i64 0) ∧ w'.cell? ⟨p, 8, none⟩ = some (.int .i64 0) ∧ w'.cell? ⟨p, 9, none⟩ = some (.int .i64 0) ∧ w'.cell? ⟨p, 10, none⟩ = some (.int .i64 0) ∧ w'.cell? ⟨p, 11, none⟩ = some (.int .i64 0) ∧ w'.cell? ⟨p, 12, none⟩ = some (.bool qe)) ∧ Below W1.heap.size W1 w') ((refine HS2.out _ ?_; (repeat (first | (with_reducible assumption) | (with_reducible exact Below.refl _ _) | (with_reducible refine Below.drew ?_) | (with_reducible refine below_alloc ?_) | (with_reducible refine below_call (by with_reducible assumption) ?_) | (with_reducible refine below_set ?_ (by first | assumption | exact Nat.le_refl _ | omega | (simp; done) | (simp; omega)))))))
        (first | (go_at_call 13; (with_reducible refine (cC _).mono ?_); rintro e wC ⟨rfl, hbC⟩; have hBC : Below W1.heap.size W1 wC := (by (repeat (first | (with_reducible assumption) | (with_reducible exact Below.refl _ _) | (with_reducible refine Below.drew ?_) | (with_reducible refine below_alloc ?_) | (with_reducible refine below_call (by with_reducible assumption) ?_) | (with_reducible refine below_set ?_ (by first | assumption | exact Nat.le_refl _ | omega | (simp; done) | (simp; omega)))))); have hzC := hBC.size; (first | (have N := new_at hbC; obtain ⟨Nc, Nf⟩ := N) | (have N := new_at' hbC; obtain ⟨Nc, Nf⟩ := N) | (have N := keep_cells Nc Nf (by simp) hbC; clear Nc Nf; obtain ⟨Nc, Nf⟩ := N) | skip); (try simp only [drew_size] at Nc Nf)) | (go_at_call 18; (with_reducible refine (cT _).mono ?_); rintro e wT ⟨rfl, hbT⟩; have hBT : Below W1.heap.size W1 wT := (by (repeat (first | (with_reducible assumption) | (with_reducible exact Below.refl _ _) | (with_reducible refine Below.drew ?_) | (with_reducible refine below_alloc ?_) | (with_reducible refine below_call (by with_reducible assumption) ?_) | (with_reducible refine below_set ?_ (by first | assumption | exact Nat.le_refl _ | omega | (simp; done) | (simp; omega)))))); have hzT := hBT.size; (first | (have N := new_at hbT; obtain ⟨Nc, Nf⟩ := N) | (have N := new_at' hbT; obtain ⟨Nc, Nf⟩ := N) | (have N := keep_cells Nc Nf (by simp) hbT; clear Nc Nf; obtain ⟨Nc, Nf⟩ := N) | skip); (try simp only [drew_size] at Nc Nf)) | (go_at_call 17; (with_reducible refine (cR _).mono ?_); rintro e wR ⟨rfl, hbR⟩; have hBR : Below W1.heap.size W1 wR := (by (repeat (first | (with_reducible assumption) | (with_reducible exact Below.refl _ _) | (with_reducible refine Below.drew ?_) | (with_reducible refine below_alloc ?_) | (with_reducible refine below_call (by with_reducible assumption) ?_) | (with_reducible refine below_set ?_ (by first | assumption | exact Nat.le_refl _ | omega | (simp; done) | (simp; omega)))))); have hzR := hBR.size; (first | (have N := new_at hbR; obtain ⟨Nc, Nf⟩ := N) | (have N := new_at' hbR; obtain ⟨Nc, Nf⟩ := N) | (have N := keep_cells Nc Nf (by simp) hbR; clear Nc Nf; obtain ⟨Nc, Nf⟩ := N) | skip); (try simp only [drew_size] at Nc Nf)))
      all_goals (go_wp2_with fail; go_meet; refine ⟨_, rfl, ?_, ?_⟩)
      all_goals first
        | ((with_reducible refine stored13 ?_); (with_reducible exact there_of Nc (by simp)))
        | ((repeat (first | (with_reducible assumption) | (with_reducible exact Below.refl _ _) | (with_reducible refine Below.drew ?_) | (with_reducible refine below_alloc ?_) | (with_reducible refine below_call (by with_reducible assumption) ?_) | (with_reducible refine below_set ?_ (by first | assumption | exact Nat.le_refl _ | omega | (simp; done) | (simp; omega))))); done)
        | (simp; done)
    case rest =>
      obtain ⟨p2, rfl, D2, hB2⟩ := hcut
      generalize wc = W2 at *
      have D1 : (W2.cell? ⟨g, 0, none⟩ = some (.int .i64 a) ∧ W2.cell? ⟨g, 1, none⟩ = some (.int .i64 b) ∧ W2.cell? ⟨g, 2, none⟩ = some (.int .i64 c) ∧ W2.cell? ⟨g, 3, none⟩ = some (.int .i64 d)) ∧ (W2.cell? ⟨p, 0, none⟩ = some (.int .i64 (u 0)) ∧ W2.cell? ⟨p, 1, none⟩ = some (.int .i64 (u 1)) ∧ W2.cell? ⟨p, 2, none⟩ = some (.int .i64 (u 2)) ∧ W2.cell? ⟨p, 3, none⟩ = some (.int .i64 (u 3)) ∧ W2.cell? ⟨p, 4, none⟩ = some (.int .i64 (u 4)) ∧ W2.cell? ⟨p, 5, none⟩ = some (.int .i64 0) ∧ W2.cell? ⟨p, 6, none⟩ = some (.int .i64 0) ∧ W2.cell? ⟨p, 7, none⟩ = some (.int .i64 0) ∧ W2.cell? ⟨p, 8, none⟩ = some (.int .i64 0) ∧ W2.cell? ⟨p, 9, none⟩ = some (.int .i64 0) ∧ W2.cell? ⟨p, 10, none⟩ = some (.int .i64 0) ∧ W2.cell? ⟨p, 11, none⟩ = some (.int .i64 0) ∧ W2.cell? ⟨p, 12, none⟩ = some (.bool qe)) := ⟨(HS2.out _ hB2).1, (HS2.out _ hB2).2.1⟩
      have HB2 : Hid (Below g w W2) := HB.out.trans (hB2.mono (Nat.le_of_lt hgc))
      have HD2 := (show Hid _ from And.intro D1 D2)
      have hg2 : g < W2.heap.size := World.block_lt_of_cell? W2 _ D1.1.1
      have HB4 := hB2
      clear HB HB4 hB2 HS2 HF HD hgc hpc cA cB cE cT cR
      obtain ⟨⟨f0, f1, f2, f3⟩, e0, e1, e2, e3, e4, e5, e6, e7, e8, e9, e10, e11, e12⟩ := D1
      obtain ⟨d0, d1, d2, d3, d4, d5, d6, d7, d8, d9, d10, d11, d12⟩ := D2
      go_upto_region 3 with (fail)
      go_cut [5] (fun s5 wx => s5 = .bool wv ∧ wx = W2)
      case first =>
        as_aux_lemma =>
        clear e0 e1 e2 e3 e4 e5 e6 e7 e8 e9 e10 e11 e12 cC cD cI cF cL1 cL2 cW cO cP cK
        have hw := HW.out
        clear HW HD2 HB2 HO HI HL HP
        by_cases ha : a < 0
        · have h1 : wv = false := Bool.eq_false_iff.2 (fun h => by have h9 := hw.1 h; clear hw; omega)
          subst h1
          clear hw
          go_wp2_with fail
          go_meet
          exact ⟨rfl, rfl⟩
        · have ha' : 0 ≤ a := by omega
          by_cases hb : b < 0
          · have h1 : wv = false := Bool.eq_false_iff.2 (fun h => by have h9 := hw.1 h; clear hw; omega)
            subst h1
            clear hw
            go_wp2_with fail
            go_meet
            exact ⟨rfl, rfl⟩
          · have hb' : 0 ≤ b := by omega
            cases qr
            · have h1 : wv = true := hw.2 ⟨ha', hb', .inl rfl⟩
              subst h1
              clear hw
              go_wp2_with fail
              go_meet
              exact ⟨rfl, rfl⟩
            · by_cases hz : r 0 = 0 ∧ r 1 = 0 ∧ r 2 = 0 ∧ r 3 = 0 ∧ r 4 = 0
              · have h1 : wv = true := hw.2 ⟨ha', hb', .inr hz⟩
                have hcm := fun w => cmp_zero r w hz
                subst h1
                clear hw hz
                go_wp2_with fail
                go_meet
                exact ⟨rfl, rfl⟩
              · have h1 : wv = false := Bool.eq_false_iff.2 (fun h => (hw.1 h).2.2.elim (fun h9 => nomatch h9) hz)
                have hcm := fun w => cmp_other r w hz
                subst h1
                clear hw hz
                go_wp2_with fail
                go_meet
                exact ⟨rfl, rfl⟩
      case rest =>
        obtain ⟨rfl, rfl⟩ := hcut
        (try generalize wc = W2 at *)
        clear HW d0 d1 d2 d3 d4 d5 d6 d7 d8 d9 d10 d11 d12
        have hbnd := HL.out
        go_upto_region 6 with (go_at_call 24; (with_reducible refine (cW _).mono ?_); rintro e w' ⟨rfl, rfl⟩)
        have HS3 : Hid (∀ w', Below W2.heap.size W2 w' → (w'.cell? ⟨g, 0, none⟩ = some (.int .i64 a) ∧ w'.cell? ⟨g, 1, none⟩ = some (.int .i64 b) ∧ w'.cell? ⟨g, 2, none⟩ = some (.int .i64 c) ∧ w'.cell? ⟨g, 3, none⟩ = some (.int .i64 d)) ∧ (w'.cell? ⟨p, 0, none⟩ = some (.int .i64 (u 0)) ∧ w'.cell? ⟨p, 1, none⟩ = some (.int .i64 (u 1)) ∧ w'.cell? ⟨p, 2, none⟩ = some (.int .i64 (u 2)) ∧ w'.cell? ⟨p, 3, none⟩ = some (.int .i64 (u 3)) ∧ w'.cell? ⟨p, 4, none⟩ = some (.int .i64 (u 4)) ∧ w'.cell? ⟨p, 5, none⟩ = some (.int .i64 0) ∧ w'.cell? ⟨p, 6, none⟩ = some (.int .i64 0) ∧ w'.cell? ⟨p, 7, none⟩ = some (.int .i64 0) ∧ w'.cell? ⟨p, 8, none⟩ = some (.int .i64 0) ∧ w'.cell? ⟨p, 9, none⟩ = some (.int .i64 0) ∧ w'.cell? ⟨p, 10, none⟩ = some (.int .i64 0) ∧ w'.cell? ⟨p, 11, none⟩ = some (.int .i64 0) ∧ w'.cell? ⟨p, 12, none⟩ = some (.bool qe)) ∧ Below W2.heap.size W2 w') := fun w' hB' => ⟨⟨cell_of hB' f0, cell_of hB' f1, cell_of hB' f2, cell_of hB' f3⟩, ⟨cell_of hB' e0, cell_of hB' e1, cell_of hB' e2, cell_of hB' e3, cell_of hB' e4, cell_of hB' e5, cell_of hB' e6, cell_of hB' e7, cell_of hB' e8, cell_of hB' e9, cell_of hB' e10, cell_of hB' e11, cell_of hB' e12⟩, hB'⟩
        go_cut [6] (fun s6 wx => s6 = .bool ov ∧ Below W2.heap.size W2 wx)
        case first =>
          have ho := HO.out
          clear HO HI HL HP HB2 HD2 cW cO cP cK cI hbnd
          clear e0 e1 e2 e3 e4 e5 e6 e7 e8 e9 e10 e11 e12
          obtain ⟨m, hmin, hm⟩ := min_law a b c d
          rcases (show m < 0 ∨ 0 ≤ m ∧ b < 1 ∨ 0 ≤ m ∧ 1 ≤ b ∧ d < 1 ∨ 0 ≤ m ∧ 1 ≤ b ∧ 1 ≤ d from by omega) with q1 | ⟨q1, q2⟩ | ⟨q1, q2, q3⟩ | ⟨q1, q2, q3⟩
          · have h1 : ov = false := Bool.eq_false_iff.2 (fun h => by have h9 := ho.1 h; clear ho; omega)
            have g1 : decide (0 ≤ m) = false := by simp only [decide_eq_false_iff_not]; omega
            subst h1
            clear ho HS3 cC cD cF cL1 cL2 hm q1
            go_quiet (fail)
            go_wp2_with fail
            go_meet
            exact ⟨rfl, below_drewN (Below.refl _ _) _⟩
          · have h1 : ov = false := Bool.eq_false_iff.2 (fun h => by have h9 := ho.1 h; clear ho; omega)
            have g1 : decide (0 ≤ m) = true := by simp only [decide_eq_true_iff]; omega
            have g2 : decide (0 < b) = false := by simp only [decide_eq_false_iff_not]; omega
            subst h1
            clear ho HS3 cC cD cF cL1 cL2 hm q1 q2
            go_quiet (fail)
            go_wp2_with fail
            go_meet
            exact ⟨rfl, below_drewN (Below.refl _ _) _⟩
          · have h1 : ov = false := Bool.eq_false_iff.2 (fun h => by have h9 := ho.1 h; clear ho; omega)
            have g1 : decide (0 ≤ m) = true := by simp only [decide_eq_true_iff]; omega
            have g2 : decide (0 < b) = true := by simp only [decide_eq_true_iff]; omega
            have g3 : decide (0 < d) = false := by simp only [decide_eq_false_iff_not]; omega
            subst h1
            clear ho HS3 cC cD cF cL1 cL2 hm q1 q2 q3
            go_quiet (fail)
            go_wp2_with fail
            go_meet
            exact ⟨rfl, below_drewN (Below.refl _ _) _⟩
          · have h1 : ov = (l1 && l2) := Bool.eq_iff_iff.2 (by rw [Bool.and_eq_true]; constructor; (intro h; exact (ho.1 h).2.2.2.2); (intro h; exact ho.2 ⟨by omega, q2, by omega, q3, h⟩))
            have g1 : decide (0 ≤ m) = true := by simp only [decide_eq_true_iff]; omega
            have g2 : decide (0 < b) = true := by simp only [decide_eq_true_iff]; omega
            have g3 : decide (0 < d) = true := by simp only [decide_eq_true_iff]; omega
            clear ho hm q1 q2 q3 f0 f1 f2 f3
            cases l1
            · as_aux_lemma =>
              simp only [Bool.false_and] at h1
              subst h1
              clear cC cD cF cL2
              refine wp_region_held_drew (S := (fun w' => (w'.cell? ⟨g, 0, none⟩ = some (.int .i64 a) ∧ w'.cell? ⟨g, 1, none⟩ = some (.int .i64 b) ∧ w'.cell? ⟨g, 2, none⟩ = some (.int .i64 c) ∧ w'.cell? ⟨g, 3, none⟩ = some (.int .i64 d)) ∧ (w'.cell? ⟨p, 0, none⟩ = some (.int .i64 (u 0)) ∧ w'.cell? ⟨p, 1, none⟩ = some (.int .i64 (u 1)) ∧ w'.cell? ⟨p, 2, none⟩ = some (.int .i64 (u 2)) ∧ w'.cell? ⟨p, 3, none⟩ = some (.int .i64 (u 3)) ∧ w'.cell? ⟨p, 4, none⟩ = some (.int .i64 (u 4)) ∧ w'.cell? ⟨p, 5, none⟩ = some (.int .i64 0) ∧ w'.cell? ⟨p, 6, none⟩ = some (.int .i64 0) ∧ w'.cell? ⟨p, 7, none⟩ = some (.int .i64 0) ∧ w'.cell? ⟨p, 8, none⟩ = some (.int .i64 0) ∧ w'.cell? ⟨p, 9, none⟩ = some (.int .i64 0) ∧ w'.cell? ⟨p, 10, none⟩ = some (.int .i64 0) ∧ w'.cell? ⟨p, 11, none⟩ = some (.int .i64 0) ∧ w'.cell? ⟨p, 12, none⟩ = some (.bool qe)) ∧ Below W2.heap.size W2 w')) (by kernel_rfl) ?_ (fun hHeld => ?_)
              · (refine HS3.out _ ?_; (repeat (first | (with_reducible assumption) | (with_reducible exact Below.refl _ _) | (with_reducible refine Below.drew ?_) | (with_reducible refine below_alloc ?_) | (with_reducible refine below_call (by with_reducible assumption) ?_) | (with_reducible refine below_set ?_ (by first | assumption | exact Nat.le_refl _ | omega | (simp; done) | (simp; omega))))))
              refine wpAnyH_take (i := 0) (oi := ?oi0) (v := ?v0) ?hi0 (by kernel_rfl) (by kernel_rfl) (by kernel_rfl) ?hq0 (Or.inl ⟨?hw0, ?hy0⟩) (by assumption) ?rest0
              case hi0 => simp only [List.getElem?_toArray, List.getElem?_cons_zero]; rfl
              case hq0 => exact fun _ _ _ h => h
              case hw0 => rfl
              case hy0 => (intro w hSw; (try dsimp only at hSw); go_simp; (try (with_reducible rfl)))
              (try simp only [Act.put, List.setIfInBounds_toArray, List.set_cons_zero, List.set_cons_succ])
              refine wpAnyH_take (i := 1) (oi := ?oi1) (v := ?v1) ?hi1 (by kernel_rfl) (by kernel_rfl) (by kernel_rfl) ?hq1 (Or.inl ⟨?hw1, ?hy1⟩) (by assumption) ?rest1
              case hi1 => simp only [List.getElem?_toArray, List.getElem?_cons_succ, List.getElem?_cons_zero]; rfl
              case hq1 => exact fun _ _ _ h => h
              case hw1 => rfl
              case hy1 => (intro w hSw; (try dsimp only at hSw); go_simp; (try (with_reducible rfl)))
              (try simp only [Act.put, List.setIfInBounds_toArray, List.set_cons_zero, List.set_cons_succ])
              refine wpAnyH_take (i := 2) (oi := ?oi2) (v := ?v2) ?hi2 (by kernel_rfl) (by kernel_rfl) (by kernel_rfl) ?hq2 (Or.inl ⟨?hw2, ?hy2⟩) (by assumption) ?rest2
              case hi2 => simp only [List.getElem?_toArray, List.getElem?_cons_succ, List.getElem?_cons_zero]; rfl
              case hq2 => exact fun _ _ _ h => h
              case hw2 => rfl
              case hy2 => (intro w hSw; (try dsimp only at hSw); go_simp; (try (with_reducible rfl)))
              (try simp only [Act.put, List.setIfInBounds_toArray, List.set_cons_zero, List.set_cons_succ])
              refine wpAnyH_take (i := 3) (oi := ?oi3) (v := ?v3) ?hi3 (by kernel_rfl) (by kernel_rfl) (by kernel_rfl) ?hq3 (Or.inl ⟨?hw3, ?hy3⟩) (by assumption) ?rest3
              case hi3 => simp only [List.getElem?_toArray, List.getElem?_cons_succ, List.getElem?_cons_zero]; rfl
              case hq3 => exact fun _ _ _ h => h
              case hw3 => rfl
              case hy3 => (intro w hSw; (try dsimp only at hSw); go_simp; (try (with_reducible rfl)))
              (try simp only [Act.put, List.setIfInBounds_toArray, List.set_cons_zero, List.set_cons_succ])
              refine wpAnyH_take (i := 4) (oi := ?oi4) (v := ?v4) ?hi4 (by kernel_rfl) (by kernel_rfl) (by kernel_rfl) ?hq4 (Or.inl ⟨?hw4, ?hy4⟩) (by assumption) ?rest4
              case hi4 => simp only [List.getElem?_toArray, List.getElem?_cons_succ, List.getElem?_cons_zero]; rfl
              case hq4 => exact fun _ _ _ h => h
              case hw4 => rfl
              case hy4 => (intro w hSw; (try dsimp only at hSw); go_simp; (try (with_reducible rfl)))
              (try simp only [Act.put, List.setIfInBounds_toArray, List.set_cons_zero, List.set_cons_succ])
              refine wpAnyH_take (i := 5) (oi := ?oi5) (v := ?v5) ?hi5 (by kernel_rfl) (by kernel_rfl) (by kernel_rfl) ?hq5 (Or.inl ⟨?hw5, ?hy5⟩) (by assumption) ?rest5
              case hi5 => simp only [List.getElem?_toArray, List.getElem?_cons_succ, List.getElem?_cons_zero]; rfl
              case hq5 => exact fun _ _ _ h => h
              case hw5 => rfl
              case hy5 => (intro w hSw; (try dsimp only at hSw); go_simp; (try (with_reducible rfl)))
              (try simp only [Act.put, List.setIfInBounds_toArray, List.set_cons_zero, List.set_cons_succ])
              refine wpAnyH_take (i := 6) (oi := ?oi6) (v := ?v6) ?hi6 (by kernel_rfl) (by kernel_rfl) (by kernel_rfl) ?hq6 (Or.inl ⟨?hw6, ?hy6⟩) (by assumption) ?rest6
              case hi6 => simp only [List.getElem?_toArray, List.getElem?_cons_succ, List.getElem?_cons_zero]; rfl
              case hq6 => exact fun _ _ _ h => h
              case hw6 => rfl
              case hy6 => (intro w hSw; (try dsimp only at hSw); go_simp; (try (with_reducible rfl)))
              (try simp only [Act.put, List.setIfInBounds_toArray, List.set_cons_zero, List.set_cons_succ])
              refine wpAnyH_take (i := 7) (oi := ?oi7) (v := ?v7) ?hi7 (by kernel_rfl) (by kernel_rfl) (by kernel_rfl) ?hq7 (Or.inl ⟨?hw7, ?hy7⟩) (by assumption) ?rest7
              case hi7 => simp only [List.getElem?_toArray, List.getElem?_cons_succ, List.getElem?_cons_zero]; rfl
              case hq7 => exact fun _ _ _ h => h
              case hw7 => rfl
              case hy7 => (intro w hSw; (try dsimp only at hSw); go_simp; (try (with_reducible rfl)))
              (try simp only [Act.put, List.setIfInBounds_toArray, List.set_cons_zero, List.set_cons_succ])
              refine wpAnyH_take (i := 8) (oi := ?oi8) (v := ?v8) ?hi8 (by kernel_rfl) (by kernel_rfl) (by kernel_rfl) ?hq8 (Or.inl ⟨?hw8, ?hy8⟩) (by assumption) ?rest8
              case hi8 => simp only [List.getElem?_toArray, List.getElem?_cons_succ, List.getElem?_cons_zero]; rfl
              case hq8 => exact fun _ _ _ h => h
              case hw8 => rfl
              case hy8 => (intro w hSw; (try dsimp only at hSw); go_simp; (try (with_reducible rfl)))
              (try simp only [Act.put, List.setIfInBounds_toArray, List.set_cons_zero, List.set_cons_succ])
              refine wpAnyH_take (i := 9) (oi := ?oi9) (v := ?v9) ?hi9 (by kernel_rfl) (by kernel_rfl) (by kernel_rfl) ?hq9 (Or.inl ⟨?hw9, ?hy9⟩) (by assumption) ?rest9
              case hi9 => simp only [List.getElem?_toArray, List.getElem?_cons_succ, List.getElem?_cons_zero]; rfl
              case hq9 => exact fun _ _ _ h => h
              case hw9 => rfl
              case hy9 => (intro w hSw; (try dsimp only at hSw); go_simp; (try (with_reducible rfl)))
              (try simp only [Act.put, List.setIfInBounds_toArray, List.set_cons_zero, List.set_cons_succ])
              refine wpAnyH_take (i := 10) (oi := ?oi10) (v := ?v10) ?hi10 (by kernel_rfl) (by kernel_rfl) (by kernel_rfl) ?hq10 (Or.inl ⟨?hw10, ?hy10⟩) (by assumption) ?rest10
              case hi10 => simp only [List.getElem?_toArray, List.getElem?_cons_succ, List.getElem?_cons_zero]; rfl
              case hq10 => exact fun _ _ _ h => h
              case hw10 => rfl
              case hy10 => (intro w hSw; (try dsimp only at hSw); go_simp; (try (with_reducible rfl)))
              (try simp only [Act.put, List.setIfInBounds_toArray, List.set_cons_zero, List.set_cons_succ])
              refine wpAnyH_take (i := 11) (oi := ?oi11) (v := ?v11) ?hi11 (by kernel_rfl) (by kernel_rfl) (by kernel_rfl) ?hq11 (Or.inl ⟨?hw11, ?hy11⟩) (by assumption) ?rest11
              case hi11 => simp only [List.getElem?_toArray, List.getElem?_cons_succ, List.getElem?_cons_zero]; rfl
              case hq11 => exact fun _ _ _ h => h
              case hw11 => rfl
              case hy11 => (intro w hSw; (try dsimp only at hSw); go_simp; (try (with_reducible rfl)))
              (try simp only [Act.put, List.setIfInBounds_toArray, List.set_cons_zero, List.set_cons_succ])
              refine wpAnyH_take (i := 12) (oi := ?oi12) (v := ?v12) ?hi12 (by kernel_rfl) (by kernel_rfl) (by kernel_rfl) ?hq12 (Or.inl ⟨?hw12, ?hy12⟩) (by assumption) ?rest12
              case hi12 => simp only [List.getElem?_toArray, List.getElem?_cons_succ, List.getElem?_cons_zero]; rfl
              case hq12 => exact fun _ _ _ h => h
              case hw12 => rfl
              case hy12 => (intro w hSw; (try dsimp only at hSw); go_simp; (try (with_reducible rfl)))
              (try simp only [Act.put, List.setIfInBounds_toArray, List.set_cons_zero, List.set_cons_succ])
              refine wpAnyH_take (i := 13) (oi := ?oi13) (v := ?v13) ?hi13 (by kernel_rfl) (by kernel_rfl) (by kernel_rfl) ?hq13 (Or.inl ⟨?hw13, ?hy13⟩) (by assumption) ?rest13
              case hi13 => simp only [List.getElem?_toArray, List.getElem?_cons_succ, List.getElem?_cons_zero]; rfl
              case hq13 => exact fun _ _ _ h => h
              case hw13 => rfl
              case hy13 => (intro w hSw; (try dsimp only at hSw); go_simp; (try (with_reducible rfl)))
              (try simp only [Act.put, List.setIfInBounds_toArray, List.set_cons_zero, List.set_cons_succ])
              refine wpAnyH_take (i := 14) (oi := ?oi14) (v := ?v14) ?hi14 (by kernel_rfl) (by kernel_rfl) (by kernel_rfl) ?hq14 (Or.inl ⟨?hw14, ?hy14⟩) (by assumption) ?rest14
              case hi14 => simp only [List.getElem?_toArray, List.getElem?_cons_succ, List.getElem?_cons_zero]; rfl
              case hq14 => exact fun _ _ _ h => h
              case hw14 => rfl
              case hy14 => (intro w hSw; (try dsimp only at hSw); go_simp; (try (with_reducible rfl)))
              (try simp only [Act.put, List.setIfInBounds_toArray, List.set_cons_zero, List.set_cons_succ])
              refine wpAnyH_take (i := 15) (oi := ?oi15) (v := ?v15) ?hi15 (by kernel_rfl) (by kernel_rfl) (by kernel_rfl) ?hq15 (Or.inl ⟨?hw15, ?hy15⟩) (by assumption) ?rest15
              case hi15 => simp only [List.getElem?_toArray, List.getElem?_cons_succ, List.getElem?_cons_zero]; rfl
              case hq15 => exact fun _ _ _ h => h
              case hw15 => rfl
              case hy15 => (intro w hSw; (try dsimp only at hSw); go_simp; (try (with_reducible rfl)))
              (try simp only [Act.put, List.setIfInBounds_toArray, List.set_cons_zero, List.set_cons_succ])
              refine wpAnyH_take (i := 16) (oi := ?oi16) (v := ?v16) ?hi16 (by kernel_rfl) (by kernel_rfl) (by kernel_rfl) ?hq16 (Or.inl ⟨?hw16, ?hy16⟩) (by assumption) ?rest16
              case hi16 => simp only [List.getElem?_toArray, List.getElem?_cons_succ, List.getElem?_cons_zero]; rfl
              case hq16 => exact fun _ _ _ h => h
              case hw16 => rfl
              case hy16 => (intro w hSw; (try dsimp only at hSw); go_simp; (try (with_reducible rfl)))
              (try simp only [Act.put, List.setIfInBounds_toArray, List.set_cons_zero, List.set_cons_succ])
              refine wpAnyH_take (i := 17) (oi := ?oi17) (v := ?v17) ?hi17 (by kernel_rfl) (by kernel_rfl) (by kernel_rfl) ?hq17 (Or.inl ⟨?hw17, ?hy17⟩) (by assumption) ?rest17
              case hi17 => simp only [List.getElem?_toArray, List.getElem?_cons_succ, List.getElem?_cons_zero]; rfl
              case hq17 => exact fun _ _ _ h => h
              case hw17 => rfl
              case hy17 => (intro w hSw; (try dsimp only at hSw); go_simp; (try (with_reducible rfl)))
              (try simp only [Act.put, List.setIfInBounds_toArray, List.set_cons_zero, List.set_cons_succ])
              refine wpAnyH_take (i := 18) (oi := ?oi18) (v := ?v18) ?hi18 (by kernel_rfl) (by kernel_rfl) (by kernel_rfl) ?hq18 (Or.inl ⟨?hw18, ?hy18⟩) (by assumption) ?rest18
              case hi18 => simp only [List.getElem?_toArray, List.getElem?_cons_succ, List.getElem?_cons_zero]; rfl
              case hq18 => exact fun _ _ _ h => h
              case hw18 => rfl
              case hy18 => (intro w hSw; (try dsimp only at hSw); go_simp; (try (with_reducible rfl)))
              (try simp only [Act.put, List.setIfInBounds_toArray, List.set_cons_zero, List.set_cons_succ])
              refine wpAnyH_take (i := 19) (oi := ?oi19) (v := ?v19) ?hi19 (by kernel_rfl) (by kernel_rfl) (by kernel_rfl) ?hq19 (Or.inl ⟨?hw19, ?hy19⟩) (by assumption) ?rest19
              case hi19 => simp only [List.getElem?_toArray, List.getElem?_cons_succ, List.getElem?_cons_zero]; rfl
              case hq19 => exact fun _ _ _ h => h
              case hw19 => rfl
              case hy19 => (intro w hSw; (try dsimp only at hSw); go_simp; (try (with_reducible rfl)))
              (try simp only [Act.put, List.setIfInBounds_toArray, List.set_cons_zero, List.set_cons_succ])
              refine wpAnyH_take (i := 20) (oi := ?oi20) (v := ?v20) ?hi20 (by kernel_rfl) (by kernel_rfl) (by kernel_rfl) ?hq20 (Or.inl ⟨?hw20, ?hy20⟩) (by assumption) ?rest20
              case hi20 => simp only [List.getElem?_toArray, List.getElem?_cons_succ, List.getElem?_cons_zero]; rfl
              case hq20 => exact fun _ _ _ h => h
              case hw20 => rfl
              case hy20 => (intro w hSw; (try dsimp only at hSw); go_simp; (try (with_reducible rfl)))
              (try simp only [Act.put, List.setIfInBounds_toArray, List.set_cons_zero, List.set_cons_succ])
              refine wpAnyH_take (i := 21) (oi := ?oi21) (v := ?v21) ?hi21 (by kernel_rfl) (by kernel_rfl) (by kernel_rfl) ?hq21 (Or.inl ⟨?hw21, ?hy21⟩) (by assumption) ?rest21
              case hi21 => simp only [List.getElem?_toArray, List.getElem?_cons_succ, List.getElem?_cons_zero]; rfl
              case hq21 => exact fun _ _ _ h => h
              case hw21 => rfl
              case hy21 => (intro w hSw; (try dsimp only at hSw); go_simp; (try (with_reducible rfl)))
              (try simp only [Act.put, List.setIfInBounds_toArray, List.set_cons_zero, List.set_cons_succ])
              refine wpAnyH_take (i := 22) (oi := ?oi22) (v := ?v22) ?hi22 (by kernel_rfl) (by kernel_rfl) (by kernel_rfl) ?hq22 (Or.inl ⟨?hw22, ?hy22⟩) (by assumption) ?rest22
              case hi22 => simp only [List.getElem?_toArray, List.getElem?_cons_succ, List.getElem?_cons_zero]; rfl
              case hq22 => exact fun _ _ _ h => h
              case hw22 => rfl
              case hy22 => (intro w hSw; (try dsimp only at hSw); go_simp; (try (with_reducible rfl)))
              (try simp only [Act.put, List.setIfInBounds_toArray, List.set_cons_zero, List.set_cons_succ])
              refine wpAnyH_take (i := 23) (oi := ?oi23) (v := ?v23) ?hi23 (by kernel_rfl) (by kernel_rfl) (by kernel_rfl) ?hq23 (Or.inl ⟨?hw23, ?hy23⟩) (by assumption) ?rest23
              case hi23 => simp only [List.getElem?_toArray, List.getElem?_cons_succ, List.getElem?_cons_zero]; rfl
              case hq23 => exact fun _ _ _ h => h
              case hw23 => rfl
              case hy23 => (intro w hSw; (try dsimp only at hSw); go_simp; (try (with_reducible rfl)))
              (try simp only [Act.put, List.setIfInBounds_toArray, List.set_cons_zero, List.set_cons_succ])
              refine wpAnyH_ready (rs := [24]) (by kernel_rfl) (by simp) ?_
              refine AllReadyH.cons (o := ?o24) ?hi24 (fun K hK => ?step24) AllReadyH.nil
              case hi24 => simp only [List.getElem?_toArray, List.getElem?_cons_succ, List.getElem?_cons_zero]; rfl
              go_simp
              (go_at_call 25; (with_reducible refine (cL1 _).mono ?_); rintro e wL1 ⟨rfl, hbL1⟩; have hBL1 : Below W2.heap.size W2 wL1 := (by (repeat (first | (with_reducible assumption) | (with_reducible exact Below.refl _ _) | (with_reducible refine Below.drew ?_) | (with_reducible refine below_alloc ?_) | (with_reducible refine below_call (by with_reducible assumption) ?_) | (with_reducible refine below_set ?_ (by first | assumption | exact Nat.le_refl _ | omega | (simp; done) | (simp; omega)))))))
              refine hK.out _ _ ?_ (fun hHeld => ?_)
              · (refine HS3.out _ ?_; (repeat (first | (with_reducible assumption) | (with_reducible exact Below.refl _ _) | (with_reducible refine Below.drew ?_) | (with_reducible refine below_alloc ?_) | (with_reducible refine below_call (by with_reducible assumption) ?_) | (with_reducible refine below_set ?_ (by first | assumption | exact Nat.le_refl _ | omega | (simp; done) | (simp; omega))))))
              clear hK K
              (try simp only [Act.put, List.setIfInBounds_toArray, List.set_cons_zero, List.set_cons_succ])
              refine wpAnyH_take (i := 25) (oi := ?oi25) (v := ?v25) ?hi25 (by kernel_rfl) (by kernel_rfl) (by kernel_rfl) ?hq25 (Or.inl ⟨?hw25, ?hy25⟩) (by assumption) ?rest25
              case hi25 => simp only [List.getElem?_toArray, List.getElem?_cons_succ, List.getElem?_cons_zero]; rfl
              case hq25 => exact fun _ _ _ h => h
              case hw25 => rfl
              case hy25 => (intro w hSw; (try dsimp only at hSw); go_simp; (try (with_reducible rfl)))
              (try simp only [Act.put, List.setIfInBounds_toArray, List.set_cons_zero, List.set_cons_succ])
              refine wpAnyH_take (i := 26) (oi := ?oi26) (v := ?v26) ?hi26 (by kernel_rfl) (by kernel_rfl) (by kernel_rfl) ?hq26 (Or.inl ⟨?hw26, ?hy26⟩) (by assumption) ?rest26
              case hi26 => simp only [List.getElem?_toArray, List.getElem?_cons_succ, List.getElem?_cons_zero]; rfl
              case hq26 => exact fun _ _ _ h => h
              case hw26 => rfl
              case hy26 => (intro w hSw; (try dsimp only at hSw); go_simp; (try (with_reducible rfl)))
              (try simp only [Act.put, List.setIfInBounds_toArray, List.set_cons_zero, List.set_cons_succ])
              refine wpAnyH_take (i := 27) (oi := ?oi27) (v := undef) ?hi27 (by kernel_rfl) (by kernel_rfl) (by kernel_rfl) ?hq27 (Or.inr ⟨?hw27, rfl⟩) (by assumption) ?rest27
              case hi27 => simp only [List.getElem?_toArray, List.getElem?_cons_succ, List.getElem?_cons_zero]; rfl
              case hq27 => exact fun _ _ _ h => h
              case hw27 => rfl
              (try simp only [Act.put, List.setIfInBounds_toArray, List.set_cons_zero, List.set_cons_succ])
              refine wpAnyH_take (i := 28) (oi := ?oi28) (v := undef) ?hi28 (by kernel_rfl) (by kernel_rfl) (by kernel_rfl) ?hq28 (Or.inr ⟨?hw28, rfl⟩) (by assumption) ?rest28
              case hi28 => simp only [List.getElem?_toArray, List.getElem?_cons_succ, List.getElem?_cons_zero]; rfl
              case hq28 => exact fun _ _ _ h => h
              case hw28 => rfl
              (try simp only [Act.put, List.setIfInBounds_toArray, List.set_cons_zero, List.set_cons_succ])
              refine wpAnyH_take (i := 29) (oi := ?oi29) (v := undef) ?hi29 (by kernel_rfl) (by kernel_rfl) (by kernel_rfl) ?hq29 (Or.inr ⟨?hw29, rfl⟩) (by assumption) ?rest29
              case hi29 => simp only [List.getElem?_toArray, List.getElem?_cons_succ, List.getElem?_cons_zero]; rfl
              case hq29 => exact fun _ _ _ h => h
              case hw29 => rfl
              (try simp only [Act.put, List.setIfInBounds_toArray, List.set_cons_zero, List.set_cons_succ])
              refine wpAnyH_take (i := 30) (oi := ?oi30) (v := undef) ?hi30 (by kernel_rfl) (by kernel_rfl) (by kernel_rfl) ?hq30 (Or.inr ⟨?hw30, rfl⟩) (by assumption) ?rest30
              case hi30 => simp only [List.getElem?_toArray, List.getElem?_cons_succ, List.getElem?_cons_zero]; rfl
              case hq30 => exact fun _ _ _ h => h
              case hw30 => rfl
              (try simp only [Act.put, List.setIfInBounds_toArray, List.set_cons_zero, List.set_cons_succ])
              refine wpAnyH_take (i := 31) (oi := ?oi31) (v := undef) ?hi31 (by kernel_rfl) (by kernel_rfl) (by kernel_rfl) ?hq31 (Or.inr ⟨?hw31, rfl⟩) (by assumption) ?rest31
              case hi31 => simp only [List.getElem?_toArray, List.getElem?_cons_succ, List.getElem?_cons_zero]; rfl
              case hq31 => exact fun _ _ _ h => h
              case hw31 => rfl
              (try simp only [Act.put, List.setIfInBounds_toArray, List.set_cons_zero, List.set_cons_succ])
              refine wpAnyH_take (i := 32) (oi := ?oi32) (v := undef) ?hi32 (by kernel_rfl) (by kernel_rfl) (by kernel_rfl) ?hq32 (Or.inr ⟨?hw32, rfl⟩) (by assumption) ?rest32
              case hi32 => simp only [List.getElem?_toArray, List.getElem?_cons_succ, List.getElem?_cons_zero]; rfl
              case hq32 => exact fun _ _ _ h => h
              case hw32 => rfl
              (try simp only [Act.put, List.setIfInBounds_toArray, List.set_cons_zero, List.set_cons_succ])
              refine wpAnyH_take (i := 33) (oi := ?oi33) (v := undef) ?hi33 (by kernel_rfl) (by kernel_rfl) (by kernel_rfl) ?hq33 (Or.inr ⟨?hw33, rfl⟩) (by assumption) ?rest33
              case hi33 => simp only [List.getElem?_toArray, List.getElem?_cons_succ, List.getElem?_cons_zero]; rfl
              case hq33 => exact fun _ _ _ h => h
              case hw33 => rfl
              (try simp only [Act.put, List.setIfInBounds_toArray, List.set_cons_zero, List.set_cons_succ])
              refine wpAnyH_take (i := 34) (oi := ?oi34) (v := undef) ?hi34 (by kernel_rfl) (by kernel_rfl) (by kernel_rfl) ?hq34 (Or.inr ⟨?hw34, rfl⟩) (by assumption) ?rest34
              case hi34 => simp only [List.getElem?_toArray, List.getElem?_cons_succ, List.getElem?_cons_zero]; rfl
              case hq34 => exact fun _ _ _ h => h
              case hw34 => rfl
              (try simp only [Act.put, List.setIfInBounds_toArray, List.set_cons_zero, List.set_cons_succ])
              refine wpAnyH_take (i := 35) (oi := ?oi35) (v := undef) ?hi35 (by kernel_rfl) (by kernel_rfl) (by kernel_rfl) ?hq35 (Or.inr ⟨?hw35, rfl⟩) (by assumption) ?rest35
              case hi35 => simp only [List.getElem?_toArray, List.getElem?_cons_succ, List.getElem?_cons_zero]; rfl
              case hq35 => exact fun _ _ _ h => h
              case hw35 => rfl
              (try simp only [Act.put, List.setIfInBounds_toArray, List.set_cons_zero, List.set_cons_succ])
              refine wpAnyH_take (i := 36) (oi := ?oi36) (v := undef) ?hi36 (by kernel_rfl) (by kernel_rfl) (by kernel_rfl) ?hq36 (Or.inr ⟨?hw36, rfl⟩) (by assumption) ?rest36
              case hi36 => simp only [List.getElem?_toArray, List.getElem?_cons_succ, List.getElem?_cons_zero]; rfl
              case hq36 => exact fun _ _ _ h => h
              case hw36 => rfl
              (try simp only [Act.put, List.setIfInBounds_toArray, List.set_cons_zero, List.set_cons_succ])
              refine wpAnyH_take (i := 37) (oi := ?oi37) (v := ?v37) ?hi37 (by kernel_rfl) (by kernel_rfl) (by kernel_rfl) ?hq37 (Or.inl ⟨?hw37, ?hy37⟩) (by assumption) ?rest37
              case hi37 => simp only [List.getElem?_toArray, List.getElem?_cons_succ, List.getElem?_cons_zero]; rfl
              case hq37 => exact fun _ _ _ h => h
              case hw37 => rfl
              case hy37 => (intro w hSw; (try dsimp only at hSw); go_simp; (try (with_reducible rfl)))
              (try simp only [Act.put, List.setIfInBounds_toArray, List.set_cons_zero, List.set_cons_succ])
              refine wpAnyH_take (i := 38) (oi := ?oi38) (v := ?v38) ?hi38 (by kernel_rfl) (by kernel_rfl) (by kernel_rfl) ?hq38 (Or.inl ⟨?hw38, ?hy38⟩) (by assumption) ?rest38
              case hi38 => simp only [List.getElem?_toArray, List.getElem?_cons_succ, List.getElem?_cons_zero]; rfl
              case hq38 => exact fun _ _ _ h => h
              case hw38 => rfl
              case hy38 => (intro w hSw; (try dsimp only at hSw); go_simp; (try (with_reducible rfl)))
              (try simp only [Act.put, List.setIfInBounds_toArray, List.set_cons_zero, List.set_cons_succ])
              refine wpAnyH_done (by kernel_rfl) ?_ _
              (go_wp2_with fail; go_meet; exact ⟨rfl, by (repeat (first | (with_reducible assumption) | (with_reducible exact Below.refl _ _) | (with_reducible refine Below.drew ?_) | (with_reducible refine below_alloc ?_) | (with_reducible refine below_call (by with_reducible assumption) ?_) | (with_reducible refine below_set ?_ (by first | assumption | exact Nat.le_refl _ | omega | (simp; done) | (simp; omega)))))⟩)
            · as_aux_lemma =>
              simp only [Bool.true_and] at h1
              subst h1
              go_region_held3 (fun w' => (w'.cell? ⟨g, 0, none⟩ = some (.int .i64 a) ∧ w'.cell? ⟨g, 1, none⟩ = some (.int .i64 b) ∧ w'.cell? ⟨g, 2, none⟩ = some (.int .i64 c) ∧ w'.cell? ⟨g, 3, none⟩ = some (.int .i64 d)) ∧ (w'.cell? ⟨p, 0, none⟩ = some (.int .i64 (u 0)) ∧ w'.cell? ⟨p, 1, none⟩ = some (.int .i64 (u 1)) ∧ w'.cell? ⟨p, 2, none⟩ = some (.int .i64 (u 2)) ∧ w'.cell? ⟨p, 3, none⟩ = some (.int .i64 (u 3)) ∧ w'.cell? ⟨p, 4, none⟩ = some (.int .i64 (u 4)) ∧ w'.cell? ⟨p, 5, none⟩ = some (.int .i64 0) ∧ w'.cell? ⟨p, 6, none⟩ = some (.int .i64 0) ∧ w'.cell? ⟨p, 7, none⟩ = some (.int .i64 0) ∧ w'.cell? ⟨p, 8, none⟩ = some (.int .i64 0) ∧ w'.cell? ⟨p, 9, none⟩ = some (.int .i64 0) ∧ w'.cell? ⟨p, 10, none⟩ = some (.int .i64 0) ∧ w'.cell? ⟨p, 11, none⟩ = some (.int .i64 0) ∧ w'.cell? ⟨p, 12, none⟩ = some (.bool qe)) ∧ Below W2.heap.size W2 w') ((refine HS3.out _ ?_; (repeat (first | (with_reducible assumption) | (with_reducible exact Below.refl _ _) | (with_reducible refine Below.drew ?_) | (with_reducible refine below_alloc ?_) | (with_reducible refine below_call (by with_reducible assumption) ?_) | (with_reducible refine below_set ?_ (by first | assumption | exact Nat.le_refl _ | omega | (simp; done) | (simp; omega)))))))
                (first | (go_at_call 25; (with_reducible refine (cL1 _).mono ?_); rintro e wL1 ⟨rfl, hbL1⟩; have hBL1 : Below W2.heap.size W2 wL1 := (by (repeat (first | (with_reducible assumption) | (with_reducible exact Below.refl _ _) | (with_reducible refine Below.drew ?_) | (with_reducible refine below_alloc ?_) | (with_reducible refine below_call (by with_reducible assumption) ?_) | (with_reducible refine below_set ?_ (by first | assumption | exact Nat.le_refl _ | omega | (simp; done) | (simp; omega))))))) | (go_at_call 13; (with_reducible refine (cC _).mono ?_); rintro e wC ⟨rfl, hbC⟩; have hBC : Below W2.heap.size W2 wC := (by (repeat (first | (with_reducible assumption) | (with_reducible exact Below.refl _ _) | (with_reducible refine Below.drew ?_) | (with_reducible refine below_alloc ?_) | (with_reducible refine below_call (by with_reducible assumption) ?_) | (with_reducible refine below_set ?_ (by first | assumption | exact Nat.le_refl _ | omega | (simp; done) | (simp; omega))))))) | (go_at_call 13; (with_reducible refine (cD _).mono ?_); rintro e wD ⟨rfl, hbD⟩; have hBD : Below W2.heap.size W2 wD := (by (repeat (first | (with_reducible assumption) | (with_reducible exact Below.refl _ _) | (with_reducible refine Below.drew ?_) | (with_reducible refine below_alloc ?_) | (with_reducible refine below_call (by with_reducible assumption) ?_) | (with_reducible refine below_set ?_ (by first | assumption | exact Nat.le_refl _ | omega | (simp; done) | (simp; omega))))))) | (go_at_call 17; (with_reducible refine (cF _).mono ?_); rintro e wF ⟨rfl, hbF⟩; have hBF : Below W2.heap.size W2 wF := (by (repeat (first | (with_reducible assumption) | (with_reducible exact Below.refl _ _) | (with_reducible refine Below.drew ?_) | (with_reducible refine below_alloc ?_) | (with_reducible refine below_call (by with_reducible assumption) ?_) | (with_reducible refine below_set ?_ (by first | assumption | exact Nat.le_refl _ | omega | (simp; done) | (simp; omega))))))) | (go_at_call 25; (with_reducible refine (cL2 _).mono ?_); rintro e wL2 ⟨rfl, hbL2⟩; have hBL2 : Below W2.heap.size W2 wL2 := (by (repeat (first | (with_reducible assumption) | (with_reducible exact Below.refl _ _) | (with_reducible refine Below.drew ?_) | (with_reducible refine below_alloc ?_) | (with_reducible refine below_call (by with_reducible assumption) ?_) | (with_reducible refine below_set ?_ (by first | assumption | exact Nat.le_refl _ | omega | (simp; done) | (simp; omega))))))))
              all_goals (go_wp2_with fail; go_meet; exact ⟨rfl, by (repeat (first | (with_reducible assumption) | (with_reducible exact Below.refl _ _) | (with_reducible refine Below.drew ?_) | (with_reducible refine below_alloc ?_) | (with_reducible refine below_call (by with_reducible assumption) ?_) | (with_reducible refine below_set ?_ (by first | assumption | exact Nat.le_refl _ | omega | (simp; done) | (simp; omega)))))⟩)
        case rest =>
          obtain ⟨rfl, hB3⟩ := hcut
          have D3 : (wc.cell? ⟨g, 0, none⟩ = some (.int .i64 a) ∧ wc.cell? ⟨g, 1, none⟩ = some (.int .i64 b) ∧ wc.cell? ⟨g, 2, none⟩ = some (.int .i64 c) ∧ wc.cell? ⟨g, 3, none⟩ = some (.int .i64 d)) ∧ (wc.cell? ⟨p, 0, none⟩ = some (.int .i64 (u 0)) ∧ wc.cell? ⟨p, 1, none⟩ = some (.int .i64 (u 1)) ∧ wc.cell? ⟨p, 2, none⟩ = some (.int .i64 (u 2)) ∧ wc.cell? ⟨p, 3, none⟩ = some (.int .i64 (u 3)) ∧ wc.cell? ⟨p, 4, none⟩ = some (.int .i64 (u 4)) ∧ wc.cell? ⟨p, 5, none⟩ = some (.int .i64 0) ∧ wc.cell? ⟨p, 6, none⟩ = some (.int .i64 0) ∧ wc.cell? ⟨p, 7, none⟩ = some (.int .i64 0) ∧ wc.cell? ⟨p, 8, none⟩ = some (.int .i64 0) ∧ wc.cell? ⟨p, 9, none⟩ = some (.int .i64 0) ∧ wc.cell? ⟨p, 10, none⟩ = some (.int .i64 0) ∧ wc.cell? ⟨p, 11, none⟩ = some (.int .i64 0) ∧ wc.cell? ⟨p, 12, none⟩ = some (.bool qe)) := ⟨⟨cell_of hB3 f0, cell_of hB3 f1, cell_of hB3 f2, cell_of hB3 f3⟩, ⟨cell_of hB3 e0, cell_of hB3 e1, cell_of hB3 e2, cell_of hB3 e3, cell_of hB3 e4, cell_of hB3 e5, cell_of hB3 e6, cell_of hB3 e7, cell_of hB3 e8, cell_of hB3 e9, cell_of hB3 e10, cell_of hB3 e11, cell_of hB3 e12⟩⟩
          have HB3 : Hid (Below g w wc) := HB2.out.trans (hB3.mono (Nat.le_of_lt hg2))
          have hcs := ranges_cases a b n pf pn ok pk HI.out HP.out
          have HFa : Hid (fit a ∧ fit b ∧ fit c ∧ fit d) := HL
          have hg3 : g < wc.heap.size := World.block_lt_of_cell? wc _ D3.1.1
          clear f0 f1 f2 f3 e0 e1 e2 e3 e4 e5 e6 e7 e8 e9 e10 e11 e12 HS3 HD2 HB2 hB3 HO HL HI HP hg2 cL1 cL2 cC cD cF cW hbnd
          obtain ⟨⟨f0, f1, f2, f3⟩, e0, e1, e2, e3, e4, e5, e6, e7, e8, e9, e10, e11, e12⟩ := D3
          generalize wc = W3 at *
          have hgl : ∀ w8, Below W3.heap.size W3 w8 → Below g w w8 := fun w8 hb => HB3.out.trans (hb.mono (Nat.le_of_lt hg3))
          clear hg3
          have hA : fit a := HFa.out.1
          rcases hcs with ⟨rfl, rfl, rfl, hq⟩ | ⟨rfl, rfl, h1, rfl, rfl, rfl, rfl⟩ | ⟨rfl, rfl, h1, h2, hn, h3, hpf, hpn⟩
          · as_aux_lemma =>
            clear hA
            rcases hq with h1 | ⟨h1, h2⟩ | ⟨h1, h2, rfl⟩
            all_goals
              go_wp2_with (first
                | (go_at_call 26; (with_reducible refine (cO _).mono ?_); rintro e w4 ⟨rfl, rfl⟩)
                | (go_at_call 27; (with_reducible refine (cP _).mono ?_); rintro e w5 ⟨rfl, rfl⟩)
                | (go_at_call 28; (with_reducible refine (cI _).mono ?_); rintro e w8 ⟨rfl, hb8⟩; have k0 := cell_of hb8 f0; have k1 := cell_of hb8 f1; have T8 := (show Hid _ from hgl _ hb8); clear hb8)
                | (go_at_call 19; (with_reducible refine (cK _).mono ?_); rintro e w9 ⟨rfl, rfl⟩))
              go_ret
              exact ⟨rfl, by rw [HG.out]; exact T8.out⟩
          · as_aux_lemma =>
            have q1 : wrap64 (n.tdiv 64) = n / 64 := div64 n hA h1
            clear hA
            go_wp2_with (first
              | (go_at_call 26; (with_reducible refine (cO _).mono ?_); rintro e w4 ⟨rfl, rfl⟩)
              | (go_at_call 27; (with_reducible refine (cP _).mono ?_); rintro e w5 ⟨rfl, rfl⟩)
              | (go_at_call 28; (with_reducible refine (cI _).mono ?_); rintro e w8 ⟨rfl, hb8⟩; have k0 := cell_of hb8 f0; have k1 := cell_of hb8 f1; have T8 := (show Hid _ from hgl _ hb8); clear hb8)
              | (go_at_call 19; (with_reducible refine (cK _).mono ?_); rintro e w9 ⟨rfl, rfl⟩))
            go_ret
            exact ⟨rfl, by rw [HG.out]; exact T8.out⟩
          · as_aux_lemma =>
            have q1 : wrap64 (a.tdiv 64) = pf := by rw [div64 a hA h1, hpf]
            have q2 : wrap64 ((n - 1).tdiv 64) = pf + pn - 1 := by
              rw [div64 (n - 1) (by unfold fit; omega) (by omega), hpf, hpn, hn]
              omega
            have q3 : a / 64 = pf := hpf.symm
            have q4 : (n - 1) / 64 = pf + pn - 1 := by rw [hpf, hpn, hn]; omega
            have b1 : 0 ≤ pf := by omega
            have b2 : 1 ≤ pn := by omega
            have b3 : pf + pn ≤ 9223372036854775807 := by omega
            have b4 : 1 ≤ n := by omega
            have b5 : n ≤ 9223372036854775807 := by omega
            have b6 : (b == 0) = false := by simp; omega
            clear hA hpf hpn hn
            go_wp2_with (first
              | (go_at_call 26; (with_reducible refine (cO _).mono ?_); rintro e w4 ⟨rfl, rfl⟩)
              | (go_at_call 27; (with_reducible refine (cP _).mono ?_); rintro e w5 ⟨rfl, rfl⟩)
              | (go_at_call 28; (with_reducible refine (cI _).mono ?_); rintro e w8 ⟨rfl, hb8⟩; have k0 := cell_of hb8 f0; have k1 := cell_of hb8 f1; have T8 := (show Hid _ from hgl _ hb8); clear hb8)
              | (go_at_call 19; (with_reducible refine (cK _).mono ?_); rintro e w9 ⟨rfl, rfl⟩))
            go_ret
            exact ⟨rfl, by rw [HG.out]; exact T8.out⟩
end Go.Proofs.Yteoedpghpijkaaa
