/-
  The statement NumRanges: its walk over the contracts of what it calls.
-/
import Derived.Test.YtobjmngfikmdhaaNumRangesB
import Derived.Test.YtobjmngfikmdhaaNumRangesC
import Derived.Lib.Hide
import Derived.WalkKit
import Derived.ProofKit
import Derived.Outline
import Derived.LoopN
import Derived.WalkSmall
import Derived.Deep.QuietTactic
import Derived.BigQuiet
import Derived.Deep.RegionHeld3
import Derived.Deep.DeepCutAuto
namespace Go.Proofs.Ytobjmngfikmdhaa
open Go.ChangeShapes Go.WideShapes Go.ChangeAt Go.RowKit
theorem ranges_cases (a b n pf pn : Int) (ok pk : Bool) (hi : ok = true ∧ n = a + b ∧ fit (a + b) ∨ ok = false ∧ n = 0 ∧ ¬ fit (a + b))
    (hp : pk = true ∧ 0 ≤ a ∧ 0 ≤ b ∧ fit (a + b) ∧ pf = a / 64 ∧ (b = 0 ∧ pn = 0 ∨ 1 ≤ b ∧ pn = (a + b - 1) / 64 - a / 64 + 1) ∨ pk = false ∧ pf = 0 ∧ pn = 0 ∧ ¬ (0 ≤ a ∧ 0 ≤ b ∧ fit (a + b))) :
    (pk = false ∧ pf = 0 ∧ pn = 0 ∧ (a < 0 ∨ 0 ≤ a ∧ b < 0 ∨ 0 ≤ a ∧ 0 ≤ b ∧ ok = false)) ∨
    (pk = true ∧ ok = true ∧ 0 ≤ a ∧ b = 0 ∧ n = a ∧ pf = a / 64 ∧ pn = 0) ∨
    (pk = true ∧ ok = true ∧ 0 ≤ a ∧ 1 ≤ b ∧ n = a + b ∧ a + b ≤ 9223372036854775807 ∧ pf = a / 64 ∧ pn = (a + b - 1) / 64 - a / 64 + 1) := by
  rcases hp with ⟨h1, h2, h3, h4, h5, h6⟩ | ⟨h1, h2, h3, h4⟩
  · rcases hi with ⟨g1, g2, g3⟩ | ⟨g1, g2, g3⟩
    · rcases h6 with ⟨k1, k2⟩ | ⟨k1, k2⟩
      · exact .inr (.inl ⟨h1, g1, h2, k1, by omega, h5, k2⟩)
      · exact .inr (.inr ⟨h1, g1, h2, k1, g2, g3.2, h5, k2⟩)
    · exact absurd h4 g3
  · refine .inl ⟨h1, h2, h3, ?_⟩
    by_cases x : a < 0
    · exact .inl x
    · by_cases y : b < 0
      · exact .inr (.inl ⟨by omega, y⟩)
      · rcases hi with ⟨g1, g2, g3⟩ | ⟨g1, g2, g3⟩
        · exact absurd ⟨by omega, by omega, g3⟩ h4
        · exact .inr (.inr ⟨by omega, by omega, g1⟩)
theorem div64 (a : Int) (h : fit a) (h0 : 0 ≤ a) : wrap64 (a.tdiv 64) = a / 64 := by
  rw [Int.tdiv_eq_ediv_of_nonneg h0]
  have h1 := h.2
  have h2 : 0 ≤ a / 64 := by omega
  have h3 : a / 64 ≤ 9223372036854775807 := by omega
  generalize a / 64 = x at *
  unfold wrap64
  omega
set_option maxRecDepth 100000 in
set_option maxHeartbeats 60000000 in
theorem ranges_over (a b c d n pf pn : Int) (sa sb sc sd qe qr qf ok l1 l2 wv ov pk : Bool) (pa pb pc pd u r f : Nat → Int) (w : World)
    (cA : ∀ w, Calls Try.prog 13 #[.int .i64 a] w fun e w' => e = .returned (.agg #[.int .i64 (pa 0), .int .i64 (pa 1), .int .i64 (pa 2), .int .i64 (pa 3), .int .i64 (pa 4), .int .i64 0, .int .i64 0, .int .i64 0, .int .i64 0, .int .i64 0, .int .i64 0, .int .i64 0, .bool sa]) ∧ Below w.heap.size w w')
    (cB : ∀ w, Calls Try.prog 13 #[.int .i64 b] w fun e w' => e = .returned (.agg #[.int .i64 (pb 0), .int .i64 (pb 1), .int .i64 (pb 2), .int .i64 (pb 3), .int .i64 (pb 4), .int .i64 0, .int .i64 0, .int .i64 0, .int .i64 0, .int .i64 0, .int .i64 0, .int .i64 0, .bool sb]) ∧ Below w.heap.size w w')
    (cC : ∀ w, Calls Try.prog 13 #[.int .i64 c] w fun e w' => e = .returned (.agg #[.int .i64 (pc 0), .int .i64 (pc 1), .int .i64 (pc 2), .int .i64 (pc 3), .int .i64 (pc 4), .int .i64 0, .int .i64 0, .int .i64 0, .int .i64 0, .int .i64 0, .int .i64 0, .int .i64 0, .bool sc]) ∧ Below w.heap.size w w')
    (cD : ∀ w, Calls Try.prog 13 #[.int .i64 d] w fun e w' => e = .returned (.agg #[.int .i64 (pd 0), .int .i64 (pd 1), .int .i64 (pd 2), .int .i64 (pd 3), .int .i64 (pd 4), .int .i64 0, .int .i64 0, .int .i64 0, .int .i64 0, .int .i64 0, .int .i64 0, .int .i64 0, .bool sd]) ∧ Below w.heap.size w w')
    (cE : ∀ w, Calls Try.prog 17 #[.agg #[.int .i64 (pa 0), .int .i64 (pa 1), .int .i64 (pa 2), .int .i64 (pa 3), .int .i64 (pa 4), .int .i64 0, .int .i64 0, .int .i64 0, .int .i64 0, .int .i64 0, .int .i64 0, .int .i64 0, .bool sa], .agg #[.int .i64 (pb 0), .int .i64 (pb 1), .int .i64 (pb 2), .int .i64 (pb 3), .int .i64 (pb 4), .int .i64 0, .int .i64 0, .int .i64 0, .int .i64 0, .int .i64 0, .int .i64 0, .int .i64 0, .bool sb]] w fun e w' => e = .returned (.agg #[.int .i64 (u 0), .int .i64 (u 1), .int .i64 (u 2), .int .i64 (u 3), .int .i64 (u 4), .int .i64 0, .int .i64 0, .int .i64 0, .int .i64 0, .int .i64 0, .int .i64 0, .int .i64 0, .bool qe]) ∧ Below w.heap.size w w')
    (cT : ∀ w, Calls Try.prog 18 #[.agg #[.int .i64 (u 0), .int .i64 (u 1), .int .i64 (u 2), .int .i64 (u 3), .int .i64 (u 4), .int .i64 0, .int .i64 0, .int .i64 0, .int .i64 0, .int .i64 0, .int .i64 0, .int .i64 0, .bool qe]] w fun e w' => e = .returned (.agg #[.int .i64 (u 0), .int .i64 (u 1), .int .i64 (u 2), .int .i64 (u 3), .int .i64 (u 4), .int .i64 0, .int .i64 0, .int .i64 0, .int .i64 0, .int .i64 0, .int .i64 0, .int .i64 0, .bool (!qe)]) ∧ Below w.heap.size w w')
    (cR : ∀ w, Calls Try.prog 17 #[.agg #[.int .i64 (pc 0), .int .i64 (pc 1), .int .i64 (pc 2), .int .i64 (pc 3), .int .i64 (pc 4), .int .i64 0, .int .i64 0, .int .i64 0, .int .i64 0, .int .i64 0, .int .i64 0, .int .i64 0, .bool sc], .agg #[.int .i64 (u 0), .int .i64 (u 1), .int .i64 (u 2), .int .i64 (u 3), .int .i64 (u 4), .int .i64 0, .int .i64 0, .int .i64 0, .int .i64 0, .int .i64 0, .int .i64 0, .int .i64 0, .bool (!qe)]] w fun e w' => e = .returned (.agg #[.int .i64 (r 0), .int .i64 (r 1), .int .i64 (r 2), .int .i64 (r 3), .int .i64 (r 4), .int .i64 0, .int .i64 0, .int .i64 0, .int .i64 0, .int .i64 0, .int .i64 0, .int .i64 0, .bool qr]) ∧ Below w.heap.size w w')
    (cI : ∀ w, Calls Try.prog 28 #[.agg #[.int .i64 (u 0), .int .i64 (u 1), .int .i64 (u 2), .int .i64 (u 3), .int .i64 (u 4), .int .i64 0, .int .i64 0, .int .i64 0, .int .i64 0, .int .i64 0, .int .i64 0, .int .i64 0, .bool qe]] w fun e w' => e = .returned (.tuple #[.int .i64 n, .bool ok]) ∧ Below w.heap.size w w')
    (cF : ∀ w, Calls Try.prog 17 #[.agg #[.int .i64 (pc 0), .int .i64 (pc 1), .int .i64 (pc 2), .int .i64 (pc 3), .int .i64 (pc 4), .int .i64 0, .int .i64 0, .int .i64 0, .int .i64 0, .int .i64 0, .int .i64 0, .int .i64 0, .bool sc], .agg #[.int .i64 (pd 0), .int .i64 (pd 1), .int .i64 (pd 2), .int .i64 (pd 3), .int .i64 (pd 4), .int .i64 0, .int .i64 0, .int .i64 0, .int .i64 0, .int .i64 0, .int .i64 0, .int .i64 0, .bool sd]] w fun e w' => e = .returned (.agg #[.int .i64 (f 0), .int .i64 (f 1), .int .i64 (f 2), .int .i64 (f 3), .int .i64 (f 4), .int .i64 0, .int .i64 0, .int .i64 0, .int .i64 0, .int .i64 0, .int .i64 0, .int .i64 0, .bool qf]) ∧ Below w.heap.size w w')
    (cL1 : ∀ w, Calls Try.prog 25 #[.int .i64 c, .agg #[.int .i64 (u 0), .int .i64 (u 1), .int .i64 (u 2), .int .i64 (u 3), .int .i64 (u 4), .int .i64 0, .int .i64 0, .int .i64 0, .int .i64 0, .int .i64 0, .int .i64 0, .int .i64 0, .bool qe]] w fun e w' => e = .returned (.bool l1) ∧ Below w.heap.size w w')
    (cL2 : ∀ w, Calls Try.prog 25 #[.int .i64 a, .agg #[.int .i64 (f 0), .int .i64 (f 1), .int .i64 (f 2), .int .i64 (f 3), .int .i64 (f 4), .int .i64 0, .int .i64 0, .int .i64 0, .int .i64 0, .int .i64 0, .int .i64 0, .int .i64 0, .bool qf]] w fun e w' => e = .returned (.bool l2) ∧ Below w.heap.size w w')
    (cW : ∀ w, Calls Try.prog 24 #[.int .i64 a, .int .i64 b, .int .i64 c] w fun e w' => e = .returned (.bool wv) ∧ w = w')
    (cO : ∀ w, Calls Try.prog 26 #[.int .i64 a, .int .i64 b, .int .i64 c, .int .i64 d] w fun e w' => e = .returned (.bool ov) ∧ w = w')
    (cP : ∀ w, Calls Try.prog 27 #[.int .i64 a, .int .i64 b] w fun e w' => e = .returned (.tuple #[.int .i64 pf, .int .i64 pn, .bool pk]) ∧ w = w')
    (cK : ∀ w, Calls Try.prog 19 #[] w fun e w' => e = .returned (.bool true) ∧ w = w')
    (HW : Hid (wv = true ↔ 0 ≤ a ∧ 0 ≤ b ∧ (qr = false ∨ r 0 = 0 ∧ r 1 = 0 ∧ r 2 = 0 ∧ r 3 = 0 ∧ r 4 = 0)))
    (HO : Hid (ov = true ↔ 0 ≤ a ∧ 1 ≤ b ∧ 0 ≤ c ∧ 1 ≤ d ∧ l1 = true ∧ l2 = true))
    (HI : Hid (ok = true ∧ n = a + b ∧ fit (a + b) ∨ ok = false ∧ n = 0 ∧ ¬ fit (a + b)))
    (HL : Hid (fit a ∧ fit b ∧ fit c ∧ fit d))
    (HP : Hid (pk = true ∧ 0 ≤ a ∧ 0 ≤ b ∧ fit (a + b) ∧ pf = a / 64 ∧ (b = 0 ∧ pn = 0 ∨ 1 ≤ b ∧ pn = (a + b - 1) / 64 - a / 64 + 1) ∨ pk = false ∧ pf = 0 ∧ pn = 0 ∧ ¬ (0 ≤ a ∧ 0 ≤ b ∧ fit (a + b)))) :
    Calls Try.prog 6 #[.agg #[.int .i64 a, .int .i64 b, .int .i64 c, .int .i64 d]] w fun e w' => e = .returned (.bool true) ∧ Below w.heap.size w w' := by
  go_enter Try.func6, Try.ntmps6
  go_upto_region 1 with (fail)
  have hbw : Below w.heap.size w (World.alloc w (.cells #[.int .i64 a, .int .i64 b, .int .i64 c, .int .i64 d] 34)) := (Below.refl _ _).alloc (Nat.le_refl _) _
  have F : ((World.alloc w (.cells #[.int .i64 a, .int .i64 b, .int .i64 c, .int .i64 d] 34)).cell? ⟨w.heap.size, 0, none⟩ = some (.int .i64 a) ∧ (World.alloc w (.cells #[.int .i64 a, .int .i64 b, .int .i64 c, .int .i64 d] 34)).cell? ⟨w.heap.size, 1, none⟩ = some (.int .i64 b) ∧ (World.alloc w (.cells #[.int .i64 a, .int .i64 b, .int .i64 c, .int .i64 d] 34)).cell? ⟨w.heap.size, 2, none⟩ = some (.int .i64 c) ∧ (World.alloc w (.cells #[.int .i64 a, .int .i64 b, .int .i64 c, .int .i64 d] 34)).cell? ⟨w.heap.size, 3, none⟩ = some (.int .i64 d)) := by simp
  generalize World.alloc w (.cells #[.int .i64 a, .int .i64 b, .int .i64 c, .int .i64 d] 34) = W at *
  generalize hg : w.heap.size = g at *
  have HG : Hid (w.heap.size = g) := hg
  clear hg
  have HF := (show Hid _ from F)
  have HS : Hid (∀ w', Below W.heap.size W w' → (w'.cell? ⟨g, 0, none⟩ = some (.int .i64 a) ∧ w'.cell? ⟨g, 1, none⟩ = some (.int .i64 b) ∧ w'.cell? ⟨g, 2, none⟩ = some (.int .i64 c) ∧ w'.cell? ⟨g, 3, none⟩ = some (.int .i64 d)) ∧ Below W.heap.size W w') := fun w' hB => ⟨⟨cell_of hB F.1, cell_of hB F.2.1, cell_of hB F.2.2.1, cell_of hB F.2.2.2⟩, hB⟩
  have hgW : g < W.heap.size := World.block_lt_of_cell? W _ F.1
  clear F
  go_cut [3] (fun s3 wx => ∃ p : Nat, s3 = .pointer (some ⟨p, 0, none⟩) ∧ (wx.cell? ⟨p, 0, none⟩ = some (.int .i64 (u 0)) ∧ wx.cell? ⟨p, 1, none⟩ = some (.int .i64 (u 1)) ∧ wx.cell? ⟨p, 2, none⟩ = some (.int .i64 (u 2)) ∧ wx.cell? ⟨p, 3, none⟩ = some (.int .i64 (u 3)) ∧ wx.cell? ⟨p, 4, none⟩ = some (.int .i64 (u 4)) ∧ wx.cell? ⟨p, 5, none⟩ = some (.int .i64 0) ∧ wx.cell? ⟨p, 6, none⟩ = some (.int .i64 0) ∧ wx.cell? ⟨p, 7, none⟩ = some (.int .i64 0) ∧ wx.cell? ⟨p, 8, none⟩ = some (.int .i64 0) ∧ wx.cell? ⟨p, 9, none⟩ = some (.int .i64 0) ∧ wx.cell? ⟨p, 10, none⟩ = some (.int .i64 0) ∧ wx.cell? ⟨p, 11, none⟩ = some (.int .i64 0) ∧ wx.cell? ⟨p, 12, none⟩ = some (.bool qe)) ∧ Below W.heap.size W wx)
  case first =>
    refine reg1 a b c d sa sb qe pa pb u _ _ g W cA cB cE HS hgW (Lib.hid ?_)
    intro y12 y13 y14 y15 y16 y17 y18 y19 y20 y21 y22 y23 y24 y25 y26 y27 y28 y29 y30 y31 y32 y33 y34 y35 y36 y37 y38 y39 y40 y41 y42 y43 y44 y45 y46 y47 y48 y49 y50 y51 y52 y53 y54 y55 y56 y57 y58 y59 y60 y61 y62 y63 y64 y65 y66 y67 y68 y69 y70 y71 y72 y73 y74 y75 y76 y77 y78 y79 y80 y81 y82 y83 y84 y85 y86 y87 y88 y89 y90 y91 y92 y93 y94 y95 y96 y97 y98 y99 y100 y101 y102 y103 y104 y105 y106 y107 y108 y109 y110 y111 y112 y113 y114 y115 y116 y117 y118 y119 y120 y121 y122 y123 y124 y125 y126 y127 y128 y129 y130 y131 y132 y133 y134 y135 y136 y137 y138 y139 y140 y141 y142 y143 y144 y145 y146 y147 y148 y149 y150 y151 y152 y153 y154 y155 y156 y157 y158 y159 y160 y161 y162 y163 y164 y165 y166 y167 y168 y169 y170 y171 y172 y173 y174 p7 w7 hc7 hb7
    go_wp2_with fail
    go_meet
    exact ⟨p7, rfl, hc7, hb7⟩
  case rest =>
    obtain ⟨p, rfl, D, hB⟩ := hcut
    generalize wc = W1 at *
    have HS2 : Hid (∀ w', Below W1.heap.size W1 w' → (w'.cell? ⟨g, 0, none⟩ = some (.int .i64 a) ∧ w'.cell? ⟨g, 1, none⟩ = some (.int .i64 b) ∧ w'.cell? ⟨g, 2, none⟩ = some (.int .i64 c) ∧ w'.cell? ⟨g, 3, none⟩ = some (.int .i64 d)) ∧ (w'.cell? ⟨p, 0, none⟩ = some (.int .i64 (u 0)) ∧ w'.cell? ⟨p, 1, none⟩ = some (.int .i64 (u 1)) ∧ w'.cell? ⟨p, 2, none⟩ = some (.int .i64 (u 2)) ∧ w'.cell? ⟨p, 3, none⟩ = some (.int .i64 (u 3)) ∧ w'.cell? ⟨p, 4, none⟩ = some (.int .i64 (u 4)) ∧ w'.cell? ⟨p, 5, none⟩ = some (.int .i64 0) ∧ w'.cell? ⟨p, 6, none⟩ = some (.int .i64 0) ∧ w'.cell? ⟨p, 7, none⟩ = some (.int .i64 0) ∧ w'.cell? ⟨p, 8, none⟩ = some (.int .i64 0) ∧ w'.cell? ⟨p, 9, none⟩ = some (.int .i64 0) ∧ w'.cell? ⟨p, 10, none⟩ = some (.int .i64 0) ∧ w'.cell? ⟨p, 11, none⟩ = some (.int .i64 0) ∧ w'.cell? ⟨p, 12, none⟩ = some (.bool qe)) ∧ Below W1.heap.size W1 w') := fun w' hB' => ⟨(HS.out _ (hB.trans (hB'.mono hB.size))).1, ⟨cell_of hB' D.1, cell_of hB' D.2.1, cell_of hB' D.2.2.1, cell_of hB' D.2.2.2.1, cell_of hB' D.2.2.2.2.1, cell_of hB' D.2.2.2.2.2.1, cell_of hB' D.2.2.2.2.2.2.1, cell_of hB' D.2.2.2.2.2.2.2.1, cell_of hB' D.2.2.2.2.2.2.2.2.1, cell_of hB' D.2.2.2.2.2.2.2.2.2.1, cell_of hB' D.2.2.2.2.2.2.2.2.2.2.1, cell_of hB' D.2.2.2.2.2.2.2.2.2.2.2.1, cell_of hB' D.2.2.2.2.2.2.2.2.2.2.2.2⟩, hB'⟩
    have hgc : g < W1.heap.size := Nat.lt_of_lt_of_le hgW hB.size
    have hpc : p < W1.heap.size := World.block_lt_of_cell? W1 _ D.1
    have HB : Hid (Below g w W1) := hbw.trans (hB.mono (Nat.le_of_lt hgW))
    have HD := (show Hid _ from D)
    clear D hB hbw HS hgW
    go_upto_region 2 with (fail)
    go_cut [4] (fun s4 wx => ∃ p2 : Nat, s4 = .pointer (some ⟨p2, 0, none⟩) ∧ (wx.cell? ⟨p2, 0, none⟩ = some (.int .i64 (r 0)) ∧ wx.cell? ⟨p2, 1, none⟩ = some (.int .i64 (r 1)) ∧ wx.cell? ⟨p2, 2, none⟩ = some (.int .i64 (r 2)) ∧ wx.cell? ⟨p2, 3, none⟩ = some (.int .i64 (r 3)) ∧ wx.cell? ⟨p2, 4, none⟩ = some (.int .i64 (r 4)) ∧ wx.cell? ⟨p2, 5, none⟩ = some (.int .i64 0) ∧ wx.cell? ⟨p2, 6, none⟩ = some (.int .i64 0) ∧ wx.cell? ⟨p2, 7, none⟩ = some (.int .i64 0) ∧ wx.cell? ⟨p2, 8, none⟩ = some (.int .i64 0) ∧ wx.cell? ⟨p2, 9, none⟩ = some (.int .i64 0) ∧ wx.cell? ⟨p2, 10, none⟩ = some (.int .i64 0) ∧ wx.cell? ⟨p2, 11, none⟩ = some (.int .i64 0) ∧ wx.cell? ⟨p2, 12, none⟩ = some (.bool qr)) ∧ Below W1.heap.size W1 wx)
    case first =>
      refine reg2 a b c d sc qe qr pc u r _ _ g p W1 _ _ _ _ _ _ _ _ _ _ _ _ _ _ _ _ _ _ _ _ _ _ _ _ _ _ _ _ _ _ _ _ _ _ _ _ _ _ _ _ _ _ _ _ _ _ _ _ _ _ _ _ _ _ _ _ _ _ _ _ _ _ _ _ _ _ _ _ _ _ _ _ _ _ _ _ _ _ _ _ _ _ _ _ _ _ _ _ _ _ _ _ _ _ _ _ _ _ _ _ _ _ _ _ _ _ _ _ _ _ _ _ _ _ _ _ _ _ _ _ _ _ _ _ _ _ _ _ _ _ _ _ _ _ _ _ _ _ _ _ _ _ _ _ _ _ _ _ _ _ _ _ _ _ _ _ _ _ _ _ _ _ _ cC cT cR HS2 hgc hpc (Lib.hid ?_)
      intro y12 y13 y14 y15 y16 y17 y18 y19 y20 y21 y22 y23 y24 y25 y26 y27 y28 y29 y30 y31 y32 y33 y34 y35 y36 y37 y38 y39 y40 y41 y42 y43 y44 y45 y46 y47 y48 y49 y50 y51 y52 y53 y54 y55 y56 y57 y58 y59 y60 y61 y62 y63 y64 y65 y66 y67 y68 y69 y70 y71 y72 y73 y74 y75 y76 y77 y78 y79 y80 y81 y82 y83 y84 y85 y86 y87 y88 y89 y90 y91 y92 y93 y94 y95 y96 y97 y98 y99 y100 y101 y102 y103 y104 y105 y106 y107 y108 y109 y110 y111 y112 y113 y114 y115 y116 y117 y118 y119 y120 y121 y122 y123 y124 y125 y126 y127 y128 y129 y130 y131 y132 y133 y134 y135 y136 y137 y138 y139 y140 y141 y142 y143 y144 y145 y146 y147 y148 y149 y150 y151 y152 y153 y154 y155 y156 y157 y158 y159 y160 y161 y162 y163 y164 y165 y166 y167 y168 y169 y170 y171 y172 y173 y174 p7 w7 hc7 hb7
      go_wp2_with fail
      go_meet
      exact ⟨p7, rfl, hc7, hb7⟩
    case rest =>
      obtain ⟨p2, rfl, D2, hB2⟩ := hcut
      generalize wc = W2 at *
      have D1 : (W2.cell? ⟨g, 0, none⟩ = some (.int .i64 a) ∧ W2.cell? ⟨g, 1, none⟩ = some (.int .i64 b) ∧ W2.cell? ⟨g, 2, none⟩ = some (.int .i64 c) ∧ W2.cell? ⟨g, 3, none⟩ = some (.int .i64 d)) ∧ (W2.cell? ⟨p, 0, none⟩ = some (.int .i64 (u 0)) ∧ W2.cell? ⟨p, 1, none⟩ = some (.int .i64 (u 1)) ∧ W2.cell? ⟨p, 2, none⟩ = some (.int .i64 (u 2)) ∧ W2.cell? ⟨p, 3, none⟩ = some (.int .i64 (u 3)) ∧ W2.cell? ⟨p, 4, none⟩ = some (.int .i64 (u 4)) ∧ W2.cell? ⟨p, 5, none⟩ = some (.int .i64 0) ∧ W2.cell? ⟨p, 6, none⟩ = some (.int .i64 0) ∧ W2.cell? ⟨p, 7, none⟩ = some (.int .i64 0) ∧ W2.cell? ⟨p, 8, none⟩ = some (.int .i64 0) ∧ W2.cell? ⟨p, 9, none⟩ = some (.int .i64 0) ∧ W2.cell? ⟨p, 10, none⟩ = some (.int .i64 0) ∧ W2.cell? ⟨p, 11, none⟩ = some (.int .i64 0) ∧ W2.cell? ⟨p, 12, none⟩ = some (.bool qe)) := ⟨(HS2.out _ hB2).1, (HS2.out _ hB2).2.1⟩
      have HB2 : Hid (Below g w W2) := HB.out.trans (hB2.mono (Nat.le_of_lt hgc))
      have HD2 := (show Hid _ from And.intro D1 D2)
      have hg2 : g < W2.heap.size := World.block_lt_of_cell? W2 _ D1.1.1
      have HB4 := hB2
      clear HB HB4 hB2 HS2 HF HD hgc hpc cA cB cE cT cR
      obtain ⟨⟨f0, f1, f2, f3⟩, e0, e1, e2, e3, e4, e5, e6, e7, e8, e9, e10, e11, e12⟩ := D1
      obtain ⟨d0, d1, d2, d3, d4, d5, d6, d7, d8, d9, d10, d11, d12⟩ := D2
      go_upto_region 3 with (fail)
      go_cut [5] (fun s5 wx => s5 = .bool wv ∧ wx = W2)
      case first =>
        refine reg3 a b c d wv qr r _ _ g p p2 W2 _ _ _ _ _ _ _ _ _ _ _ _ _ _ _ _ _ _ _ _ _ _ _ _ _ _ _ _ _ _ _ _ _ _ _ _ _ _ _ _ _ _ _ _ _ _ _ _ _ _ _ _ _ _ _ _ _ _ _ _ _ _ _ _ _ _ _ _ _ _ _ _ _ _ _ _ _ _ _ _ _ _ _ _ _ _ _ _ _ _ _ _ _ _ _ _ _ _ _ _ _ _ _ _ _ _ _ _ _ _ _ _ _ _ _ _ _ _ _ _ _ _ _ _ _ _ _ _ _ _ _ _ _ _ _ _ _ _ _ _ _ _ _ _ _ _ _ _ _ _ _ _ _ _ _ _ _ _ _ _ _ _ _ HW f0 f1 f2 f3 d0 d1 d2 d3 d4 d5 d6 d7 d8 d9 d10 d11 d12 (Lib.hid ?_)
        intro y12 y13 y14 y15 y16 y17 y18 y19 y20 y21 y22 y23 y24 y25 y26 y27 y28 y29 y30 y31 y32 y33 y34 y35 y36 y37 y38 y39 y40 y41 y42 y43 y44 y45 y46 y47 y48 y49 y50 y51 y52 y53 y54 y55 y56 y57 y58 y59 y60 y61 y62 y63 y64 y65 y66 y67 y68 y69 y70 y71 y72 y73 y74 y75 y76 y77 y78 y79 y80 y81 y82 y83 y84 y85 y86 y87 y88 y89 y90 y91 y92 y93 y94 y95 y96 y97 y98 y99 y100 y101 y102 y103 y104 y105 y106 y107 y108 y109 y110 y111 y112 y113 y114 y115 y116 y117 y118 y119 y120 y121 y122 y123 y124 y125 y126 y127 y128 y129 y130 y131 y132 y133 y134 y135 y136 y137 y138 y139 y140 y141 y142 y143 y144 y145 y146 y147 y148 y149 y150 y151 y152 y153 y154 y155 y156 y157 y158 y159 y160 y161 y162 y163 y164 y165 y166 y167 y168 y169 y170 y171 y172 y173 y174
        go_wp2_with fail
        go_meet
        exact ⟨rfl, rfl⟩
      case rest =>
        obtain ⟨rfl, rfl⟩ := hcut
        (try generalize wc = W2 at *)
        clear HW d0 d1 d2 d3 d4 d5 d6 d7 d8 d9 d10 d11 d12
        have hbnd := HL.out
        go_upto_region 6 with (go_at_call 24; (with_reducible refine (cW _).mono ?_); rintro e w' ⟨rfl, rfl⟩)
        have HS3 : Hid (∀ w', Below W2.heap.size W2 w' → (w'.cell? ⟨g, 0, none⟩ = some (.int .i64 a) ∧ w'.cell? ⟨g, 1, none⟩ = some (.int .i64 b) ∧ w'.cell? ⟨g, 2, none⟩ = some (.int .i64 c) ∧ w'.cell? ⟨g, 3, none⟩ = some (.int .i64 d)) ∧ (w'.cell? ⟨p, 0, none⟩ = some (.int .i64 (u 0)) ∧ w'.cell? ⟨p, 1, none⟩ = some (.int .i64 (u 1)) ∧ w'.cell? ⟨p, 2, none⟩ = some (.int .i64 (u 2)) ∧ w'.cell? ⟨p, 3, none⟩ = some (.int .i64 (u 3)) ∧ w'.cell? ⟨p, 4, none⟩ = some (.int .i64 (u 4)) ∧ w'.cell? ⟨p, 5, none⟩ = some (.int .i64 0) ∧ w'.cell? ⟨p, 6, none⟩ = some (.int .i64 0) ∧ w'.cell? ⟨p, 7, none⟩ = some (.int .i64 0) ∧ w'.cell? ⟨p, 8, none⟩ = some (.int .i64 0) ∧ w'.cell? ⟨p, 9, none⟩ = some (.int .i64 0) ∧ w'.cell? ⟨p, 10, none⟩ = some (.int .i64 0) ∧ w'.cell? ⟨p, 11, none⟩ = some (.int .i64 0) ∧ w'.cell? ⟨p, 12, none⟩ = some (.bool qe)) ∧ Below W2.heap.size W2 w') := fun w' hB' => ⟨⟨cell_of hB' f0, cell_of hB' f1, cell_of hB' f2, cell_of hB' f3⟩, ⟨cell_of hB' e0, cell_of hB' e1, cell_of hB' e2, cell_of hB' e3, cell_of hB' e4, cell_of hB' e5, cell_of hB' e6, cell_of hB' e7, cell_of hB' e8, cell_of hB' e9, cell_of hB' e10, cell_of hB' e11, cell_of hB' e12⟩, hB'⟩
        go_cut [6] (fun s6 wx => s6 = .bool ov ∧ Below W2.heap.size W2 wx)
        case first =>
          refine reg6 a b c d sc sd qe qf l1 l2 wv ov pc pd u f _ _ g p p2 W2 _ _ _ _ _ _ _ _ _ _ _ _ _ _ _ _ _ _ _ _ _ _ _ _ _ _ _ _ _ _ _ _ _ _ _ _ _ _ _ _ _ _ _ _ _ _ _ _ _ _ _ _ _ _ _ _ _ _ _ _ _ _ _ _ _ _ _ _ _ _ _ _ _ _ _ _ _ _ _ _ _ _ _ _ _ _ _ _ _ _ _ _ _ _ _ _ _ _ _ _ _ _ _ _ _ _ _ _ _ _ _ _ _ _ _ _ _ _ _ _ _ _ _ _ _ _ _ _ _ _ _ _ _ _ _ _ _ _ _ _ _ _ _ _ _ _ _ _ _ _ _ _ _ _ _ _ _ _ _ _ _ _ _ cC cD cF cL1 cL2 HO f0 f1 f2 f3 HS3 (Lib.hid ?_)
          intro y12 y13 y14 y15 y16 y17 y18 y19 y20 y21 y22 y23 y24 y25 y26 y27 y28 y29 y30 y31 y32 y33 y34 y35 y36 y37 y38 y39 y40 y41 y42 y43 y44 y45 y46 y47 y48 y49 y50 y51 y52 y53 y54 y55 y56 y57 y58 y59 y60 y61 y62 y63 y64 y65 y66 y67 y68 y69 y70 y71 y72 y73 y74 y75 y76 y77 y78 y79 y80 y81 y82 y83 y84 y85 y86 y87 y88 y89 y90 y91 y92 y93 y94 y95 y96 y97 y98 y99 y100 y101 y102 y103 y104 y105 y106 y107 y108 y109 y110 y111 y112 y113 y114 y115 y116 y117 y118 y119 y120 y121 y122 y123 y124 y125 y126 y127 y128 y129 y130 y131 y132 y133 y134 y135 y136 y137 y138 y139 y140 y141 y142 y143 y144 y145 y146 y147 y148 y149 y150 y151 y152 y153 y154 y155 y156 y157 y158 y159 y160 y161 y162 y163 y164 y165 y166 y167 y168 y169 y170 y171 y172 y173 y174 w6 hb6
          go_wp2_with fail
          go_meet
          exact ⟨rfl, hb6⟩
        case rest =>
          obtain ⟨rfl, hB3⟩ := hcut
          have D3 : (wc.cell? ⟨g, 0, none⟩ = some (.int .i64 a) ∧ wc.cell? ⟨g, 1, none⟩ = some (.int .i64 b) ∧ wc.cell? ⟨g, 2, none⟩ = some (.int .i64 c) ∧ wc.cell? ⟨g, 3, none⟩ = some (.int .i64 d)) ∧ (wc.cell? ⟨p, 0, none⟩ = some (.int .i64 (u 0)) ∧ wc.cell? ⟨p, 1, none⟩ = some (.int .i64 (u 1)) ∧ wc.cell? ⟨p, 2, none⟩ = some (.int .i64 (u 2)) ∧ wc.cell? ⟨p, 3, none⟩ = some (.int .i64 (u 3)) ∧ wc.cell? ⟨p, 4, none⟩ = some (.int .i64 (u 4)) ∧ wc.cell? ⟨p, 5, none⟩ = some (.int .i64 0) ∧ wc.cell? ⟨p, 6, none⟩ = some (.int .i64 0) ∧ wc.cell? ⟨p, 7, none⟩ = some (.int .i64 0) ∧ wc.cell? ⟨p, 8, none⟩ = some (.int .i64 0) ∧ wc.cell? ⟨p, 9, none⟩ = some (.int .i64 0) ∧ wc.cell? ⟨p, 10, none⟩ = some (.int .i64 0) ∧ wc.cell? ⟨p, 11, none⟩ = some (.int .i64 0) ∧ wc.cell? ⟨p, 12, none⟩ = some (.bool qe)) := ⟨⟨cell_of hB3 f0, cell_of hB3 f1, cell_of hB3 f2, cell_of hB3 f3⟩, ⟨cell_of hB3 e0, cell_of hB3 e1, cell_of hB3 e2, cell_of hB3 e3, cell_of hB3 e4, cell_of hB3 e5, cell_of hB3 e6, cell_of hB3 e7, cell_of hB3 e8, cell_of hB3 e9, cell_of hB3 e10, cell_of hB3 e11, cell_of hB3 e12⟩⟩
          have HB3 : Hid (Below g w wc) := HB2.out.trans (hB3.mono (Nat.le_of_lt hg2))
          have hcs := ranges_cases a b n pf pn ok pk HI.out HP.out
          have HFa : Hid (fit a ∧ fit b ∧ fit c ∧ fit d) := HL
          have hg3 : g < wc.heap.size := World.block_lt_of_cell? wc _ D3.1.1
          clear f0 f1 f2 f3 e0 e1 e2 e3 e4 e5 e6 e7 e8 e9 e10 e11 e12 HS3 HD2 HB2 hB3 HO HL HI HP hg2 cL1 cL2 cC cD cF cW hbnd
          obtain ⟨⟨f0, f1, f2, f3⟩, e0, e1, e2, e3, e4, e5, e6, e7, e8, e9, e10, e11, e12⟩ := D3
          generalize wc = W3 at *
          have hgl : ∀ w8, Below W3.heap.size W3 w8 → Below g w w8 := fun w8 hb => HB3.out.trans (hb.mono (Nat.le_of_lt hg3))
          clear hg3
          have hA : fit a := HFa.out.1
          rcases hcs with ⟨rfl, rfl, rfl, hq⟩ | ⟨rfl, rfl, h1, rfl, rfl, rfl, rfl⟩ | ⟨rfl, rfl, h1, h2, hn, h3, hpf, hpn⟩
          · skip
            clear hA
            rcases hq with h1 | ⟨h1, h2⟩ | ⟨h1, h2, rfl⟩
            all_goals
              go_wp2_with (first
                | (go_at_call 26; (with_reducible refine (cO _).mono ?_); rintro e w4 ⟨rfl, rfl⟩)
                | (go_at_call 27; (with_reducible refine (cP _).mono ?_); rintro e w5 ⟨rfl, rfl⟩)
                | (go_at_call 28; (with_reducible refine (cI _).mono ?_); rintro e w8 ⟨rfl, hb8⟩; have k0 := cell_of hb8 f0; have k1 := cell_of hb8 f1; have T8 := (show Hid _ from hgl _ hb8); clear hb8)
                | (go_at_call 19; (with_reducible refine (cK _).mono ?_); rintro e w9 ⟨rfl, rfl⟩))
              go_ret
              exact ⟨rfl, by rw [HG.out]; exact T8.out⟩
          · skip
            have q1 : wrap64 (n.tdiv 64) = n / 64 := div64 n hA h1
            clear hA
            go_wp2_with (first
              | (go_at_call 26; (with_reducible refine (cO _).mono ?_); rintro e w4 ⟨rfl, rfl⟩)
              | (go_at_call 27; (with_reducible refine (cP _).mono ?_); rintro e w5 ⟨rfl, rfl⟩)
              | (go_at_call 28; (with_reducible refine (cI _).mono ?_); rintro e w8 ⟨rfl, hb8⟩; have k0 := cell_of hb8 f0; have k1 := cell_of hb8 f1; have T8 := (show Hid _ from hgl _ hb8); clear hb8)
              | (go_at_call 19; (with_reducible refine (cK _).mono ?_); rintro e w9 ⟨rfl, rfl⟩))
            go_ret
            exact ⟨rfl, by rw [HG.out]; exact T8.out⟩
          · skip
            have q1 : wrap64 (a.tdiv 64) = pf := by rw [div64 a hA h1, hpf]
            have q2 : wrap64 ((n - 1).tdiv 64) = pf + pn - 1 := by
              rw [div64 (n - 1) (by unfold fit; omega) (by omega), hpf, hpn, hn]
              omega
            have q3 : a / 64 = pf := hpf.symm
            have q4 : (n - 1) / 64 = pf + pn - 1 := by rw [hpf, hpn, hn]; omega
            have b1 : 0 ≤ pf := by omega
            have b2 : 1 ≤ pn := by omega
            have b3 : pf + pn ≤ 9223372036854775807 := by omega
            have b4 : 1 ≤ n := by omega
            have b5 : n ≤ 9223372036854775807 := by omega
            have b6 : (b == 0) = false := by simp; omega
            clear hA hpf hpn hn
            go_wp2_with (first
              | (go_at_call 26; (with_reducible refine (cO _).mono ?_); rintro e w4 ⟨rfl, rfl⟩)
              | (go_at_call 27; (with_reducible refine (cP _).mono ?_); rintro e w5 ⟨rfl, rfl⟩)
              | (go_at_call 28; (with_reducible refine (cI _).mono ?_); rintro e w8 ⟨rfl, hb8⟩; have k0 := cell_of hb8 f0; have k1 := cell_of hb8 f1; have T8 := (show Hid _ from hgl _ hb8); clear hb8)
              | (go_at_call 19; (with_reducible refine (cK _).mono ?_); rintro e w9 ⟨rfl, rfl⟩))
            go_ret
            exact ⟨rfl, by rw [HG.out]; exact T8.out⟩
end Go.Proofs.Ytobjmngfikmdhaa
