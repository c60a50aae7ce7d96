/-
  slices.Replace at pieces, in a row's midst: what it answers, and what it makes of a row of the call's own. No conditions but that the places lie in the row, and that what comes in lies in another block.
-/
import Derived.Test.YtdddmjdlikjedaaGRepl
namespace Go.Proofs.Ytdddmjdlikjedaa
open Go.ChangeShapes Go.WideShapes Go.ChangeAt Go.RowKit

section
variable {w : World} {vb : Value} {l bl : List Pc}
set_option maxRecDepth 20000 in
set_option maxHeartbeats 4000000 in
/-- In the row's midst, and there is no room. -/
theorem rep_grow {g n c : Nat} (h : PRow (.slice (some ⟨g, 0, none⟩) n c) l w) (hb : PRow vb bl w) (hn : l.length = n) (i j : Nat) (hi : i < j) (hj : j < n) (hm : n + bl.length ≤ 1048576) (hg : c < i + bl.length + (n - j)) :
    Calls Try.prog 95 #[.slice (some ⟨g, 0, none⟩) n c, .int .i64 i, .int .i64 j, vb] w fun e w' => ∃ v', e = .returned v' ∧ RowIs w w' (.slice (some ⟨g, 0, none⟩) n c) v' (l.take i ++ bl ++ l.drop j) := by
  obtain ⟨D, cb, rfl, hcl, hD⟩ := cls_of hb
  obtain ⟨hnc, hcm, zs0, -, hF0⟩ := GFull.of h hn
  obtain ⟨m, hmb⟩ : ∃ m, bl.length = m := ⟨_, rfl⟩
  rw [hmb] at hm hg hcl ⊢
  obtain ⟨t, ht⟩ : ∃ t, i + m + (n - j) = t := ⟨_, rfl⟩
  obtain ⟨kk, hkk⟩ : ∃ kk, t - i = kk := ⟨_, rfl⟩
  have hik : i + kk = t := by omega
  obtain ⟨c2, zs, W, hap, hc1, hc2, hF, hzt, tW⟩ := append_make (w := w.drew) h hn i kk (by omega) (by omega) (by omega) (by omega)
  rw [hik] at hap hc1
  obtain ⟨H, hH⟩ : ∃ H, w.heap.size = H := ⟨_, rfl⟩
  have hH2 : w.drew.heap.size = H := hH
  rw [hH2] at hap hF
  obtain ⟨D0, hs0⟩ := slice_lh g n c i j (by omega) (by omega)
  have hs1 := slice_hi g n c i (by omega)
  obtain ⟨D2, hs2, hD2, -⟩ := slice_lo g n c j (by omega) hnc
  obtain ⟨D3, hs3, hD3, -⟩ := slice_lo H t c2 i (by omega) hc1
  obtain ⟨q, hq⟩ : ∃ q, i + m = q := ⟨_, rfl⟩
  obtain ⟨D4, hs4, hD4, -⟩ := slice_lo H t c2 q (by omega) hc1
  have hclW : Cls W D m (pcs bl) := Cls.past (w := w.drew) hcl tW (fun _ _ h => h) (fun a ha => (hD a ha).2.1)
  obtain ⟨W1, hcp1, hF1, tW1⟩ := copy5 (o := i) (dLen := t - i) (dCap := c2 - i) (sCap := cb) hF (fun _ => hD3 (by omega)) (by omega) (by omega) hclW
  rw [hkk] at hs3 hcp1
  have hD2' := hD2 (by omega)
  have hsl : Cls W1.drew D2 (n - j) (pcs (l.drop j)) := by
    have h1 : Cls w.drew D2 (n - j) (pcs (l.drop j)) := cls_tail (w := w.drew) h hn D2 hD2 hj hnc
    refine (h1.past tW (fun _ _ h => h) (fun a ha => by rw [hD2'] at ha; cases ha; rfl)).past tW1.drew (fun a ha e => ?_) (fun a ha => by rw [hD2'] at ha; cases ha; rfl)
    rw [hD2'] at ha
    cases ha
    obtain ⟨cur, hcu⟩ := own_block h (k := g) rfl
    have := lt_of_block hcu
    simp at e
    omega
  obtain ⟨W2, hcp2, hF2, tW2⟩ := copy5 (o := q) (dLen := t - q) (dCap := c2 - q) (sCap := c - j) hF1.drew (fun _ => hD4 (by omega)) (by omega) (by omega) hsl
  have hres : PRow (.slice (some ⟨H, 0, none⟩) t c2) (l.take i ++ bl ++ l.drop j) W2 := by
    refine hF2.prow (by simp [hn, hmb]; omega) hc1 ?_
    have e1 : (gputAt zs (i * 5) (pcs bl)).length = c2 * 5 := hF1.len
    rw [gput_take (by omega) (by rw [pcs_len, List.length_drop, hn]; omega), show q * 5 = i * 5 + (pcs bl).length by rw [pcs_len, hmb]; omega, gput_take (by rw [hF.len]; omega) rfl, hzt, pcs_app, pcs_app]
  have HR := Lib.hid (And.intro hres (And.intro ((Turn.refl NoBlock w).drew.trans tW (fun _ h => .inl h)) (And.intro tW1.drew tW2)))
  have htb : (t : Int) ≤ 2097152 := by omega
  have HH := Lib.hid hH
  have hij : ((i : Int) == (j : Int)) = false := by simp; omega
  have hjn : ((j : Int) == (n : Int)) = false := by simp; omega
  obtain ⟨r, hr⟩ : ∃ r, n - j = r := ⟨_, rfl⟩
  rw [hr] at hs2 hcp2 ht
  have him : (i : Int) + m = (q : Int) := by omega
  have hqr : (q : Int) + r = (t : Int) := by omega
  have htk : (t : Int) - i = (kk : Int) := by omega
  have htc : (c : Int) < t := by omega
  have hqt : q ≤ t := by omega
  clear hH hH2 h hb hcl hD hF0 hF hF1 hF2 hzt hclW hsl hres tW tW1 tW2 hmb hD2 hD3 hD4 hD2' hn hik hkk hq hr ht hg
  go_enter Try.func95, Try.ntmps95
  go_wp2
  go_region
  go_wp2_with (at_builtin; refine Lib.wpList_append_run _ rfl (.tmp 63) (.tmp 66) 65 3 rfl _ _ rfl rfl _ _ (hap _) ?_)
  go_region
  all_goals
    go_wp2
    go_ret
    obtain ⟨r1, r2, r3, r4⟩ := HR.out
    refine ⟨_, rfl, ⟨r1, fun k hk => ?_, ((r2.mono (fun _ h => h.elim)).trans r3 (fun k hk => .inr (by subst hk; exact Nat.le_of_eq HH.out))).trans r4 (fun k hk => .inr (by subst hk; exact Nat.le_of_eq HH.out))⟩⟩
    simp [Blk, Value.ownBlock] at hk
    right
    have := HH.out
    omega
end
end Go.Proofs.Ytdddmjdlikjedaa
