/-
  PortOnce's walk. No conditions but that the calls can be read.
-/
import Derived.Test.YthlpnpdibkcbnaaLawOnM
import Derived.Deep.LoopGhost
import Derived.OwnWalk
import Derived.Deep.DeepCutAuto
import Derived.Deep.CutBlock
namespace Go.Proofs.Ythlpnpdibkcbnaa
open Go.ChangeShapes Go.WideShapes Go.ChangeAt Go.RowKit

set_option maxRecDepth 20000 in
set_option maxHeartbeats 8000000 in
theorem on_walk (p : Option Addr) (len cap : Nat) (os : List O15) (w : World) (ho : OpsAt w p len os) :
    Calls Try.prog 4 #[.slice p len cap] w fun e w' => e = .returned (.bool true) ∧ Turn NoBlock w w' := by
  have cA := Lib.hid awake15
  have cN := Lib.hid (new_yes 100 50 w (by omega) (by omega))
  have HO := Lib.hid ho
  clear ho
  by_cases hlen : 120 < len
  · have hd : decide ((len : Int) > 120) = true := by simp; omega
    go_enter Try.func4, Try.ntmps4
    go_wp2_with (first
      | (go_at_call 8; (with_reducible refine cN.out.mono ?_); rintro x w1 ⟨c, rfl, k1, -, -⟩; have K1 := Lib.hid k1; clear k1)
      | (go_at_call 9; (with_reducible refine (cA.out _).mono ?_); rintro x w9 ⟨rfl, t9⟩))
    go_ret
    exact ⟨rfl, TT K1.out.turn t9⟩
  · have hl : len ≤ 120 := by omega
    have hd : decide ((len : Int) > 120) = false := by simp; omega
    clear hlen
    go_enter Try.func4, Try.ntmps4
    go_wp2_with (first
      | (go_at_call 8; (with_reducible refine cN.out.mono ?_); rintro x w1 ⟨c, rfl, k1, -, -⟩; have K1 := Lib.hid k1; clear k1))
    go_loopg [4, 5, 6, 32] len (fun z s4 s5 s6 s32 wr => ∃ (i wd fd tk : Nat), z = len - i ∧ i ≤ len ∧ s4 = .int .i64 (wd : Int) ∧ s5 = .int .i64 (fd : Int) ∧ s6 = .int .i64 (tk : Int) ∧ s32 = .int .i64 (i : Int) ∧ Hid (OS w wr c i wd fd tk))
    case atStart => exact ⟨0, 0, 0, 0, rfl, Nat.zero_le _, rfl, rfl, rfl, rfl, Lib.hid (os_of K1.out on_start)⟩
    case round =>
      obtain ⟨i, wd, fd, tk, hz, hi, rfl, rfl, rfl, rfl, HR⟩ := hrel
      by_cases hlt : i < len
      · obtain ⟨x, hx⟩ : ∃ x, os[i]? = some x := ⟨_, List.getElem?_eq_getElem (by rw [HO.out.1]; exact hlt)⟩
        obtain ⟨g, o, rfl, hcell⟩ := HO.out.2 (by omega)
        obtain ⟨hcs, hxf⟩ := hcell i x hx
        obtain ⟨kind, ob, ky, n⟩ := x
        obtain ⟨d0, d1, d2, d3⟩ := op_cells (fun j hj => (show wr.cell? ⟨g, o + i * 4 + j, none⟩ = (O15.mk kind ob ky n).cells[j]? by
          have h1 := hcs j hj
          have h2 : j < (O15.mk kind ob ky n).cells.length := hj
          rw [List.getElem?_eq_getElem h2] at h1 ⊢
          exact HR.out.turn.cell h1 (fun h => h)))
        dsimp only at d0 d1 d2 d3
        rw [Nat.add_zero] at d0
        have HXF := Lib.hid (show fit ob from hxf.2.1)
        have hil : (i : Int) < (len : Int) := by omega
        have hle := HR.out.le
        have hwb : wd ≤ 120 := by omega
        have hfb : fd ≤ 120 := by omega
        have htb : tk ≤ 120 := by omega
        have bx := heap_alloc_new wr (.cells #[.int .i64 kind, .int .i64 ob, .int .i64 ky, .int .i64 n] 32)
        have HRB := Lib.hid (HR.out.past ((Turn.refl NoBlock wr).alloc (.cells #[.int .i64 kind, .int .i64 ob, .int .i64 ky, .int .i64 n] 32)))
        obtain ⟨WB, hWB⟩ : ∃ WB, wr.alloc (.cells #[.int .i64 kind, .int .i64 ob, .int .i64 ky, .int .i64 n] 32) = WB := ⟨_, rfl⟩
        rw [hWB] at bx HRB
        have x0 : WB.cell? ⟨wr.heap.size, 0, none⟩ = some (.int .i64 kind) := cell_at bx 0
        have x1 : WB.cell? ⟨wr.heap.size, 1, none⟩ = some (.int .i64 ob) := cell_at bx 1
        have x3 : WB.cell? ⟨wr.heap.size, 3, none⟩ = some (.int .i64 n) := cell_at bx 3
        clear hcell hcs hx hxf bx hle
        go_upto_block 2 with (fail)
        go_cut [4, 5, 6] (fun s4 s5 s6 wx => ∃ (wd' fd' tk' : Nat), s4 = .int .i64 (wd' : Int) ∧ s5 = .int .i64 (fd' : Int) ∧ s6 = .int .i64 (tk' : Int) ∧ Hid (OS w wx c (i + 1) wd' fd' tk'))
        case first =>
          by_cases q2 : kind = 2
          · have b2 : (kind == 2) = true := by simpa using q2
            clear q2
            go_wp2_with (go_at_call 12; (with_reducible refine (HRB.out.take).mono ?_); rintro e w5 ⟨a, b, d, e, rfl, hx⟩; have hx2 : (e ≠ 0 ∧ Hid (OS w w5 c (i + 1) wd fd tk)) ∨ (e = 0 ∧ b ≠ 0 ∧ Hid (OS w w5 c (i + 1) wd fd (tk + 1))) := (hx.imp (fun h => ⟨h.1, Lib.hid h.2⟩) (fun h => ⟨h.1, h.2.1, Lib.hid h.2.2⟩)); clear hx; rcases hx2 with ⟨he, K5⟩ | ⟨rfl, hb, K5⟩)
            · have he0 : (e == 0) = false := by simp [he]
              go_wp2
              go_meet
              exact ⟨wd, fd, tk, rfl, rfl, rfl, Lib.hid (K5.out.past ((Turn.refl NoBlock _).alloc _))⟩
            · have hb0 : (b != 0) = true := by simp [hb]
              go_wp2
              go_meet
              exact ⟨wd, fd, tk + 1, rfl, rfl, by go_num, Lib.hid (K5.out.past ((Turn.refl NoBlock _).alloc _))⟩
          · have b2 : (kind == 2) = false := by simpa using q2
            by_cases q3 : kind = 3
            · have b3 : (kind == 3) = true := by simpa using q3
              clear q2 q3
              go_wp2_with (go_at_call 15; (with_reducible refine (HRB.out.watch ob n HXF.out).mono ?_); rintro e w5 ⟨e, rfl, hx⟩; have hx2 : (e ≠ 0 ∧ Hid (OS w w5 c (i + 1) wd fd tk)) ∨ (e = 0 ∧ Hid (OS w w5 c (i + 1) (wd + 1) fd tk)) := (hx.imp (fun h => ⟨h.1, Lib.hid h.2⟩) (fun h => ⟨h.1, Lib.hid h.2⟩)); clear hx; rcases hx2 with ⟨he, K5⟩ | ⟨rfl, K5⟩)
              · have he0 : (e == 0) = false := by simp [he]
                go_wp2
                go_meet
                exact ⟨wd, fd, tk, rfl, rfl, rfl, K5⟩
              · go_wp2
                go_meet
                exact ⟨wd + 1, fd, tk, by go_num, rfl, rfl, K5⟩
            · have b3 : (kind == 3) = false := by simpa using q3
              by_cases q4 : kind = 4
              · have b4 : (kind == 4) = true := by simpa using q4
                clear q2 q3 q4
                go_wp2_with (go_at_call 17; (with_reducible refine (HRB.out.tell ob n HXF.out).mono ?_); rintro e w5 ⟨m, rfl, hm, hx⟩; have K5 := Lib.hid hx; clear hx)
                go_meet
                exact ⟨wd, fd + m, tk, rfl, by go_num, rfl, K5⟩
              · have b4 : (kind == 4) = false := by simpa using q4
                clear q2 q3 q4
                go_wp2_with fail
                go_meet
                exact ⟨wd, fd, tk, rfl, rfl, rfl, Lib.hid HRB.out.nothing⟩
        case rest =>
          obtain ⟨wd', fd', tk', rfl, rfl, rfl, HS⟩ := hcut
          obtain ⟨Q, Ws, hst, hon⟩ := HS.out.ex
          have HP := Lib.hid (And.intro hst hon)
          obtain ⟨a, ha⟩ : ∃ a, Ws.length = a := ⟨_, rfl⟩
          obtain ⟨b, hb⟩ : ∃ b, Q.length = b := ⟨_, rfl⟩
          have hw := hon.wlen
          have hq := hon.qlen
          have hf := hst.ok.fired
          rw [hon.users, ha, hb] at hf
          rw [ha] at hw
          rw [hb] at hq
          subst hq
          subst hw
          have hab : a + b ≤ 50 := by omega
          have htk : tk' ≤ 121 := by have := HS.out.le; omega
          have CW := Lib.hid (fun W t => (PSt.past (w' := W) hst t).watches)
          rw [ha] at CW
          have HAB := Lib.hid (And.intro ha hb)
          clear hst hon ha hf x0 x1 x3 d0 d1 d2 d3 hwb hfb htb HR HRB HXF hb
          go_wp2_with (go_at_call 23; (with_reducible refine (HP.out.1.packets).mono ?_); rintro x w6 ⟨v6, rfl, r6, b6, t6⟩; obtain ⟨p6, c6, he6⟩ := WRow.sl r6; rw [HAB.out.2] at he6; subst he6; have R6 := Lib.hid (And.intro r6 t6); clear r6 b6 t6)
          go_loopg [11, 12, 80] b (fun z s11 s12 s80 wr => ∃ (j : Nat) (p : Option Addr) (cap : Nat), z = b - j ∧ j ≤ b ∧ s11 = .int .i64 (j : Int) ∧ s12 = .slice p j cap ∧ s80 = .int .i64 (j : Int) ∧ Hid (Turn NoBlock w6 wr ∧ Nums (.slice p j cap) (kQ (Q.take j)) wr ∧ ∀ k, Blk (.slice p j cap) k → w6.heap.size ≤ k))
          case atStart => exact ⟨0, none, 0, rfl, Nat.zero_le _, rfl, rfl, rfl, Lib.hid ⟨Turn.refl _ _, wrow_nil _ _ _, fun k hk => (blk_nil k hk).elim⟩⟩
          case round =>
            obtain ⟨j, pk, ck, hz2, hj, rfl, rfl, rfl, HJ⟩ := hrel
            by_cases hjb : j < b
            · obtain ⟨pj, hpj⟩ : ∃ pj, Q[j]? = some pj := ⟨_, List.getElem?_eq_getElem (by rw [HAB.out.2]; exact hjb)⟩
              have r6 := R6.out.1.past HJ.out.1
              obtain ⟨g6, o6, c6', he6, -⟩ := WRow.shape r6 (by rw [HAB.out.2]; omega)
              simp only [Value.slice.injEq] at he6
              obtain ⟨rfl, -, rfl⟩ := he6
              obtain ⟨e0, e1, e2⟩ := r6.three hpj
              have hsrc := HP.out.2.src pj (List.mem_of_getElem? hpj)
              have hs0 : (pj.s == 0) = false := by simp; omega
              obtain ⟨kk, ss, vv⟩ := pj
              dsimp only at e0 e1 e2 hs0
              have bx := heap_alloc_new wr (.cells #[.int .i64 kk, .int .i64 ss, .int .i64 vv] 37)
              have tb : Turn NoBlock wr (wr.alloc (.cells #[.int .i64 kk, .int .i64 ss, .int .i64 vv] 37)) := (Turn.refl _ _).alloc _
              obtain ⟨WC, hWC⟩ : ∃ WC, wr.alloc (.cells #[.int .i64 kk, .int .i64 ss, .int .i64 vv] 37) = WC := ⟨_, rfl⟩
              rw [hWC] at bx tb
              obtain ⟨y0, y1, y2⟩ := pk3 bx
              have rk := HJ.out.2.1.past tb
              have hkl : (kQ (Q.take j)).length = j := by unfold kQ; rw [List.length_map, List.length_take, HAB.out.2]; omega
              obtain ⟨p2, n2, cap2, p3, cap3, W3, he3, hn3, hap, hrow3, htn3, hbl3⟩ := nums_push rk kk (by rw [hkl]; omega)
              rw [hkl] at hn3
              subst hn3
              simp only [Value.slice.injEq, true_and] at he3
              obtain ⟨rfl, rfl⟩ := he3
              have hkq : kQ (Q.take n2) ++ [kk] = kQ (Q.take (n2 + 1)) := by unfold kQ; rw [List.take_add_one, hpj, List.map_append]; rfl
              rw [hkq] at hrow3
              have Z0 := Lib.hid (fun (W : World) (t : Turn NoBlock WC W) => t.cell y0 (fun h => h))
              have y0' := Z0.out (WC.alloc (.cells #[.int .i64 kk] 3)) ((Turn.refl _ _).alloc _)
              have R3 := Lib.hid (show Turn NoBlock w6 W3 ∧ Nums (.slice p3 (n2 + 1) cap3) (kQ (Q.take (n2 + 1))) W3 ∧ ∀ k, Blk (.slice p3 (n2 + 1) cap3) k → w6.heap.size ≤ k from by
                have t1 := TT HJ.out.1 tb
                refine ⟨t1.trans htn3 (fun k hk => .inr (HJ.out.2.2 k hk)), hrow3, fun k hk => ?_⟩
                rcases hbl3 k hk with h1 | h1
                · exact HJ.out.2.2 k h1
                · exact Nat.le_trans t1.size h1)
              have HPJ := Lib.hid (And.intro hpj rk)
              have hn50 : n2 ≤ 50 := by omega
              clear r6 hsrc bx tb rk hkl hrow3 htn3 hbl3 hkq hpj
              go_wp2
              go_loopg [91] n2 (fun z s91 wq => ∃ t : Nat, z = n2 - t ∧ t ≤ n2 ∧ s91 = .int .i64 (t : Int) ∧ Hid (WC = wq))
              case atStart => exact ⟨0, rfl, Nat.zero_le _, rfl, Lib.hid rfl⟩
              case round =>
                obtain ⟨t, hz3, ht, rfl, HW⟩ := hrel
                obtain rfl := HW.out
                by_cases htn : t < n2
                · obtain ⟨pt, hpt⟩ : ∃ pt, Q[t]? = some pt := ⟨_, List.getElem?_eq_getElem (by have := HAB.out.2; omega)⟩
                  obtain ⟨gk, ok, ck', hek, -⟩ := WRow.shape HPJ.out.2 (by unfold kQ; rw [List.length_map, List.length_take, HAB.out.2]; omega)
                  simp only [Value.slice.injEq] at hek
                  obtain ⟨rfl, -, rfl⟩ := hek
                  have qk := HPJ.out.2.at (j := t) (x := pt.k) (by unfold kQ; rw [List.getElem?_map, List.getElem?_take_of_lt htn, hpt]; rfl)
                  have hne := HP.out.2.ne htn hpt HPJ.out.1
                  have hne0 : (pt.k == kk) = false := by simpa using hne
                  have hti : (t : Int) < (n2 : Int) := by omega
                  clear hpt hne
                  go_wp2
                  go_roundg (n2 - (t + 1))
                  case measure => omega
                  case rel => exact ⟨t + 1, rfl, by omega, by go_num, Lib.hid rfl⟩
                · obtain rfl : t = n2 := by omega
                  go_wp2_with (at_builtin; refine wpList_append_run (by rfl) (.tmp 100) (.tmp 103) 55 55 (by rfl) _ _ (by rfl) (by rfl) _ _ (hap _) ?_)
                  go_roundg (b - (t + 1))
                  case measure => omega
                  case rel => exact ⟨t + 1, p3, cap3, rfl, by omega, by go_num, rfl, by go_num, R3⟩
            · obtain rfl : j = b := by omega
              have TT6 := Lib.hid (TT R6.out.2 HJ.out.1)
              go_wp2_with (go_at_call 25; (with_reducible refine (CW.out _ TT6.out).mono ?_); rintro x w7 ⟨rfl, rfl⟩)
              go_roundg (len - (i + 1))
              case measure => omega
              case rel => exact ⟨i + 1, _, _, tk', rfl, by omega, rfl, rfl, rfl, by go_num, Lib.hid (HS.out.past TT6.out)⟩
      · obtain rfl : i = len := by omega
        go_wp2_with (first
          | (go_at_call 9; (with_reducible refine (cA.out _).mono ?_); rintro x w9 ⟨rfl, t9⟩))
        go_ret
        exact ⟨rfl, TT HR.out.turn t9⟩
end Go.Proofs.Ythlpnpdibkcbnaa
