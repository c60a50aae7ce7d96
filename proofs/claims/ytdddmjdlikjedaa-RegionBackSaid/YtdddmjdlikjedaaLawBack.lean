/-
  RegionBack's walk.
-/
import Derived.Test.YtdddmjdlikjedaaGWas
import Derived.Test.YtdddmjdlikjedaaLawPlaces
import Derived.BigQuiet
namespace Go.Proofs.Ytdddmjdlikjedaa
open Go.ChangeShapes Go.WideShapes Go.ChangeAt Go.RowKit

set_option maxRecDepth 20000 in
theorem back_past (p : Option Addr) (len cap : Nat) (x n : Int) (w : World) (h : 30 < len) : Calls Try.prog 10 #[.slice p len cap, .int .i64 x, .int .i64 n] w fun e w' => e = .returned (.bool true) ∧ Turn NoBlock w w' := by
  have cN := new_any 1024 200 w (by unfold isMul; omega) (by omega) (by omega)
  have cA := awake_any
  go_enter Try.func10, Try.ntmps10
  go_wp2_with (first
    | (go_at_call 30; (with_reducible refine cN.mono ?_); rintro e w1 ⟨rfl, rfl⟩)
    | (go_at_call 31; (with_reducible refine (cA _).mono ?_); rintro e w2 ⟨rfl, t2⟩))
  go_ret
  exact ⟨rfl, ((Turn.refl NoBlock w).alloc _).trans t2 (fun _ h => .inl h)⟩

/-- What was found at the first k cells. -/
def WasIs (l : List Pc) (k : Nat) (ws : List Pc) : Prop := ∀ j, j < k → ∃ p, ws[j]? = some p ∧ (HasP l (64 * (j : Int)) p ∨ (p = Pc.zero ∧ Free l (64 * (j : Int))))
theorem WasIs.step {l ws : List Pc} {k : Nat} (h : WasIs l k ws) (hl : k < ws.length) {p : Pc} (hp : HasP l (64 * (k : Int)) p ∨ (p = Pc.zero ∧ Free l (64 * (k : Int)))) : WasIs l (k + 1) (ws.set k p) := by
  intro j hj
  by_cases e : j = k
  · subst e
    exact ⟨p, by rw [List.getElem?_set_self hl], hp⟩
  · obtain ⟨q, h1, h2⟩ := h j (by omega)
    exact ⟨q, by rw [List.getElem?_set_ne (by omega)]; exact h1, h2⟩
/-- A cell of the array. -/
theorem WasAt.five {w : World} {b : Nat} {ws : List Pc} (h : WasAt w b ws) {i : Nat} {p : Pc} (hp : ws[i]? = some p) :
    w.cell? ⟨b, i * 5, none⟩ = some (.int .i64 p.at') ∧ w.cell? ⟨b, i * 5 + 1, none⟩ = some (.int .i64 p.len) ∧ w.cell? ⟨b, i * 5 + 2, none⟩ = some (.int .i64 p.vmo) ∧ w.cell? ⟨b, i * 5 + 3, none⟩ = some (.int .i64 p.from') ∧ w.cell? ⟨b, i * 5 + 4, none⟩ = some (.int .i64 p.prot) := by
  have h1 := h.range
  have h2 : ∀ j v, p.cells[j]? = some v → j < 5 → w.cell? ⟨b, i * 5 + j, none⟩ = some v := fun j v hv hj => by
    have h3 := h1 (i * 5 + j) v (by rw [pcs_at ws i p hp j hj]; exact hv)
    rw [Nat.zero_add] at h3
    exact h3
  exact ⟨h2 0 _ rfl (by omega), h2 1 _ rfl (by omega), h2 2 _ rfl (by omega), h2 3 _ rfl (by omega), h2 4 _ rfl (by omega)⟩

theorem was0_at {j : Nat} (h : j < 16) : was0[j]? = some Pc.zero := by
  unfold was0
  rw [List.getElem?_replicate, if_pos h]
/-- A piece is laid into the array; the region stays. -/
theorem was_put {W w : World} {a b : Nat} {size most : Int} {l ws : List Pc} (g : GT (fun j => j = b) W a size most l w) (h : WasAt w b ws) (hW : W.heap.size ≤ b) (i : Nat) (hi : i < 16) (q : Pc) : GT (fun j => j = b) W a size most l (w.setCells b (i * 5) q.cells) ∧ WasAt (w.setCells b (i * 5) q.cells) b (ws.set i q) :=
  ⟨g.kept (F := fun j => j = b) (gturn_setCells (F := fun j => j = b) rfl _ _ _ _ (Turn.refl _ _)) (fun j hj _ => ⟨hj, by subst hj; exact hW⟩), h.set i hi q⟩
/-- What a cut leaves, with the array. -/
structure BackS (l : List Pc) (x n : Int) (W : World) (a b : Nat) (v : Value) (li l1 ws : List Pc) (w : World) : Prop where
  row : PRow v li w
  cut : CutM l 1024 x n li l1
  gt : GT (fun j => j = b ∨ Blk v j) W a 1024 200 l1 w
  was : WasAt w b ws
/-- Two of an array's pieces, as they are told. -/
theorem sumP_bd2 {li : List Pc} (ok : GOK 1024 li) (k : Nat) : 0 ≤ sumP (li.take k) ∧ sumP (li.take k) ≤ 1024 := by
  have h1 := sumP_low (l := li) (fun p hp => by have := (ok.each p hp).1; omega) k
  have h2 := sumP_bd ok 16 (by omega)
  omega

set_option maxRecDepth 20000 in
set_option maxHeartbeats 4000000 in
theorem back_walk (p : Option Addr) (len cap : Nat) (x n : Int) (ps : Nat → Pc) (w : World) (fx : fit x) (fn : fit n) (h : len ≤ 30) (hp : PcsAt w p len ps) (hok : PcsOK len ps) : Calls Try.prog 10 #[.slice p len cap, .int .i64 x, .int .i64 n] w fun e w' => e = .returned (.bool true) ∧ Turn NoBlock w w' := by
  have cN := new_any 1024 200 w (by unfold isMul; omega) (by omega) (by omega)
  have cA := awake_any
  have g0 := gt_new NoBlock w w (Turn.refl _ _) 1024 200 (by omega) (fun j h => h.elim)
  obtain ⟨a, ha⟩ : ∃ a, w.heap.size = a := ⟨_, rfl⟩
  obtain ⟨W1, hW1⟩ : ∃ W1, W1 = w.alloc (.cells #[.int .i64 1024, .int .i64 200, .slice none 0 0] 114) := ⟨_, rfl⟩
  rw [← hW1, ha] at cN g0
  have HP := Lib.hid (And.intro hp hok)
  have G0 := Lib.hid g0
  have HA := Lib.hid ha
  obtain ⟨Z, hZ0⟩ : ∃ Z, Z = (pcs was0).toArray := ⟨_, rfl⟩
  have hZ : ∀ w, Sem.run Try.prog (zeroValue 74) w = .ok (.agg Z) w := fun w => by rw [hZ0]; exact was_zero w
  have HZ := Lib.hid hZ0
  clear hW1 hp hok g0 ha hZ0
  go_enter Try.func10, Try.ntmps10
  go_wp2_with (go_at_call 30; (with_reducible refine cN.mono ?_); rintro e w1 ⟨rfl, rfl⟩)
  go_loopg [39] len (fun g s39 wr => ∃ (k : Nat) (l : List Pc), k ≤ len ∧ g = len - k ∧ s39 = .int .i64 k ∧ Hid (GT NoBlock w a 1024 200 l wr ∧ ∀ q ∈ l, q.from' ≤ 2147483648))
  case atStart => exact ⟨0, [], by omega, by omega, rfl, Lib.hid ⟨G0.out, fun q hq => by cases hq⟩⟩
  case round =>
    obtain ⟨k, l, hk, hg, rfl, HT⟩ := hrel
    by_cases hlt : k < len
    · obtain ⟨b, off, rfl, hc⟩ := HP.out.1.past HT.out.1.turn (by omega)
      have d0 := hc k hlt 0 (by omega)
      have d1 := hc k hlt 1 (by omega)
      have d2 := hc k hlt 2 (by omega)
      have d3 := hc k hlt 3 (by omega)
      have d4 := hc k hlt 4 (by omega)
      simp [Pc.cells] at d0 d1 d2 d3 d4
      have hf := HP.out.2 k hlt
      have cP := fun w' (h : GT NoBlock w a 1024 200 l w') => GT.put h (by omega) (by have := gok_len h.ok; omega) (ps k) ⟨hf.1, hf.2.1⟩
      generalize ps k = q at *
      unfold Pc.agg at cP
      by_cases hfr : q.from' ≤ 2147483648
      · have HQ := Lib.hid hfr
        obtain ⟨qa, ql, qv, qf, qr⟩ := q
        simp only at d0 d1 d2 d3 d4 cP hfr
        clear hc
        go_wp2_with (go_at_call 32; (with_reducible refine (cP _ (HT.out.1.past ((Turn.refl NoBlock _).alloc _))).mono ?_); intro e w4 hh; obtain ⟨z, l4, rfl, g4⟩ : ∃ (z : Int) (l4 : List Pc), e = .returned (.int .i64 z) ∧ (GT NoBlock w a 1024 200 l4 w4 ∧ ∀ q ∈ l4, q.from' ≤ 2147483648) := (by rcases hh with ⟨z, _, h1, _, h2, _⟩ | ⟨kk, h1, _, h2, _⟩; exact ⟨_, _, h1, h2, HT.out.2⟩; exact ⟨_, _, h1, h2, fun q hq => (mem_put.1 hq).elim (HT.out.2 q) (fun e => e ▸ HQ.out)⟩); have G4 := Lib.hid g4; clear hh g4)
        go_roundg (len - (k + 1))
        case measure => omega
        case rel => exact ⟨k + 1, l4, by omega, by omega, by go_num, G4⟩
      · have HQ := Lib.hid hf
        obtain ⟨qa, ql, qv, qf, qr⟩ := q
        simp only at d0 d1 d2 d3 d4 cP hfr
        clear hc cP
        go_wp2_with (go_at_call 31; (with_reducible refine (cA _).mono ?_); rintro e w2 ⟨rfl, t2⟩)
        go_ret
        exact ⟨rfl, (HT.out.1.turn.alloc _).trans t2 (fun _ h => .inl h)⟩
    · obtain rfl : k = len := by omega
      have GB := Lib.hid (show ∃ b, b = wr.heap.size from ⟨_, rfl⟩)
      obtain ⟨b, hb⟩ := GB.out
      have g2 : GT (fun j => j = b) w a 1024 200 l (wr.alloc (.cells Z 74)) := by
        have h1 := HT.out.1.past ((Turn.refl NoBlock _).alloc (.cells Z 74))
        obtain ⟨v0, m0, f0⟩ := HT.out.1.mem
        refine ⟨h1.ok, ⟨v0, m0.past ((Turn.refl NoBlock _).alloc _), fun j hj => ⟨(f0 j hj).1, fun e => ?_⟩⟩, fun j hj => ?_, h1.turn⟩
        · have := m0.lt hj
          omega
        · rw [World.size_alloc]; omega
      have a2 : WasAt (wr.alloc (.cells Z 74)) b was0 := by rw [HZ.out, hb]; exact was_new wr
      have HF := Lib.hid HT.out.2
      have H2 := Lib.hid (And.intro g2 a2)
      have hWb : w.heap.size ≤ b := by rw [hb]; exact HT.out.1.turn.size
      have HB := Lib.hid hWb
      have hb2 := hb.symm
      clear g2 a2 hb GB hWb
      go_wp2
      clear hb2
      go_loopg [51] 16 (fun g s51 wr => ∃ (k : Nat) (ws : List Pc), k ≤ 16 ∧ g = 16 - k ∧ s51 = .int .i64 k ∧ Hid (GT (fun j => j = b) w a 1024 200 l wr ∧ WasAt wr b ws ∧ WasIs l k ws ∧ ∀ j, k ≤ j → j < 16 → ws[j]? = some Pc.zero))
      case atStart => exact ⟨0, was0, by omega, by omega, rfl, Lib.hid ⟨H2.out.1, H2.out.2, fun j hj => by omega, fun j _ hj => was0_at hj⟩⟩
      case round =>
        obtain ⟨k, ws, hk2, hg2, rfl, HW⟩ := hrel
        by_cases hlt2 : k < 16
        · have cF := HW.out.1.find (by omega) (64 * (k : Int)) (by unfold fit; omega) (by omega)
          unfold Pc.agg at cF
          go_wp2_with (go_at_call 36; (with_reducible refine cF.mono ?_); intro e w5 hh; obtain ⟨q, t, rfl, HQ⟩ : ∃ (q : Pc) (t : Bool), e = .returned (.tuple #[.agg #[.int .i64 q.at', .int .i64 q.len, .int .i64 q.vmo, .int .i64 q.from', .int .i64 q.prot], .bool t]) ∧ Hid ((HasP l (64 * (k : Int)) q ∨ (q = Pc.zero ∧ Free l (64 * (k : Int)))) ∧ Turn NoBlock wr w5) := (by rcases hh with ⟨⟨q, h1, h2⟩ | ⟨h1, h2⟩, h3⟩; exact ⟨q, true, h1, Lib.hid ⟨.inl h2, h3⟩⟩; exact ⟨Pc.zero, false, h1, Lib.hid ⟨.inr ⟨rfl, h2⟩, h3⟩⟩); have a5 := HW.out.2.1.past HQ.out.2 id; obtain ⟨c0, c1, c2, c3, c4⟩ := a5.five (HW.out.2.2.2 k (Nat.le_refl _) hlt2); have f0 := free_at a5.2 (k * 5); have f1 := free_at a5.2 (k * 5 + 1); have f2 := free_at a5.2 (k * 5 + 2); have f3 := free_at a5.2 (k * 5 + 3); have f4 := free_at a5.2 (k * 5 + 4); clear hh a5)
          go_roundg (16 - (k + 1))
          case measure => omega
          case rel =>
            have hx := was_put (HW.out.1.past HQ.out.2) (HW.out.2.1.past HQ.out.2 id) HB.out k hlt2 q
            exact ⟨k + 1, ws.set k q, by omega, by omega, by go_num, Lib.hid ⟨hx.1, hx.2, HW.out.2.2.1.step (by rw [HW.out.2.1.1]; exact hlt2) HQ.out.1, fun j hj hj2 => by rw [List.getElem?_set_ne (by omega)]; exact HW.out.2.2.2 j (by omega) hj2⟩⟩
        · obtain rfl : k = 16 := by omega
          have cM := HW.out.1.mapped (by omega)
          have hS := sumP_bd HW.out.1.ok 16 (by omega)
          obtain ⟨S, hSe⟩ : ∃ S, S = sumP l := ⟨_, rfl⟩
          rw [← hSe] at cM hS
          have HS := Lib.hid hSe
          clear hSe
          by_cases hr : isGrid x n ∧ x + n ≤ 1024
          · have cC := fun w6 (t : Turn NoBlock wr w6) => (HW.out.1.past t).cut (by omega) (by omega) x n fx fn
            have HR := Lib.hid hr
            have hr0 := hr
            unfold isGrid isMul at hr0
            have hxn : IntKind.i64.wrap (x + n) = x + n := wrap_fit (by unfold fit; omega)
            go_wp2_with (first
              | (go_at_call 37; (with_reducible refine cM.mono ?_); rintro e w6 ⟨rfl, t6⟩; have T6 := Lib.hid t6; clear t6)
              | (go_at_call 33; (with_reducible refine (cC _ T6.out).mono ?_); intro e w7 hh; obtain ⟨pi, ci, li, l1, N, rfl, hN, HC⟩ : ∃ (pi : Option Addr) (ci : Nat) (li l1 : List Pc) (N : Nat), e = .returned (.tuple #[.slice pi N ci, .int .i64 0]) ∧ Hid (N = li.length) ∧ Hid (BackS l x n w a b (.slice pi N ci) li l1 ws w7) := (by
                  rcases hh with ⟨z, _, _, h3, _⟩ | ⟨_, vi, li, l1, h1, h2, h3, h4, h5, _⟩
                  · exact absurd HR.out h3
                  · obtain ⟨pi, ci, hv⟩ := h2.slice
                    subst hv
                    exact ⟨pi, ci, li, l1, _, h1, Lib.hid rfl, Lib.hid ⟨h2, h3, h4, (HW.out.2.1.past T6.out id).past h5 (fun e => e.1 rfl)⟩⟩); clear hh))
            have hN16 : N ≤ 16 := by have := gok_len HC.out.cut.okI; rw [hN.out]; omega
            go_loopg [15, 89] N (fun g s15 s89 wr => ∃ j : Nat, j ≤ N ∧ g = N - j ∧ s15 = .int .i64 (sumP (li.take j)) ∧ s89 = .int .i64 j ∧ Hid (Turn NoBlock w7 wr))
            case atStart => exact ⟨0, by omega, by omega, rfl, rfl, Lib.hid (Turn.refl _ _)⟩
            case round =>
              obtain ⟨j, hj, hg3, rfl, rfl, TR⟩ := hrel
              by_cases hlt3 : j < N
              · obtain ⟨q, hq⟩ := gget_some (show j < li.length by rw [← hN.out]; exact hlt3)
                have hr1 := HC.out.row.past TR.out
                obtain ⟨g, c', he, -, -⟩ := hr1.shape (by rw [← hN.out]; omega)
                simp only [Value.slice.injEq] at he
                obtain ⟨rfl, -, rfl⟩ := he
                obtain ⟨c0, c1, c2, c3, c4⟩ := hr1.five hq
                have hq1 := HC.out.cut.ins q (List.mem_of_getElem? hq)
                have hq2 := (HC.out.cut.okI.each q (List.mem_of_getElem? hq)).1
                have hst := sumP_take li hq
                have hb1 := sumP_bd2 HC.out.cut.okI j
                have hb2 := sumP_bd2 HC.out.cut.okI (j + 1)
                have HST := Lib.hid hst
                obtain ⟨s, hs⟩ : ∃ s, s = sumP (li.take j) := ⟨_, rfl⟩
                rw [← hs] at hb1 ⊢
                rw [hst, ← hs] at hb2
                have HSS := Lib.hid hs
                have hw1 : IntKind.i64.wrap (s + q.len) = s + q.len := wrap_fit (by unfold fit; omega)
                have hw2 : IntKind.i64.wrap (q.at' + q.len) = q.at' + q.len := wrap_fit (by unfold fit Pc.fin at *; omega)
                have hd1 : decide (q.at' < x) = false := decide_eq_false (by omega)
                have hd2 : decide (x + n < q.at' + q.len) = false := decide_eq_false (by unfold Pc.fin at *; omega)
                clear hst hs hb1 hb2 hq1 hq2
                rcases Nat.eq_zero_or_pos j with h0 | h0
                · have hd3 : decide (0 < (j : Int)) = false := decide_eq_false (by omega)
                  have hd6 : decide (0 < j) = false := decide_eq_false (by omega)
                  clear hr1 hq h0
                  go_wp2
                  go_quiet (fail)
                  go_wp2
                  go_roundg (N - (j + 1))
                  case measure => omega
                  case rel => exact ⟨j + 1, by omega, by omega, by rw [HST.out, ← HSS.out], by go_num, Lib.hid ((TR.out.alloc _).drewN _)⟩
                · obtain ⟨m, hm⟩ : ∃ m, j = m + 1 := ⟨j - 1, by omega⟩
                  obtain ⟨q', hq'⟩ := gget_some (show m < li.length by rw [← hN.out]; omega)
                  have hd3 : decide (0 < (j : Int)) = true := decide_eq_true (by omega)
                  have hd6 : decide (0 < j) = true := decide_eq_true (by omega)
                  have hrs := rise_at HC.out.cut.okI.rise (show m < j by omega) hq' hq
                  have hq3 := (HC.out.cut.okI.each q' (List.mem_of_getElem? hq')).1
                  obtain ⟨c5, -⟩ := hr1.five hq'
                  have hd4 : decide (q.at' ≤ q'.at') = false := decide_eq_false (by unfold Pc.fin at *; omega)
                  have hw5 : IntKind.i64.wrap ((j : Int) - 1) = (m : Int) := by rw [wrap_fit (by unfold fit; omega)]; omega
                  have hlt5 : m < N := by omega
                  have hglt : g < wr.heap.size := World.block_lt_of_cell? wr _ c5
                  clear hm
                  clear hr1 hq hq' hrs hq3 h0
                  go_wp2
                  go_quiet (fail)
                  go_wp2
                  go_roundg (N - (j + 1))
                  case measure => omega
                  case rel => exact ⟨j + 1, by omega, by omega, by rw [HST.out, ← HSS.out], by go_num, Lib.hid ((TR.out.alloc _).drewN _)⟩
              · obtain rfl : j = N := by omega
                have hs3 := sum_cut HW.out.1.ok HC.out.gt.ok HC.out.cut.okI 16 (by omega) HC.out.cut.vw HC.out.cut.vwI
                have hs4 : sumP (li.take j) = sumP li := by rw [hN.out, List.take_length]
                have cM1 := (HC.out.gt.past TR.out).mapped (by omega)
                have hb3 := sumP_bd HC.out.gt.ok 16 (by omega)
                rw [← HS.out] at hs3
                rw [hs4]
                obtain ⟨G, hG⟩ : ∃ G, G = sumP li := ⟨_, rfl⟩
                obtain ⟨M, hM⟩ : ∃ M, M = sumP l1 := ⟨_, rfl⟩
                rw [← hG, ← hM] at hs3
                rw [← hM] at cM1 hb3
                rw [← hG]
                have hw3 : IntKind.i64.wrap (S - G) = M := by rw [wrap_fit (by unfold fit; omega)]; omega
                have HGM := Lib.hid (And.intro hG hM)
                clear hs3 hs4 hG hM hb3
                go_wp2_with (first
                  | (go_at_call 37; (with_reducible refine cM1.mono ?_); rintro e w8 ⟨rfl, t8⟩; have T8 := Lib.hid t8; clear t8))
                go_loopg [137] j (fun g s137 wr => ∃ (i : Nat) (l' : List Pc), i ≤ j ∧ g = j - i ∧ s137 = .int .i64 i ∧ Hid (GT (fun k => k = b ∨ Blk (.slice pi j ci) k) w a 1024 200 l' wr ∧ BackIs l1 li x n 1024 i l' ∧ PRow (.slice pi j ci) li wr ∧ WasAt wr b ws))
                case atStart =>
                  have t := TR.out.trans T8.out (fun _ h => .inl h)
                  refine ⟨0, l1, by omega, by omega, rfl, Lib.hid ⟨HC.out.gt.past t, BackIs.zero HC.out.cut.okI (fun y t h => ((HC.out.cut.vw y t).1 h).1) (fun q hq => ?_), HC.out.row.past t, HC.out.was.past t id⟩⟩
                  obtain ⟨b1, b2, b3, r, hr2, b4, b5, b6⟩ := HC.out.cut.ins q hq
                  have h9 := HF.out r hr2
                  have h8 := HR.out.1
                  unfold isGrid isMul at h8
                  unfold Pc.key at b6
                  simp only [Prod.mk.injEq] at b6
                  have h7 := (HW.out.1.ok.each r hr2).1
                  have h6 := HR.out.2
                  exact ⟨b1, b3, by omega⟩
                case round =>
                  obtain ⟨i, l', hi, hg4, rfl, H4⟩ := hrel
                  by_cases hlt4 : i < j
                  · obtain ⟨q, hq⟩ := gget_some (show i < li.length by rw [← hN.out]; exact hlt4)
                    have hr1 := H4.out.2.2.1
                    obtain ⟨g, c', he, -, -⟩ := hr1.shape (by rw [← hN.out]; omega)
                    simp only [Value.slice.injEq] at he
                    obtain ⟨rfl, -, rfl⟩ := he
                    obtain ⟨c0, c1, c2, c3, c4⟩ := hr1.five hq
                    have hcan := H4.out.2.1.can H4.out.1.ok hq
                    have hl9 := gok_len H4.out.1.ok
                    have hqf : fit q.at' ∧ fit q.len := by have := (HC.out.cut.okI.each q (List.mem_of_getElem? hq)).1; unfold fit Pc.fin at *; omega
                    have cP := fun w' (t : Turn NoBlock wr w') => (GT.put (H4.out.1.past t) (by omega) (by omega) q hqf).mono (R' := fun e w' => e = .returned (.int .i64 0) ∧ ∃ k, Hid (GT (fun k => k = b ∨ Blk (.slice (some ⟨g, 0, none⟩) j ci) k) w a 1024 200 (putL l' k q) w' ∧ PRow (.slice (some ⟨g, 0, none⟩) j ci) li w' ∧ WasAt w' b ws)) (by
                      rintro e w'' (⟨z, _, _, h3, _⟩ | ⟨k, h1, _, h2, h3⟩)
                      · exact absurd hcan h3
                      · exact ⟨h1, k, Lib.hid ⟨h2, (own_prow _ li).kept _ _ _ (hr1.past t) h3 (fun k hk e => e.1 (.inr hk)), (H4.out.2.2.2.past t id).past h3 (fun e => e.1 (.inl rfl))⟩⟩)
                    unfold Pc.agg at cP
                    have HQ := Lib.hid hq
                    clear hr1 hq hcan hl9 hqf
                    go_wp2_with (go_at_call 32; (with_reducible refine (cP _ ((Turn.refl NoBlock _).alloc _)).mono ?_); rintro e w9 ⟨rfl, kk, H9⟩)
                    go_roundg (j - (i + 1))
                    case measure => omega
                    case rel => exact ⟨i + 1, _, by omega, by omega, by go_num, Lib.hid ⟨H9.out.1, H4.out.2.1.step HQ.out, H9.out.2.1, H9.out.2.2⟩⟩
                  · obtain rfl : i = j := by omega
                    have hN2 := hN.out
                    have hv := BackIs.all (l := l) (by rw [← hN2]; exact H4.out.2.1) HC.out.cut.vw HC.out.cut.vwI
                    have hld := H4.out.2.2.2.load
                    have hld2 := H4.out.2.2.2.load2
                    have HV := Lib.hid hv
                    have hwr := H4.out.2.2.2.range
                    have hws : (Try.prog.info? 74).map (·.size) = some (pcs ws).length := by rw [was_s, pcs_len, H4.out.2.2.2.1]
                    obtain ⟨cs, hcs⟩ : ∃ cs, cs = pcs ws := ⟨_, rfl⟩
                    rw [← hcs] at hwr hws
                    have HCS := Lib.hid hcs
                    clear hv hN2 hld hld2 hcs
                    go_wp2
                    refine wp_load_mid _ _ rfl b 0 rfl cs _ hwr was_d rfl hws ?_
                    go_wp2
                    have hv16 := HW.out.2.2.1
                    have hl16 := H4.out.2.2.2.1
                    have HX := Lib.hid (And.intro hv16 hl16)
                    clear hv16 hl16
                    obtain ⟨WR, rfl⟩ : ∃ WR, WR = wr := ⟨_, rfl⟩
                    go_loopg [147] 16 (fun g s147 wr => ∃ i : Nat, i ≤ 16 ∧ g = 16 - i ∧ s147 = .int .i64 i ∧ Hid (Turn NoBlock WR wr))
                    case atStart => exact ⟨0, by omega, by omega, rfl, Lib.hid (Turn.refl _ _)⟩
                    case round =>
                      obtain ⟨m, hm, hg5, rfl, H5⟩ := hrel
                      by_cases hlt5 : m < 16
                      · obtain ⟨q, hq, hqc⟩ := HX.out.1 m hlt5
                        have hT : List.take 5 (List.drop (m * 5) cs) = [.int .i64 q.at', .int .i64 q.len, .int .i64 q.vmo, .int .i64 q.from', .int .i64 q.prot] := by rw [HCS.out]; exact pcs_five hq
                        have hI : ∀ w, (Instr.index 74 (.agg cs.toArray) (.int .i64 (m : Int))).run Try.prog w = .ok (.agg #[.int .i64 q.at', .int .i64 q.len, .int .i64 q.vmo, .int .i64 q.from', .int .i64 q.prot]) w := fun w => by rw [HCS.out]; exact was_index HX.out.2 hlt5 hq w
                        have cF := fun W (t : Turn NoBlock wr W) => (H4.out.1.past (H5.out.trans t (fun _ h => .inl h))).find (by omega) (64 * (m : Int)) (by unfold fit; omega) (by omega)
                        have cF2 := fun W (t : Turn NoBlock wr W) => (cF W t).mono (R' := fun e w' => (∃ r : Pc, e = .returned (.tuple #[.agg #[.int .i64 r.at', .int .i64 r.len, .int .i64 r.vmo, .int .i64 r.from', .int .i64 r.prot], .bool (decide (0 < q.len))]) ∧ (0 < q.len → q.vmo = r.vmo ∧ q.prot = r.prot ∧ q.from' - q.at' = r.from' - r.at' ∧ fit (q.from' - q.at'))) ∧ Turn NoBlock W w') (by
                          rintro e w' ⟨⟨r, h1, h2⟩ | ⟨h1, h2⟩, h3⟩
                          · rcases hqc with hqc | ⟨rfl, hqc⟩
                            · have h4 := (HW.out.1.ok.each q hqc.1)
                              have h5 := vw_uniq HW.out.1.ok hqc.vw ((HV.out _ _).1 h2.vw)
                              unfold Pc.key at h5
                              simp only [Prod.mk.injEq] at h5
                              refine ⟨⟨r, by rw [decide_eq_true h4.1.2.1]; exact h1, fun _ => ⟨h5.1, h5.2.2, h5.2.1, ?_⟩⟩, h3⟩
                              unfold fit Pc.fin at *
                              omega
                            · exact absurd ((HV.out _ _).1 h2.vw) (vw_free.1 hqc _)
                          · rcases hqc with hqc | ⟨rfl, hqc⟩
                            · exact absurd ((HV.out _ _).2 hqc.vw) (vw_free.1 h2 _)
                            · exact ⟨⟨Pc.zero, h1, fun h => absurd h (by decide)⟩, h3⟩)
                        clear cF hq hqc
                        by_cases hpos : 0 < q.len
                        · have hdp : decide (0 < q.len) = true := decide_eq_true hpos
                          rw [hdp] at cF2
                          have HPs := Lib.hid hpos
                          clear hpos
                          go_wp2_with (go_at_call 36; (with_reducible refine (cF2 _ ((Turn.refl NoBlock _).alloc _)).mono ?_); rintro e w10 ⟨⟨r, rfl, hr3⟩, t10⟩; have hr4 := hr3 HPs.out; have hbx := t10.heap (heap_alloc_new wr _) (fun h => h); have hbl := lt_of_block hbx; have x0 := cell_at hbx 0; have x1 := cell_at hbx 1; have x2 := cell_at hbx 2; have x3 := cell_at hbx 3; have x4 := cell_at hbx 4; simp at x0 x1 x2 x3 x4; clear hbx; have T10 := Lib.hid ((H5.out.alloc _).trans t10 (fun _ h => .inl h)); clear hr3 t10; obtain ⟨hr5, hr6, hr7, hr8⟩ := hr4; have hw6 : IntKind.i64.wrap (q.from' - q.at') = q.from' - q.at' := wrap_fit hr8; have hw7 : IntKind.i64.wrap (r.from' - r.at') = q.from' - q.at' := (by rw [← hr7]; exact wrap_fit hr8); clear hr7 hr8)
                          go_roundg (16 - (m + 1))
                          case measure => omega
                          case rel => exact ⟨m + 1, by omega, by omega, by go_num, Lib.hid (T10.out.alloc _)⟩
                        · have hdp : decide (0 < q.len) = false := decide_eq_false hpos
                          rw [hdp] at cF2
                          clear hpos
                          go_wp2_with (go_at_call 36; (with_reducible refine (cF2 _ ((Turn.refl NoBlock _).alloc _)).mono ?_); rintro e w10 ⟨⟨r, rfl, -⟩, t10⟩; have hbx := t10.heap (heap_alloc_new wr _) (fun h => h); have hbl := lt_of_block hbx; have x0 := cell_at hbx 0; have x1 := cell_at hbx 1; have x2 := cell_at hbx 2; have x3 := cell_at hbx 3; have x4 := cell_at hbx 4; simp at x0 x1 x2 x3 x4; clear hbx; have T10 := Lib.hid ((H5.out.alloc _).trans t10 (fun _ h => .inl h)); clear t10)
                          go_roundg (16 - (m + 1))
                          case measure => omega
                          case rel => exact ⟨m + 1, by omega, by omega, by go_num, Lib.hid (T10.out.alloc _)⟩
                      · obtain rfl : m = 16 := by omega
                        have hN2 := hN.out
                        have hsame := sum_same HW.out.1.ok H4.out.1.ok 16 (by omega) HV.out
                        have cM2 := (H4.out.1.past H5.out).mapped (by omega)
                        rw [hsame, ← HS.out] at cM2
                        clear hsame hN2
                        go_wp2_with (first
                          | (go_at_call 37; (with_reducible refine cM2.mono ?_); rintro e w11 ⟨rfl, t11⟩; have T11 := Lib.hid t11; clear t11)
                          | (go_at_call 31; (with_reducible refine (cA _).mono ?_); rintro e w2 ⟨rfl, t2⟩))
                        go_ret
                        exact ⟨rfl, (((H4.out.1.past H5.out).turn).trans T11.out (fun _ h => .inl h)).trans t2 (fun _ h => .inl h)⟩
          · have cM' := fun w7 (t : Turn NoBlock wr w7) => (HW.out.1.past t).mapped (by omega)
            rw [← HS.out] at cM'
            have cC := fun w6 (t : Turn NoBlock wr w6) => ((HW.out.1.past t).cut (by omega) (by omega) x n fx fn).mono (R' := fun e w' => ∃ z : Int, z < 0 ∧ e = .returned (.tuple #[.slice none 0 0, .int .i64 z]) ∧ Turn NoBlock w6 w') (by
              rintro e w' (⟨z, h1, h2, _, h3⟩ | ⟨h, _⟩)
              · exact ⟨z, h1, h2, h3⟩
              · exact absurd h hr)
            clear hr
            go_wp2_with (first
              | (go_at_call 37; (with_reducible refine (cM' _ T7.out).mono ?_); rintro e w8 ⟨rfl, t8⟩; have T8 := Lib.hid (T7.out.trans t8 (fun _ h => .inl h)); clear t8)
              | (go_at_call 37; (with_reducible refine cM.mono ?_); rintro e w6 ⟨rfl, t6⟩; have T6 := Lib.hid t6; clear t6)
              | (go_at_call 33; (with_reducible refine (cC _ T6.out).mono ?_); rintro e w7 ⟨z, hz, rfl, t7⟩; have T7 := Lib.hid (T6.out.trans t7 (fun _ h => .inl h)); clear t7)
              | (go_at_call 31; (with_reducible refine (cA _).mono ?_); rintro e w2 ⟨rfl, t2⟩))
            go_ret
            exact ⟨rfl, (HW.out.1.turn.trans T8.out (fun _ h => .inl h)).trans t2 (fun _ h => .inl h)⟩
end Go.Proofs.Ytdddmjdlikjedaa
