/-
  ChannelKeeps' walk.
-/
import Derived.Test.YtpfelgbedeiebaaCKeepS
import Derived.Test.YtpfelgbedeiebaaLawSmall
import Derived.OwnWalk
import Derived.Deep.DeepCutAuto
import Derived.Deep.CutBlock
namespace Go.Proofs.Ytpfelgbedeiebaa
open Go.ChangeShapes Go.WideShapes Go.ChangeAt Go.RowKit

theorem elem_ints11 : Try.prog.underlying 53 = some (.slice (Try.prog.elem 53)) := by kernel_rfl
theorem size_ints11 : ∀ w, (Go.sizeOf (Try.prog.elem 53)).run Try.prog w = .ok 1 w := fun w => by kernel_rfl
theorem kp_heap {X : Nat → Prop} {w w' : World} {k : Nat} {o : Obj} (h : Kp X w w') (hk : w.heap[k]? = some o) (hx : X k) : w'.heap[k]? = some o := by
  obtain ⟨F, t, hF⟩ := h
  exact t.heap hk (hF k hx)
theorem cst_same {w0 w : World} {c d N : Nat} {K K' : Nat → MS} {X : Nat → Prop} (e : K' = K) (h : CSt w0 w c d N K' X) : CSt w0 w c d N K X := e ▸ h
theorem KS.past {w0 w w' : World} {c d i I O nx : Nat} (h : KS w0 w c d i I O nx) (t : Turn NoBlock w w') : KS w0 w' c d i I O nx := by
  obtain ⟨⟨N, K, h1, h2, h3⟩, h4, h5⟩ := h
  exact ⟨⟨N, K, h1, h2.past t, h3⟩, h4, h5⟩
theorem nodup_ne {l : List Int} (h : l.Nodup) {a b : Nat} (hab : b < a) {x y : Int} (hx : l[a]? = some x) (hy : l[b]? = some y) : (x == y) = false := by
  rw [beq_eq_false_iff_ne]
  intro e
  obtain ⟨ha, hx'⟩ := List.getElem?_eq_some_iff.1 hx
  obtain ⟨hb, hy'⟩ := List.getElem?_eq_some_iff.1 hy
  have := (List.pairwise_iff_getElem.1 h) b a hb ha hab
  exact this (by rw [hx', hy', e])
theorem box7 {w : World} {a : Nat} {x0 x1 x2 x3 x4 x5 x6 : Value} {t : TypeId} (h : w.heap[a]? = some (.cells #[x0, x1, x2, x3, x4, x5, x6] t (0, 0))) : w.cell? ⟨a, 0, none⟩ = some x0 ∧ w.cell? ⟨a, 1, none⟩ = some x1 ∧ w.cell? ⟨a, 2, none⟩ = some x2 ∧ w.cell? ⟨a, 3, none⟩ = some x3 :=
  ⟨by rw [cell_at h]; rfl, by rw [cell_at h]; rfl, by rw [cell_at h]; rfl, by rw [cell_at h]; rfl⟩
set_option maxRecDepth 20000 in
set_option maxHeartbeats 4000000 in
theorem keeps_past (depth : Int) (p : Option Addr) (len cap : Nat) (os : List O11) (w : World) (hl : len ≤ maxLen) (ho : OpsAt w p len os) (h : (depth < 1 ∨ 65536 < depth) ∨ (1 ≤ depth ∧ depth ≤ 65536 ∧ ((∃ o ∈ os, ¬ o.ok) ∨ 80 < len))) :
    Calls Try.prog 9 #[.int .i64 depth, .slice p len cap] w fun e w' => e = .returned (.bool true) ∧ Turn NoBlock w w' := by
  have cA := Lib.hid awake11
  rcases h with h | ⟨h1, h2, h3⟩
  · have c1 := Lib.hid (new_no depth w h)
    have two : depth < 1 ∨ (¬ depth < 1 ∧ 65536 < depth) := by omega
    clear h ho hl
    rcases two with h1 | ⟨h1, h2⟩
    all_goals
      go_enter Try.func9, Try.ntmps9
      go_wp2_with (first
        | (go_at_call 26; (with_reducible refine c1.out.mono ?_); rintro e w1 ⟨rfl, rfl⟩)
        | (go_at_call 27; (with_reducible refine (cA.out _).mono ?_); rintro e w2 ⟨rfl, t2⟩))
      go_ret
      exact ⟨rfl, t2⟩
  · obtain ⟨r, rfl⟩ : ∃ r : Nat, depth = r := ⟨depth.toNat, by omega⟩
    have c1 := Lib.hid (cst_new r w (by omega) (by omega))
    have CS := Lib.hid (fun W (t : Turn NoBlock w W) => show Calls Try.prog 28 #[.slice p len cap, .int .i64 80] W _ from small_any p len cap os 80 W false hl (by omega) (show OpsAt W p len os from ⟨ho.1, fun h0 => by
      obtain ⟨g, o, h4, h5⟩ := ho.2 h0
      refine ⟨g, o, h4, fun j x hx => ⟨fun i hi => ?_, (h5 j x hx).2.past t⟩⟩
      have h6 := (h5 j x hx).1 i hi
      have h7 : i < x.cells.length := hi
      rw [List.getElem?_eq_getElem h7] at h6 ⊢
      exact t.cell h6 (fun h => h)⟩) (.inr ⟨rfl, h3⟩))
    have h0 : 0 < len := by
      rcases h3 with ⟨o, ho1, _⟩ | h
      · rw [← ho.1]; exact List.length_pos_of_mem ho1
      · omega
    have hi0 : (0 : Int) < len := by omega
    have hdl : decide (0 < len) = true := decide_eq_true h0
    have g1 : ¬ (r : Int) < 1 := by omega
    have g2 : ¬ (65536 : Int) < r := by omega
    clear h1 h2 h3 ho hl h0
    go_enter Try.func9, Try.ntmps9
    go_wp2_with (first
      | (go_at_call 26; (with_reducible refine c1.out.mono ?_); rintro e w1 ⟨rfl, k1⟩; have K1 := Lib.hid k1; clear k1)
      | (go_at_call 28; (with_reducible refine (CS.out _ K1.out.turn).mono ?_); rintro e w3 ⟨rfl, t3⟩; have T3 := Lib.hid (TT K1.out.turn t3); clear t3)
      | (go_at_call 27; (with_reducible refine (cA.out _).mono ?_); rintro e w2 ⟨rfl, t2⟩))
    go_ret
    exact ⟨by simp, TT T3.out t2⟩
set_option maxRecDepth 20000 in
set_option maxHeartbeats 8000000 in
theorem keeps_walk (dp : Nat) (p : Option Addr) (len cap : Nat) (os : List O11) (w : World) (hd1 : 1 ≤ dp) (hd2 : dp ≤ 65536) (hl : len ≤ 80) (ho : OpsAt w p len os) (hok : ∀ o ∈ os, o.ok) :
    Calls Try.prog 9 #[.int .i64 (dp : Int), .slice p len cap] w fun e w' => e = .returned (.bool true) ∧ Turn NoBlock w w' := by
  have cA := Lib.hid awake11
  obtain ⟨c, hc⟩ : ∃ c, w.heap.size = c := ⟨_, rfl⟩
  have c1 := cst_new dp w hd1 hd2
  rw [hc] at c1
  have C1 := Lib.hid c1
  have CS := Lib.hid (fun W (t : Turn NoBlock w W) => show Calls Try.prog 28 #[.slice p len cap, .int .i64 80] W _ from small_any p len cap os 80 W true (by unfold maxLen; omega) (by omega) (show OpsAt W p len os from ⟨ho.1, fun h0 => by
    obtain ⟨g, o, h4, h5⟩ := ho.2 h0
    refine ⟨g, o, h4, fun j x hx => ⟨fun i hi => ?_, (h5 j x hx).2.past t⟩⟩
    have h6 := (h5 j x hx).1 i hi
    have h7 : i < x.cells.length := hi
    rw [List.getElem?_eq_getElem h7] at h6 ⊢
    exact t.cell h6 (fun h => h)⟩) (.inl ⟨rfl, hok, hl⟩))
  have HO := Lib.hid (And.intro ho hok)
  have hli : (len : Int) ≤ 80 := by omega
  have g1 : ¬ (dp : Int) < 1 := by omega
  have g2 : ¬ (65536 : Int) < dp := by omega
  clear hc c1 ho hok hd1 hd2 hl
  go_enter Try.func9, Try.ntmps9
  go_wp2_with (first
    | (go_at_call 26; (with_reducible refine C1.out.mono ?_); rintro e w1 ⟨rfl, k1⟩; have K1 := Lib.hid k1; clear k1)
    | (go_at_call 28; (with_reducible refine (CS.out _ K1.out.turn).mono ?_); rintro e w3 ⟨rfl, t3⟩; have K3 := Lib.hid (K1.out.past t3); clear t3))
  go_loopg [6, 7, 8, 50] len (fun g s6 s7 s8 s50 wr => ∃ (i I O nx : Nat), i ≤ len ∧ g = len - i ∧ s6 = .int .i64 I ∧ s7 = .int .i64 O ∧ s8 = .int .i64 nx ∧ s50 = .int .i64 i ∧ Hid (KS w wr c dp i I O nx))
  case atStart => exact ⟨0, 0, 0, 0, by omega, by omega, rfl, rfl, rfl, rfl, Lib.hid ⟨⟨0, _, by omega, K3.out, List.nodup_nil, (fun x hx => by cases hx), rfl⟩, by omega, by omega⟩⟩
  case round =>
    obtain ⟨i, I, O, nx, hi, hg, rfl, rfl, rfl, rfl, HT⟩ := hrel
    by_cases hlt : i < len
    · obtain ⟨g0, o0, rfl, hcell⟩ := HO.out.1.2 (by omega)
      obtain ⟨x, hx⟩ : ∃ x, os[i]? = some x := ⟨_, List.getElem?_eq_getElem (by rw [HO.out.1.1]; exact hlt)⟩
      obtain ⟨hcs, hqr⟩ := hcell i x hx
      have hxo := HO.out.2 x (List.mem_of_getElem? hx)
      obtain ⟨d0, d1, d2, d3, d4, d5, d6⟩ := op_cells (fun j hj => (show wr.cell? ⟨g0, o0 + i * 7 + j, none⟩ = x.cells[j]? by
        have h1 := hcs j hj
        have h2 : j < x.cells.length := hj
        rw [List.getElem?_eq_getElem h2] at h1 ⊢
        exact HT.out.turn.cell h1 (fun h => h)))
      obtain ⟨kind, en, n, k, ⟨⟨tx, d, hh⟩, vd, vh⟩⟩ := x
      obtain ⟨pd, cd, hvd⟩ := hqr.1.sl
      obtain ⟨ph, ch, hvh⟩ := hqr.2.sl
      dsimp only at hvd hvh d0 d1 d2 d3 d4 d5 d6
      subst hvd hvh
      have HQ := Lib.hid (show RzB w (.slice pd d.length cd) d ∧ RzI w (.slice ph hh.length ch) hh from hqr)
      have hxo1 : d.length ≤ 300 := hxo.1
      have hxo2 : hh.length ≤ 80 := hxo.2
      have HXO := Lib.hid (And.intro hxo1 hxo2)
      clear hcell hcs hx hqr hxo
      have hnx : (nx : Int) ≤ 6400 := by have := HT.out.nx; omega
      have hII : (I : Int) ≤ 6400 := by have := HT.out.le; omega
      have hnh : ((hh.length : Nat) : Int) ≤ 80 := by omega
      have CM := Lib.hid (fun W (t : Turn NoBlock w W) => message_any W tx d hh _ _ (HQ.out.1.past t) (HQ.out.2.past t) (by omega))
      clear hxo1 hxo2
      go_wp2_with (go_at_call 38; (with_reducible refine (CM.out _ (HT.out.turn.alloc _)).mono ?_); rintro e w2 ⟨a, b, rfl, ha, hb, hf, t2⟩; obtain ⟨pa, ca, rfl⟩ := ha.sl; obtain ⟨pb, cb, rfl⟩ := hb.sl; have S2 := Lib.hid (And.intro ha (And.intro hb (And.intro hf t2))); clear ha hb hf t2)
      obtain ⟨N, K, hN, hst, hnd, hrg, hIO⟩ := HT.out.ex
      have HK := Lib.hid (And.intro hN (And.intro hnd (And.intro hrg (And.intro hIO (And.intro HT.out.nx HT.out.le)))))
      have START := Lib.hid (m2_start (tx := tx) hst S2.out.2.2.2 S2.out.1 S2.out.2.1 (fun k hk => by have := S2.out.2.2.1 k hk; simpa using this))
      clear hN hst hnd hrg hIO S2 d0 d1 d2 d3 d4 d5 d6
      generalize wr.heap.size = B at *
      generalize w2.heap.size = C at *
      go_loopg [8, 60] hh.length (fun g s8 s60 wr => ∃ (j y : Nat), j ≤ hh.length ∧ g = hh.length - j ∧ y = nx + j ∧ s8 = .int .i64 y ∧ s60 = .int .i64 j ∧ Hid (M2 w wr c dp N K B C #[.int .i64 kind, .int .i64 en, .int .i64 n, .int .i64 k, .int .i64 tx, .slice pd d.length cd, .slice ph hh.length ch] tx (.slice pa d.length ca) (.slice pb hh.length cb) d (rng nx j hh)))
      case atStart => exact ⟨0, nx, by omega, by omega, rfl, rfl, rfl, Lib.hid (by rw [rng_zero]; exact START.out)⟩
      case round =>
        obtain ⟨j, y, hj, hg2, hy, rfl, rfl, HM⟩ := hrel
        obtain ⟨x0, x1, x2⟩ := box3 HM.out.b11
        have HY := Lib.hid hy
        have hyb : (y : Int) ≤ 6480 := by omega
        by_cases hlt2 : j < hh.length
        · have hrl := rng_len (nx := nx) (j := j) (hh := hh) (by omega)
          obtain ⟨g1, o1, cz, he, -, -, htb, hce, -⟩ := WRow.shape HM.out.rb (by omega)
          obtain rfl : pb = some ⟨g1, o1, none⟩ := by simp only [Value.slice.injEq] at he; exact he.1
          have f1 := htb.free (o1 + j)
          obtain ⟨z, hz⟩ : ∃ z, (icells (rng nx j hh))[j]? = some z := ⟨_, List.getElem?_eq_getElem (by rw [icells_len]; omega)⟩
          have q1 := hce j (by omega)
          rw [hz] at q1
          have hst := Lib.hid (m2_set HM.out hlt2)
          rw [← hy] at hst
          clear he htb hce hz hrl hy
          go_wp2
          go_roundg (hh.length - (j + 1))
          case measure => omega
          case rel => exact ⟨j + 1, y + 1, by omega, by omega, by have := HY.out; omega, by go_num, by go_num, hst⟩
        · obtain rfl : j = hh.length := by omega
          obtain ⟨c10, c11, c12, c13⟩ := box7 HM.out.b10
          have hml := HM.out
          rw [rng_all] at hml
          have HM2 := Lib.hid hml
          clear HM hml hy hlt2
          go_upto_block 4 with (fail)
          go_cut [6, 7] (fun s6 s7 wx => ∃ (I' O' : Nat), s6 = .int .i64 I' ∧ s7 = .int .i64 O' ∧ Hid (KS w wx c dp (i + 1) I' O' y))
          case first =>
            have CW := Lib.hid (show Calls Try.prog 39 #[.pointer (some ⟨c, 0, none⟩), .int .i64 en, .agg #[.int .i64 tx, .slice pa d.length ca, .slice pb hh.length cb]] wr _ from kp_write HM2.out.st (by have := HK.out.1; omega) en ⟨tx, d, (List.range hh.length).map (fun i => ((nx + i : Nat) : Int))⟩ ⟨by have := HXO.out.1; show d.length ≤ 100000; omega, by have := HXO.out.2; simp; omega⟩ _ _ (Byts.rd HM2.out.ra) (Nums.rd HM2.out.rb) (fun j hj => .inr (.inr hj)))
            have CC := Lib.hid (show Calls Try.prog 41 #[.pointer (some ⟨c, 0, none⟩), .int .i64 en, .int .i64 n, .agg #[.int .i64 tx, .slice pa d.length ca, .slice pb hh.length cb]] wr _ from kp_call HM2.out.st (by have := HK.out.1; omega) en n ⟨tx, d, (List.range hh.length).map (fun i => ((nx + i : Nat) : Int))⟩ ⟨by have := HXO.out.1; show d.length ≤ 100000; omega, by have := HXO.out.2; simp; omega⟩ _ _ (Byts.rd HM2.out.ra) (Nums.rd HM2.out.rb) (fun j hj => .inr (.inr hj)))
            have CR := Lib.hid (kp_read HM2.out.st (by have := HK.out.1; omega) en n k)
            have CL := Lib.hid (kp_close HM2.out.st (by have := HK.out.1; omega) en)
            have SAME := Lib.hid (fun (N' : Nat) (W : World) (X : Nat → Prop) (h : CSt w W c dp N' K X) (hN' : N' ≤ 2 * (i + 1)) => show KS w W c dp (i + 1) I O y by rw [HY.out]; exact ks_same h hN' HK.out.2.1 HK.out.2.2.1 HK.out.2.2.2.1 HK.out.2.2.2.2.1 HK.out.2.2.2.2.2 HXO.out.2)
            have MORE := Lib.hid (fun (N' : Nat) (W : World) (K' : Nat → MS) (X : Nat → Prop) (h : CSt w W c dp N' K' X) (hN' : N' ≤ 2 * (i + 1)) (hp : (HL K').Perm (HL K ++ (List.range hh.length).map (fun i => ((nx + i : Nat) : Int)))) => show KS w W c dp (i + 1) (I + hh.length) O y by rw [HY.out]; exact ks_more h hN' hp HK.out.2.1 HK.out.2.2.1 HK.out.2.2.2.1 HK.out.2.2.2.2.1 HK.out.2.2.2.2.2 HXO.out.2)
            have LESS := Lib.hid (fun (N' : Nat) (W : World) (K' : Nat → MS) (X : Nat → Prop) (l : List Int) (h : CSt w W c dp N' K' X) (hN' : N' ≤ 2 * (i + 1)) (hp : (HL K).Perm (l ++ HL K')) => show KS w W c dp (i + 1) I (O + l.length) y by rw [HY.out]; exact ks_less h hN' hp HK.out.2.1 HK.out.2.2.1 HK.out.2.2.2.1 HK.out.2.2.2.2.1 HK.out.2.2.2.2.2 HXO.out.2)
            have HN2 := Lib.hid (show N + 2 ≤ 2 * (i + 1) by have := HK.out.1; omega)
            have LEN := Lib.hid (fun (l : List Int) (K' : Nat → MS) (hp : (HL K).Perm (l ++ HL K')) => show l.length + O ≤ 6400 by
              have h1 := hp.length_eq
              rw [List.length_append] at h1
              have h2 := HK.out.2.2.2.1
              have h3 := HK.out.2.2.2.2.2
              omega)
            by_cases q1 : kind = 1
            · have b1 : (kind == 1) = true := by simpa using q1
              clear q1
              go_wp2_with (go_at_call 39; (with_reducible refine CW.out.mono ?_); rintro e w5 ⟨n5, s5, K5, rfl, k5, kp5, eff⟩; obtain ⟨z0, z1, z2⟩ := box3 (kp_heap kp5 HM2.out.b11 (.inr (.inl rfl))); have K6 := Lib.hid k5; clear k5 kp5; have eff2 := eff.imp (fun h => And.intro h.1 (Lib.hid h.2)) (fun h => And.intro h.1 (Lib.hid h.2)); clear eff; rcases eff2 with ⟨hs5, HK5⟩ | ⟨rfl, HP5⟩)
              · go_meet
                exact ⟨I, O, rfl, rfl, Lib.hid (SAME.out _ _ _ (cst_same HK5.out K6.out) HN2.out)⟩
              · go_meet
                exact ⟨I + hh.length, O, by go_num, rfl, Lib.hid (MORE.out _ _ _ _ K6.out HN2.out HP5.out)⟩
            · by_cases q2 : kind = 2
              · have b1 : (kind == 1) = false := by simpa using q1
                have b2 : (kind == 2) = true := by simpa using q2
                clear q1 q2
                go_wp2_with (go_at_call 40; (with_reducible refine CR.out.mono ?_); rintro e w5 ⟨tx5, s5, vd5, p5, n5, ca5, l5, K5, rfl, ⟨pv, nv, cv, rfl⟩, rfl, k5, kp5, eff⟩; have K6 := Lib.hid k5; clear k5 kp5; have eff2 := eff.imp (fun h => And.intro h.1 (Lib.hid h.2)) (fun h => And.intro h.1 (And.intro (show ((l5.length : Nat) : Int) + O ≤ 6400 from (by have := LEN.out _ _ h.2; omega)) (Lib.hid h.2))); clear eff; rcases eff2 with ⟨hs5, HK5⟩ | ⟨rfl, hn5, HP5⟩)
                · go_meet
                  exact ⟨I, O, rfl, rfl, Lib.hid (SAME.out _ _ _ (cst_same HK5.out (K6.out.past ((Turn.refl NoBlock _).alloc _))) HN2.out)⟩
                · go_meet
                  exact ⟨I, O + l5.length, rfl, by go_num, Lib.hid (LESS.out _ _ _ _ _ (K6.out.past ((Turn.refl NoBlock _).alloc _)) HN2.out HP5.out)⟩
              · by_cases q3 : kind = 3
                · have b1 : (kind == 1) = false := by simpa using q1
                  have b2 : (kind == 2) = false := by simpa using q2
                  have b3 : (kind == 3) = true := by simpa using q3
                  clear q1 q2 q3
                  go_wp2_with (go_at_call 41; (with_reducible refine CC.out.mono ?_); rintro e w5 ⟨s5, K5, rfl, k5, kp5, eff⟩; obtain ⟨z0, z1, z2⟩ := box3 (kp_heap kp5 HM2.out.b11 (.inr (.inl rfl))); have K6 := Lib.hid k5; clear k5 kp5; have eff2 := eff.imp (fun h => And.intro h.1 (Lib.hid h.2)) (fun h => And.intro h.1 (Lib.hid h.2)); clear eff; rcases eff2 with ⟨hs5, HK5⟩ | ⟨rfl, HP5⟩)
                  · go_meet
                    exact ⟨I, O, rfl, rfl, Lib.hid (SAME.out _ _ _ (cst_same HK5.out K6.out) HN2.out)⟩
                  · go_meet
                    exact ⟨I + hh.length, O, by go_num, rfl, Lib.hid (MORE.out _ _ _ _ K6.out HN2.out HP5.out)⟩
                · by_cases q5 : kind = 5
                  · have b1 : (kind == 1) = false := by simpa using q1
                    have b2 : (kind == 2) = false := by simpa using q2
                    have b3 : (kind == 3) = false := by simpa using q3
                    have b5 : (kind == 5) = true := by simpa using q5
                    clear q1 q2 q3 q5
                    go_wp2_with (go_at_call 42; (with_reducible refine CL.out.mono ?_); rintro e w5 ⟨p5, n5, ca5, vc5, s5, l5, K5, rfl, rfl, k5, kp5, hp5⟩; have HP5 := Lib.hid hp5; have hn5 : ((l5.length : Nat) : Int) + O ≤ 6400 := (by have := LEN.out _ _ hp5; omega); have K6 := Lib.hid k5; clear k5 kp5 hp5)
                    go_meet
                    exact ⟨I, O + l5.length, rfl, by go_num, Lib.hid (LESS.out _ _ _ _ _ K6.out HN2.out HP5.out)⟩
                  · have b1 : (kind == 1) = false := by simpa using q1
                    have b2 : (kind == 2) = false := by simpa using q2
                    have b3 : (kind == 3) = false := by simpa using q3
                    have b5 : (kind == 5) = false := by simpa using q5
                    clear q1 q2 q3 q5
                    go_wp2_with fail
                    go_meet
                    exact ⟨I, O, rfl, rfl, Lib.hid (SAME.out _ _ _ HM2.out.st (by have := HN2.out; omega))⟩
          case rest =>
            obtain ⟨I2, O2, rfl, rfl, HS⟩ := hcut
            obtain ⟨N2, K2, hN2, hst2, hnd2, hrg2, hIO2⟩ := HS.out.ex
            have hw : IntKind.i64.wrap ((I2 : Int) - (O2 : Int)) = (((HL K2).length : Nat) : Int) := by
              rw [show (I2 : Int) - (O2 : Int) = (((HL K2).length : Nat) : Int) by omega]
              exact wrap_nat _ (by have := HS.out.le; omega)
            have hLb : (((HL K2).length : Nat) : Int) ≤ 6480 := by have := HS.out.le; omega
            have CH := Lib.hid (kp_handles hst2 (by omega))
            have HND := Lib.hid hnd2
            have HYY := Lib.hid HY.out
            clear HM2 hN2 hst2 hnd2 hrg2 hIO2 x0 x1 x2 c10 c11 c12 c13 HK
            go_wp2_with (go_at_call 37; (with_reducible refine CH.out.mono ?_); rintro e w6 ⟨p6, c6, rfl, r6, t6⟩; have R6 := Lib.hid (And.intro r6 t6); clear r6 t6)
            obtain ⟨L, hL⟩ : ∃ L, (HL K2).length = L := ⟨_, rfl⟩
            have HLL := Lib.hid hL
            rw [hL] at R6 hLb
            rw [hL]
            clear hL CH hw
            go_loopg [149] L (fun g s149 wr => ∃ (a : Nat), a ≤ L ∧ g = L - a ∧ s149 = .int .i64 a ∧ Hid (w6 = wr))
            case atStart => exact ⟨0, by omega, by omega, rfl, Lib.hid rfl⟩
            case round =>
              obtain ⟨q, hq, hg3, rfl, HW⟩ := hrel
              obtain rfl := HW.out
              by_cases hqL : q < L
              · have hr6 := R6.out.1
                unfold Nums at hr6
                rw [HLL.out] at hr6
                obtain ⟨g1, o1, cz, he, hcz, -, -, hce, -⟩ := hr6.shape (by omega)
                obtain rfl : p6 = some ⟨g1, o1, none⟩ := by simp only [Value.slice.injEq] at he; exact he.1
                obtain rfl : c6 = cz := by simp only [Value.slice.injEq] at he; exact he.2.2
                have CELL := Lib.hid (fun (a : Nat) (z : Int) (h : (HL K2)[a]? = some z) => show w6.cell? ⟨g1, o1 + a, none⟩ = some (.int .i64 z) by
                  have hlt := (List.getElem?_eq_some_iff.1 h).1
                  rw [hce a (by have := HLL.out; omega)]
                  unfold icells
                  rw [List.getElem?_map, h]
                  rfl)
                obtain ⟨z, hz⟩ : ∃ z, (HL K2)[q]? = some z := ⟨_, List.getElem?_eq_getElem (by have := HLL.out; omega)⟩
                have cz1 := CELL.out q z hz
                have HZ := Lib.hid hz
                have hsl := sl_hi 53 1 elem_ints11 size_ints11 g1 o1 L c6 q (by omega)
                clear he hce hcz hz hr6
                go_wp2
                go_loopg [158] q (fun g s158 wr => ∃ (b : Nat), b ≤ q ∧ g = q - b ∧ s158 = .int .i64 b ∧ Hid (w6 = wr))
                case atStart => exact ⟨0, by omega, by omega, rfl, Lib.hid rfl⟩
                case round =>
                  obtain ⟨b, hb, hg4, rfl, HW2⟩ := hrel
                  obtain rfl := HW2.out
                  by_cases hbq : b < q
                  · obtain ⟨z2, hz2⟩ : ∃ z2, (HL K2)[b]? = some z2 := ⟨_, List.getElem?_eq_getElem (by have := HLL.out; omega)⟩
                    have cz2 := CELL.out b z2 hz2
                    have hne := nodup_ne HND.out hbq HZ.out hz2
                    have hqb : (q : Int) ≤ 6480 := by omega
                    clear hz2
                    go_wp2
                    go_roundg (q - (b + 1))
                    case measure => omega
                    case rel => exact ⟨b + 1, by omega, by omega, by go_num, Lib.hid rfl⟩
                  · obtain rfl : b = q := by omega
                    go_wp2
                    go_roundg (L - (b + 1))
                    case measure => omega
                    case rel => exact ⟨b + 1, by omega, by omega, by go_num, Lib.hid rfl⟩
              · obtain rfl : q = L := by omega
                go_wp2
                go_roundg (len - (i + 1))
                case measure => omega
                case rel => exact ⟨i + 1, I2, O2, y, by omega, by omega, rfl, rfl, rfl, by go_num, Lib.hid (HS.out.past R6.out.2)⟩
    · obtain rfl : i = len := by omega
      go_wp2_with (go_at_call 27; (with_reducible refine (cA.out _).mono ?_); rintro e w9 ⟨rfl, t9⟩)
      go_ret
      exact ⟨rfl, TT HT.out.turn t9⟩
end Go.Proofs.Ytpfelgbedeiebaa
