/-
  ChannelOrder's walk.
-/
import Derived.Test.YtekbnpocmmfkkaaCOrdM
import Derived.OwnWalk
namespace Go.Proofs.Ytekbnpocmmfkkaa
open Go.ChangeShapes Go.WideShapes Go.ChangeAt Go.RowKit

theorem xs_ab {v a b : Value} {B j : Nat} (h : Blk a j ∨ Blk b j) : Xs v B a b j := .inr (.inr h)
theorem xs_v {v a b : Value} {B j : Nat} (h : Blk v j) : Xs v B a b j := .inl h
theorem blk_head {B n c k : Nat} (h : Blk (.slice (some ⟨B, 0, none⟩) n c) k) : k = B := by simpa [Blk, Value.ownBlock, eq_comm] using h
theorem ord_next {w0 w3 w4 : World} {c N : Nat} {x : Int} {want : List QM} {called : Bool} {v v' : Value} {X : Nat → Prop} (hc : CSt w0 w3 c 1024 N (KO x (want.map (·.m)) called) X) (hX : ∀ k, Blk v k → X k) (hN : N ≤ 2 + want.length) (t : Turn (Blk v) w3 w4) (hv : ∀ k, Blk v' k → Blk v k ∨ (w3.heap.size ≤ k ∧ k < w4.heap.size)) (mine : ∀ k, Blk v k → w0.heap.size ≤ k)
    (row : WRow w4 38 3 v' want.length (qcells want)) (ok : ∀ q ∈ want, qOK w0 q) : LO w0 w4 c x want called v' := by
  refine ⟨⟨N, hN, (hc.fewer hX).more t hv mine⟩, row, fun k hk => ?_, ok⟩
  rcases hv k hk with h | h
  · exact mine k h
  · have := hc.turn.size; omega
theorem ord_take {w0 w : World} {c N : Nat} {x : Int} {m : Msg} {rest : List Msg} {called : Bool} {X : Nat → Prop} (h : CSt w0 w c 1024 N (KO x (m :: rest) called) X) (hN : N ≤ 1000) (h1 : m.d.length ≤ 300) (h2 : m.h.length ≤ 64) :
    Calls Try.prog 22 #[.pointer (some ⟨c, 0, none⟩), .int .i64 1, .int .i64 300, .int .i64 64] w fun e w' => ∃ pa ca pb cb, e = .returned (.tuple #[.agg #[.int .i64 m.tx, .slice pa m.d.length ca, .slice pb m.h.length cb], .int .i64 0]) ∧ CSt w0 w' c 1024 N (KO x rest called) X ∧ Kp X w w' ∧ Byts (.slice pa m.d.length ca) m.d w' ∧ Nums (.slice pb m.h.length cb) m.h w' :=
  (h.take1 (by omega) rfl 300 64 (by omega) (by omega) m rest rfl (by omega) (by omega)).mono (by
    rintro e w' ⟨⟨m', va, vb⟩, rfl, hm, hok, hc, hk, -⟩
    dsimp only at hm
    subst hm
    obtain ⟨pa, ca, hva⟩ := hok.d.sl
    obtain ⟨pb, cb, hvb⟩ := hok.h.sl
    have o1 := hok.d
    have o2 := hok.h
    dsimp only at hva hvb o1 o2
    subst hva hvb
    refine ⟨pa, ca, pb, cb, rfl, ?_, hk, o1, o2⟩
    have e1 : updN (KO x (m' :: rest) called) 1 ⟨(KO x (m' :: rest) called 1).op, rest, (KO x (m' :: rest) called 1).ws⟩ = KO x rest called := by
      funext j
      unfold updN KO
      by_cases j0 : j = 0
      · simp [j0]
      · by_cases j1 : j = 1
        · simp [j1]
        · simp [j0, j1]
    rw [← e1]
    exact hc.fewer (fun k hk => .inl hk))
theorem ord_none {w0 w : World} {c N : Nat} {x : Int} {called : Bool} {X : Nat → Prop} (h : CSt w0 w c 1024 N (KO x [] called) X) (hN : N ≤ 1000) :
    Calls Try.prog 22 #[.pointer (some ⟨c, 0, none⟩), .int .i64 1, .int .i64 300, .int .i64 64] w fun e w' => e = .returned (.tuple #[.agg #[.int .i64 0, .slice none 0 0, .slice none 0 0], .int .i64 (-22)]) ∧ Turn NoBlock w w' :=
  h.none1 (by omega) rfl 300 64 (by omega) (by omega) rfl
theorem ord_forget_yes {w0 w : World} {c N : Nat} {x : Int} {q : List Msg} {X : Nat → Prop} (h : CSt w0 w c 1024 N (KO x q true) X) (hN : N ≤ 1000) :
    Calls Try.prog 25 #[.pointer (some ⟨c, 0, none⟩), .int .i64 1, .int .i64 5] w fun e w' => e = .returned (.int .i64 (-25)) ∧ Turn NoBlock w0 w' :=
  (h.miss1 (by omega) rfl 5 ⟨by simp [KO], fun j t hj => by simp [KO] at hj, fun t ht => by simp [KO] at ht⟩).mono (fun e w' hh => ⟨hh.1, TT h.turn hh.2⟩)
theorem ord_forget_no {w0 w : World} {c N : Nat} {x : Int} {q : List Msg} {X : Nat → Prop} (h : CSt w0 w c 1024 N (KO x q false) X) (hN : N ≤ 1000) :
    Calls Try.prog 25 #[.pointer (some ⟨c, 0, none⟩), .int .i64 1, .int .i64 5] w fun e w' => e = .returned (.int .i64 0) ∧ Turn NoBlock w0 w' :=
  (h.forget1 (by omega) rfl 5 0 ⟨by simp [KO], fun j t hj => by omega, fun t ht => by simp [KO] at ht; subst ht; rfl⟩ (by simp [KO])).mono (fun e w' hh => ⟨hh.1, hh.2.1.turn⟩)
theorem xs_b {v a b : Value} {B : Nat} : Xs v B a b B := .inr (.inl rfl)
/-- Behind k messages that were read. -/
structure LR (w0 w : World) (c : Nat) (x : Int) (want : List QM) (called : Bool) (v : Value) (k : Nat) : Prop where
  st : ∃ N, N ≤ 100 ∧ CSt w0 w c 1024 N (KO x ((want.drop k).map (·.m)) called) (Blk v)
  row : WRow w 38 3 v want.length (qcells want)
  mine : ∀ k, Blk v k → w0.heap.size ≤ k
  ok : ∀ q ∈ want, qOK w0 q
theorem LR.turn {w0 w : World} {c k : Nat} {x : Int} {want : List QM} {called : Bool} {v : Value} (h : LR w0 w c x want called v k) : Turn NoBlock w0 w := by
  obtain ⟨N, _, hcs⟩ := h.st
  exact hcs.turn
theorem lr_box {w0 w : World} {c k : Nat} {x : Int} {want : List QM} {called : Bool} {v : Value} (h : LR w0 w c x want called v k) {q : QM} (hq : want[k]? = some q) (cs : Array Value) (t : TypeId) :
    ∃ N, N ≤ 100 ∧ CSt w0 (w.alloc (.cells cs t)) c 1024 N (KO x (q.m :: (want.drop (k + 1)).map (·.m)) called) (Xs v w.heap.size (.slice none 0 0) (.slice none 0 0)) := by
  obtain ⟨N, hN, hcs⟩ := h.st
  obtain ⟨h1, h2⟩ := List.getElem?_eq_some_iff.1 hq
  rw [List.drop_eq_getElem_cons h1, h2, List.map_cons] at hcs
  refine ⟨N, hN, hcs.more (TU ((Turn.refl NoBlock w).alloc _)) (fun j hj => ?_) h.mine⟩
  rcases hj with hj | rfl | hj | hj
  · exact .inl hj
  · exact .inr ⟨Nat.le_refl _, by simp⟩
  · exact (blk_nil j hj).elim
  · exact (blk_nil j hj).elim
theorem row_some {w : World} {e size n c : Nat} {p : Option Addr} {xs : List Value} (h : WRow w e size (.slice p n c) n xs) (h0 : 0 < n) : ∃ g o, p = some ⟨g, o, none⟩ := by
  obtain ⟨g, o, cap, he, -⟩ := h.shape h0
  simp only [Value.slice.injEq] at he
  exact ⟨g, o, he.1⟩
theorem wrow_q {w : World} {g o n c : Nat} {l : List QM} (h : WRow w 38 3 (.slice (some ⟨g, o, none⟩) n c) l.length (qcells l)) {k : Nat} {q : QM} (hq : l[k]? = some q) :
    w.cell? ⟨g, o + k * 3, none⟩ = some (.int .i64 q.m.tx) ∧ w.cell? ⟨g, o + k * 3 + 1, none⟩ = some q.vd ∧ w.cell? ⟨g, o + k * 3 + 2, none⟩ = some q.vh := by
  have hlt := (List.getElem?_eq_some_iff.1 hq).1
  obtain ⟨g', o', c', he, -, -, -, hc, -⟩ := h.shape (by omega)
  simp only [Value.slice.injEq, Option.some.injEq, Addr.mk.injEq, and_true] at he
  obtain ⟨⟨rfl, rfl⟩, -, rfl⟩ := he
  refine ⟨?_, ?_, ?_⟩
  · rw [hc (k * 3) (by omega)]
    exact qcells_at l k q hq 0 (by omega)
  · rw [Nat.add_assoc, hc (k * 3 + 1) (by omega)]
    exact qcells_at l k q hq 1 (by omega)
  · rw [Nat.add_assoc, hc (k * 3 + 2) (by omega)]
    exact qcells_at l k q hq 2 (by omega)
theorem order_past (p : Option Addr) (len cap : Nat) (x : Int) (w : World) (h : 60 < len ∨ x = 0) : Calls Try.prog 5 #[.slice p len cap, .int .i64 x] w fun e w' => e = .returned (.bool true) ∧ Turn NoBlock w w' := by
  have c1 : Calls Try.prog 8 #[.int .i64 1024] w fun x w' => x = .returned (.pointer (some ⟨w.heap.size, 0, none⟩)) ∧ CSt w w' w.heap.size 1024 0 (fun _ => ⟨true, [], []⟩) NoBlock := cst_new 1024 w (by omega) (by omega)
  have cA := Lib.hid awake11
  have h3 : 60 < len ∨ (len ≤ 60 ∧ x = 0) := by omega
  rcases h3 with h3 | ⟨h3, rfl⟩
  all_goals
    clear h
    go_enter Try.func5, Try.ntmps5
    go_wp2_with (first
      | (go_at_call 8; (with_reducible refine c1.mono ?_); rintro e w1 ⟨rfl, k1⟩; have K1 := Lib.hid k1; clear k1)
      | (go_at_call 9; (with_reducible refine (cA.out _).mono ?_); rintro e w2 ⟨rfl, t2⟩))
    go_ret
    exact ⟨rfl, TT K1.out.turn t2⟩
set_option maxRecDepth 20000 in
set_option maxHeartbeats 4000000 in
theorem order_walk (p : Option Addr) (len cap : Nat) (x : Int) (ms : List QM) (w : World) (h : len ≤ 60) (hx : x ≠ 0) (hm : MsgsAt w p len ms) : Calls Try.prog 5 #[.slice p len cap, .int .i64 x] w fun e w' => e = .returned (.bool true) ∧ Turn NoBlock w w' := by
  have c1 : Calls Try.prog 8 #[.int .i64 1024] w fun x w' => x = .returned (.pointer (some ⟨w.heap.size, 0, none⟩)) ∧ CSt w w' w.heap.size 1024 0 (fun _ => ⟨true, [], []⟩) NoBlock := cst_new 1024 w (by omega) (by omega)
  have cA := Lib.hid awake11
  obtain ⟨c, hc⟩ : ∃ c, w.heap.size = c := ⟨_, rfl⟩
  rw [hc] at c1
  have HM := Lib.hid hm
  have HX := Lib.hid hx
  have hx0 : (x == 0) = false := beq_eq_false_iff_ne.2 hx
  obtain ⟨iR, hiR, hzR, hsR, hbR⟩ := info_parts infoR
  have hl0 : (len : Int) ≤ 60 := by omega
  clear hc hm hx
  go_enter Try.func5, Try.ntmps5
  go_wp2_with (first
    | (go_at_call 23; (with_reducible refine (ord_call K1.out x HX.out).mono ?_); rintro e w2 ⟨rfl, k2⟩; have K2 := Lib.hid k2; clear k2)
    | (go_at_call 8; (with_reducible refine c1.mono ?_); rintro e w1 ⟨rfl, k1⟩; have K1 := Lib.hid k1; clear k1))
  go_loopg [6, 7, 43] len (fun g s6 s7 s43 wr => ∃ (i : Nat) (want : List QM) (called : Bool) (p7 : Option Addr) (c7 : Nat), i ≤ len ∧ want.length = i ∧ g = len - i ∧ s6 = .bool called ∧ s7 = .slice p7 i c7 ∧ s43 = .int .i64 i ∧ Hid (LO w wr c x want called (.slice p7 i c7)))
  case atStart => exact ⟨0, [], false, none, 0, by omega, rfl, by omega, rfl, rfl, rfl, K2⟩
  case round =>
    obtain ⟨i, want, called, p7, c7, hi, hwl, hg, rfl, rfl, rfl, HT⟩ := hrel
    by_cases hlt : i < len
    · obtain ⟨g0, o0, rfl, hcell⟩ := HM.out.2 (by omega)
      obtain ⟨q, hq⟩ : ∃ q, ms[i]? = some q := ⟨_, List.getElem?_eq_getElem (by rw [HM.out.1]; exact hlt)⟩
      obtain ⟨hcs, hqr⟩ := hcell i q hq
      have d0 : wr.cell? ⟨g0, o0 + i * 3, none⟩ = some (.int .i64 q.m.tx) := HT.out.turn.cell (hcs 0 (by omega)) (fun h => h)
      have d1 : wr.cell? ⟨g0, o0 + i * 3 + 1, none⟩ = some q.vd := HT.out.turn.cell (hcs 1 (by omega)) (fun h => h)
      have d2 : wr.cell? ⟨g0, o0 + i * 3 + 2, none⟩ = some q.vh := HT.out.turn.cell (hcs 2 (by omega)) (fun h => h)
      obtain ⟨⟨tx, d, hh⟩, vd, vh⟩ := q
      obtain ⟨pd, cd, hvd⟩ := hqr.1.sl
      obtain ⟨ph, ch, hvh⟩ := hqr.2.sl
      dsimp only at hvd hvh d0 d1 d2
      subst hvd hvh
      have HQR := Lib.hid hqr
      have HWL := Lib.hid hwl
      clear hcell hcs hq hqr hwl
      by_cases h1 : (300 : Int) < d.length
      · have h1' : ((300 : Int) < d.length) = True := by simp [h1]
        go_wp2_with (go_at_call 9; (with_reducible refine (cA.out _).mono ?_); rintro e w3 ⟨rfl, t3⟩)
        go_ret
        exact ⟨rfl, TT (HT.out.turn.alloc _) t3⟩
      · by_cases h2 : (64 : Int) < hh.length
        · go_wp2_with (go_at_call 9; (with_reducible refine (cA.out _).mono ?_); rintro e w3 ⟨rfl, t3⟩)
          go_ret
          exact ⟨rfl, TT (HT.out.turn.alloc _) t3⟩
        · have HF := Lib.hid (And.intro (show d.length ≤ 300 by omega) (show hh.length ≤ 64 by omega))
          have cM := Lib.hid (fun W (t : Turn NoBlock w W) => message_any W tx d hh _ _ (HQR.out.1.past t) (HQR.out.2.past t) ⟨by have := HF.out.1; omega, by have := HF.out.2; omega⟩)
          have HFT := Lib.hid (show Msg.fits ⟨tx, d, hh⟩ from ⟨by have := HF.out.1; show d.length ≤ 4096; omega, HF.out.2⟩)
          have HB1 := Lib.hid (show i + 1 ≤ maxLen by unfold maxLen; omega)
          have HB2 := Lib.hid (show (i + 1) * 56 ≤ 140737488355328 by omega)
          have HB3 := Lib.hid (show 1 + i ≤ maxLen by unfold maxLen; omega)
          have HB4 := Lib.hid (show (1 + i) * 56 ≤ 140737488355328 by omega)
          have HONE := Lib.hid (show ∀ u ∈ qcells want, u.oneCell' = true from fun u hu => by
            obtain ⟨t, ht, hu⟩ := List.mem_flatMap.1 hu
            obtain ⟨ps, cs, e1⟩ := (HT.out.ok t ht).1.1.sl
            obtain ⟨ps2, cs2, e2⟩ := (HT.out.ok t ht).1.2.sl
            simp [QM.cells] at hu
            rcases hu with rfl | rfl | rfl
            · rfl
            · rw [e1]; rfl
            · rw [e2]; rfl)
          by_cases htx : tx = x
          · have hb : (tx == x) = true := by simpa using htx
            have HTX := Lib.hid htx
            clear htx
            cases called with
            | true =>
              go_wp2_with (first
                | (go_at_call 20; (with_reducible refine (cM.out _ (HT.out.turn.alloc _)).mono ?_); rintro e w2 ⟨a, b, rfl, ha, hb, hf, t2⟩; obtain ⟨pa, ca, rfl⟩ := ha.sl; obtain ⟨pb, cb, rfl⟩ := hb.sl; have b2 := t2.heap (heap_alloc_new wr (.cells #[.int .i64 tx, .slice pd d.length cd, .slice ph hh.length ch] 38)) (fun h => h); have tt := TT ((Turn.refl NoBlock wr).alloc _) t2; have hsz : wr.heap.size < w2.heap.size := lt_of_block b2; obtain ⟨N3, hN3, k3⟩ := ord_msg HT.out (B := wr.heap.size) (Nat.le_refl _) hsz tt ha hb (fun k hk => by have := hf k hk; simp at this; omega); have K3 := Lib.hid (And.intro k3 (And.intro hN3 (And.intro ha (And.intro hb (And.intro b2 tt))))); clear k3 hN3 ha hb hf b2 tt t2 hsz)
                | (go_at_call 21; (with_reducible refine (ord_put K3.out.1 (by have := K3.out.2.1; have := HWL.out; omega) (by rw [List.length_map]; have := HWL.out; omega) ⟨tx, d, hh⟩ HFT.out (Or.inl rfl) _ _ K3.out.2.2.1 K3.out.2.2.2.1).mono ?_); rintro e w3 ⟨rfl, k4, kp⟩; obtain ⟨x0, x1, x2⟩ := box3 (kp.heap K3.out.2.2.2.2.1 (.inr (.inl rfl))); have row3 := kp.row (HT.out.row.past K3.out.2.2.2.2.2) (fun k hk => .inl hk); rw [HWL.out] at row3; have K4 := Lib.hid (And.intro k4 row3); clear k4 row3 kp)
                | (at_builtin; refine wpList_append_w rfl (.tmp 94) (.tmp 96) 28 28 rfl (K4.out.2.past ((Turn.refl NoBlock _).alloc _)) iR _ 56 rmsgs_s hiR hzR hsR hbR rfl rfl rfl (Rd.src (rd_new _ 38 3 #[.int .i64 tx, .slice pd d.length cd, .slice ph hh.length ch] rfl) 28 38 rmsgs_s (fun u hu => by simp at hu; rcases hu with rfl | rfl | rfl <;> rfl)) HB1.out HB2.out ?_; intro v8 w8 r8 t8 k8; obtain ⟨p8, c8, rfl⟩ := r8.sl; have R8 := Lib.hid (And.intro r8 (And.intro t8 k8)); clear r8 t8 k8))
              go_roundg (len - (i + 1))
              case measure => omega
              case rel =>
                refine ⟨i + 1, want ++ [⟨⟨tx, d, hh⟩, .slice pd d.length cd, .slice ph hh.length ch⟩], _, p8, c8, by omega, by rw [List.length_append, HWL.out]; rfl, by omega, rfl, rfl, by go_num, Lib.hid ?_⟩
                have he : (want ++ [(⟨⟨tx, d, hh⟩, .slice pd d.length cd, .slice ph hh.length ch⟩ : QM)]).length = i + 1 := by rw [List.length_append, HWL.out]; rfl
                have hc4 := K4.out.1
                refine ord_next (v := .slice p7 i c7) (by rw [List.map_append]; exact hc4) (fun k hk => xs_v hk) (by rw [he]; have := K3.out.2.1; have := HWL.out; omega) ((TU ((Turn.refl NoBlock _).alloc _)).trans R8.out.2.1 (fun _ h => .inl h)) (fun k hk => ?_) HT.out.mine (by rw [he, qcells_app]; exact R8.out.1) (fun q hq => ?_)
                · rcases R8.out.2.2 k hk with h9 | h9
                  · exact .inl h9
                  · right
                    have h10 := h9.1
                    simp at h10
                    omega
                · rcases List.mem_append.1 hq with h9 | h9
                  · exact HT.out.ok q h9
                  · simp at h9
                    subst h9
                    exact ⟨HQR.out, HF.out⟩
            | false =>
              go_wp2_with (first
                | (go_at_call 20; (with_reducible refine (cM.out _ (HT.out.turn.alloc _)).mono ?_); rintro e w2 ⟨a, b, rfl, ha, hb, hf, t2⟩; obtain ⟨pa, ca, rfl⟩ := ha.sl; obtain ⟨pb, cb, rfl⟩ := hb.sl; have b2 := t2.heap (heap_alloc_new wr (.cells #[.int .i64 tx, .slice pd d.length cd, .slice ph hh.length ch] 38)) (fun h => h); have tt := TT ((Turn.refl NoBlock wr).alloc _) t2; have hsz : wr.heap.size < w2.heap.size := lt_of_block b2; obtain ⟨N3, hN3, k3⟩ := ord_msg HT.out (B := wr.heap.size) (Nat.le_refl _) hsz tt ha hb (fun k hk => by have := hf k hk; simp at this; omega); have K3 := Lib.hid (And.intro k3 (And.intro hN3 (And.intro ha (And.intro hb (And.intro b2 tt))))); clear k3 hN3 ha hb hf b2 tt t2 hsz)
                | (go_at_call 21; (with_reducible refine (ord_wake K3.out.1 (by have := K3.out.2.1; have := HWL.out; omega) ⟨tx, d, hh⟩ HFT.out HTX.out _ _ K3.out.2.2.1 K3.out.2.2.2.1 (fun j hj => xs_ab hj)).mono ?_); rintro e w3 ⟨rfl, k4, kp⟩; obtain ⟨x0, x1, x2⟩ := box3 (kp.heap K3.out.2.2.2.2.1 (.inr (.inl rfl))); have row3 := kp.row (HT.out.row.past K3.out.2.2.2.2.2) (fun k hk => .inl hk); rw [HWL.out] at row3; have K4 := Lib.hid (And.intro k4 row3); clear k4 row3 kp)
                | (at_builtin; refine wpList_append_w rfl (.tmp 91) (.tmp 92) 28 28 rfl (wrow_one _ 38 3 #[.int .i64 tx, .slice pd d.length cd, .slice ph hh.length ch] rfl) iR _ 56 rmsgs_s hiR hzR hsR hbR rfl rfl rfl (Rd.src ((WRow.rd K4.out.2).past ((Turn.refl NoBlock _).alloc _)) 28 38 rmsgs_s HONE.out) HB3.out HB4.out ?_; intro v8 w8 r8 t8 k8; obtain ⟨p8, c8, rfl⟩ := r8.sl; have R8 := Lib.hid (And.intro r8 (And.intro t8 k8)); clear r8 t8 k8))
              go_roundg (len - (i + 1))
              case measure => omega
              case rel =>
                refine ⟨i + 1, ⟨⟨tx, d, hh⟩, .slice pd d.length cd, .slice ph hh.length ch⟩ :: want, _, p8, c8, by omega, by rw [List.length_cons, HWL.out], by omega, rfl, by rw [Nat.add_comm i 1], by go_num, Lib.hid ?_⟩
                have he : ((⟨⟨tx, d, hh⟩, .slice pd d.length cd, .slice ph hh.length ch⟩ : QM) :: want).length = 1 + i := by rw [List.length_cons, HWL.out, Nat.add_comm]
                have hc4 := K4.out.1
                rw [Nat.add_comm i 1]
                refine ord_next (v := .slice p7 i c7) (by rw [List.map_cons]; exact hc4) (fun k hk => xs_v hk) (by rw [he]; have := K3.out.2.1; have := HWL.out; omega) (((TU (Turn.refl NoBlock w3)).alloc _).trans R8.out.2.1 (fun k hk => .inr (by have := blk_head hk; omega))) (fun k hk => ?_) HT.out.mine (by rw [he, qcells_cons]; exact R8.out.1) (fun q hq => ?_)
                · rcases R8.out.2.2 k hk with h9 | h9
                  · right
                    have h10 := blk_head h9
                    have h11 := R8.out.2.1.size
                    simp at h11
                    omega
                  · right
                    have h10 := h9.1
                    simp at h10
                    omega
                · rcases List.mem_cons.1 hq with h9 | h9
                  · subst h9
                    exact ⟨HQR.out, HF.out⟩
                  · exact HT.out.ok q h9
          · have hb : (tx == x) = false := by simpa using htx
            have HTX := Lib.hid htx
            clear htx
            cases called with
            | true =>
              go_wp2_with (first
                | (go_at_call 20; (with_reducible refine (cM.out _ (HT.out.turn.alloc _)).mono ?_); rintro e w2 ⟨a, b, rfl, ha, hb, hf, t2⟩; obtain ⟨pa, ca, rfl⟩ := ha.sl; obtain ⟨pb, cb, rfl⟩ := hb.sl; have b2 := t2.heap (heap_alloc_new wr (.cells #[.int .i64 tx, .slice pd d.length cd, .slice ph hh.length ch] 38)) (fun h => h); have tt := TT ((Turn.refl NoBlock wr).alloc _) t2; have hsz : wr.heap.size < w2.heap.size := lt_of_block b2; obtain ⟨N3, hN3, k3⟩ := ord_msg HT.out (B := wr.heap.size) (Nat.le_refl _) hsz tt ha hb (fun k hk => by have := hf k hk; simp at this; omega); have K3 := Lib.hid (And.intro k3 (And.intro hN3 (And.intro ha (And.intro hb (And.intro b2 tt))))); clear k3 hN3 ha hb hf b2 tt t2 hsz)
                | (go_at_call 21; (with_reducible refine (ord_put K3.out.1 (by have := K3.out.2.1; have := HWL.out; omega) (by rw [List.length_map]; have := HWL.out; omega) ⟨tx, d, hh⟩ HFT.out (Or.inl rfl) _ _ K3.out.2.2.1 K3.out.2.2.2.1).mono ?_); rintro e w3 ⟨rfl, k4, kp⟩; obtain ⟨x0, x1, x2⟩ := box3 (kp.heap K3.out.2.2.2.2.1 (.inr (.inl rfl))); have row3 := kp.row (HT.out.row.past K3.out.2.2.2.2.2) (fun k hk => .inl hk); rw [HWL.out] at row3; have K4 := Lib.hid (And.intro k4 row3); clear k4 row3 kp)
                | (at_builtin; refine wpList_append_w rfl (.tmp 94) (.tmp 96) 28 28 rfl (K4.out.2.past ((Turn.refl NoBlock _).alloc _)) iR _ 56 rmsgs_s hiR hzR hsR hbR rfl rfl rfl (Rd.src (rd_new _ 38 3 #[.int .i64 tx, .slice pd d.length cd, .slice ph hh.length ch] rfl) 28 38 rmsgs_s (fun u hu => by simp at hu; rcases hu with rfl | rfl | rfl <;> rfl)) HB1.out HB2.out ?_; intro v8 w8 r8 t8 k8; obtain ⟨p8, c8, rfl⟩ := r8.sl; have R8 := Lib.hid (And.intro r8 (And.intro t8 k8)); clear r8 t8 k8))
              go_roundg (len - (i + 1))
              case measure => omega
              case rel =>
                refine ⟨i + 1, want ++ [⟨⟨tx, d, hh⟩, .slice pd d.length cd, .slice ph hh.length ch⟩], _, p8, c8, by omega, by rw [List.length_append, HWL.out]; rfl, by omega, rfl, rfl, by go_num, Lib.hid ?_⟩
                have he : (want ++ [(⟨⟨tx, d, hh⟩, .slice pd d.length cd, .slice ph hh.length ch⟩ : QM)]).length = i + 1 := by rw [List.length_append, HWL.out]; rfl
                have hc4 := K4.out.1
                refine ord_next (v := .slice p7 i c7) (by rw [List.map_append]; exact hc4) (fun k hk => xs_v hk) (by rw [he]; have := K3.out.2.1; have := HWL.out; omega) ((TU ((Turn.refl NoBlock _).alloc _)).trans R8.out.2.1 (fun _ h => .inl h)) (fun k hk => ?_) HT.out.mine (by rw [he, qcells_app]; exact R8.out.1) (fun q hq => ?_)
                · rcases R8.out.2.2 k hk with h9 | h9
                  · exact .inl h9
                  · right
                    have h10 := h9.1
                    simp at h10
                    omega
                · rcases List.mem_append.1 hq with h9 | h9
                  · exact HT.out.ok q h9
                  · simp at h9
                    subst h9
                    exact ⟨HQR.out, HF.out⟩
            | false =>
              have HOR := Lib.hid (show (false = true ∨ tx ≠ x) from .inr HTX.out)
              go_wp2_with (first
                | (go_at_call 20; (with_reducible refine (cM.out _ (HT.out.turn.alloc _)).mono ?_); rintro e w2 ⟨a, b, rfl, ha, hb, hf, t2⟩; obtain ⟨pa, ca, rfl⟩ := ha.sl; obtain ⟨pb, cb, rfl⟩ := hb.sl; have b2 := t2.heap (heap_alloc_new wr (.cells #[.int .i64 tx, .slice pd d.length cd, .slice ph hh.length ch] 38)) (fun h => h); have tt := TT ((Turn.refl NoBlock wr).alloc _) t2; have hsz : wr.heap.size < w2.heap.size := lt_of_block b2; obtain ⟨N3, hN3, k3⟩ := ord_msg HT.out (B := wr.heap.size) (Nat.le_refl _) hsz tt ha hb (fun k hk => by have := hf k hk; simp at this; omega); have K3 := Lib.hid (And.intro k3 (And.intro hN3 (And.intro ha (And.intro hb (And.intro b2 tt))))); clear k3 hN3 ha hb hf b2 tt t2 hsz)
                | (go_at_call 21; (with_reducible refine (ord_put K3.out.1 (by have := K3.out.2.1; have := HWL.out; omega) (by rw [List.length_map]; have := HWL.out; omega) ⟨tx, d, hh⟩ HFT.out HOR.out _ _ K3.out.2.2.1 K3.out.2.2.2.1).mono ?_); rintro e w3 ⟨rfl, k4, kp⟩; obtain ⟨x0, x1, x2⟩ := box3 (kp.heap K3.out.2.2.2.2.1 (.inr (.inl rfl))); have row3 := kp.row (HT.out.row.past K3.out.2.2.2.2.2) (fun k hk => .inl hk); rw [HWL.out] at row3; have K4 := Lib.hid (And.intro k4 row3); clear k4 row3 kp)
                | (at_builtin; refine wpList_append_w rfl (.tmp 94) (.tmp 96) 28 28 rfl (K4.out.2.past ((Turn.refl NoBlock _).alloc _)) iR _ 56 rmsgs_s hiR hzR hsR hbR rfl rfl rfl (Rd.src (rd_new _ 38 3 #[.int .i64 tx, .slice pd d.length cd, .slice ph hh.length ch] rfl) 28 38 rmsgs_s (fun u hu => by simp at hu; rcases hu with rfl | rfl | rfl <;> rfl)) HB1.out HB2.out ?_; intro v8 w8 r8 t8 k8; obtain ⟨p8, c8, rfl⟩ := r8.sl; have R8 := Lib.hid (And.intro r8 (And.intro t8 k8)); clear r8 t8 k8))
              go_roundg (len - (i + 1))
              case measure => omega
              case rel =>
                refine ⟨i + 1, want ++ [⟨⟨tx, d, hh⟩, .slice pd d.length cd, .slice ph hh.length ch⟩], _, p8, c8, by omega, by rw [List.length_append, HWL.out]; rfl, by omega, rfl, rfl, by go_num, Lib.hid ?_⟩
                have he : (want ++ [(⟨⟨tx, d, hh⟩, .slice pd d.length cd, .slice ph hh.length ch⟩ : QM)]).length = i + 1 := by rw [List.length_append, HWL.out]; rfl
                have hc4 := K4.out.1
                refine ord_next (v := .slice p7 i c7) (by rw [List.map_append]; exact hc4) (fun k hk => xs_v hk) (by rw [he]; have := K3.out.2.1; have := HWL.out; omega) ((TU ((Turn.refl NoBlock _).alloc _)).trans R8.out.2.1 (fun _ h => .inl h)) (fun k hk => ?_) HT.out.mine (by rw [he, qcells_app]; exact R8.out.1) (fun q hq => ?_)
                · rcases R8.out.2.2 k hk with h9 | h9
                  · exact .inl h9
                  · right
                    have h10 := h9.1
                    simp at h10
                    omega
                · rcases List.mem_append.1 hq with h9 | h9
                  · exact HT.out.ok q h9
                  · simp at h9
                    subst h9
                    exact ⟨HQR.out, HF.out⟩
    · obtain rfl : i = len := by omega
      clear hlt hg hi
      have LR0 := Lib.hid (show LR w wr c x want called (.slice p7 i c7) 0 from by
        obtain ⟨N, hN, hcs⟩ := HT.out.st
        exact ⟨⟨N, by omega, hcs⟩, HT.out.row, HT.out.mine, HT.out.ok⟩)
      have HWL := Lib.hid hwl
      clear hwl HT
      go_wp2_with fail
      go_loopg [101] i (fun g s101 wr => ∃ (k : Nat), k ≤ i ∧ g = i - k ∧ s101 = .int .i64 k ∧ Hid (LR w wr c x want called (.slice p7 i c7) k))
      case atStart => exact ⟨0, by omega, by omega, rfl, LR0⟩
      case round =>
        obtain ⟨k, hk, hg, rfl, HT⟩ := hrel
        by_cases hlt : k < i
        · obtain ⟨q, hq⟩ : ∃ q, want[k]? = some q := ⟨_, List.getElem?_eq_getElem (by rw [HWL.out]; exact hlt)⟩
          obtain ⟨g7, o7, rfl⟩ := row_some (by have := HT.out.row; rw [HWL.out] at this; exact this) (by omega : 0 < i)
          obtain ⟨d0, d1, d2⟩ := wrow_q HT.out.row hq
          have hok := HT.out.ok q (List.mem_of_getElem? hq)
          obtain ⟨⟨tx, d, hh⟩, vd, vh⟩ := q
          obtain ⟨pd, cd, hvd⟩ := hok.1.1.sl
          obtain ⟨ph, ch, hvh⟩ := hok.1.2.sl
          dsimp only at hvd hvh d0 d1 d2
          subst hvd hvh
          have HOK := Lib.hid (And.intro (show RzB w (.slice pd d.length cd) d from hok.1.1) (And.intro (show RzI w (.slice ph hh.length ch) hh from hok.1.2) (And.intro (show d.length ≤ 300 from hok.2.1) (show hh.length ≤ 64 from hok.2.2))))
          have HQ := Lib.hid hq
          have b1 := Lib.hid (heap_alloc_new wr (.cells #[.int .i64 tx, .slice pd d.length cd, .slice ph hh.length ch] 38))
          obtain ⟨N, hN, hcs⟩ := lr_box HT.out hq #[.int .i64 tx, .slice pd d.length cd, .slice ph hh.length ch] 38
          have HC := Lib.hid (And.intro hcs (show N ≤ 1000 by omega))
          have HN := Lib.hid hN
          have hnn := hok.2.2
          dsimp only at hnn
          have HNN := Lib.hid (show hh.length ≤ 1000000000 by omega)
          clear hok hq hcs hN hnn
          go_wp2_with (first
            | (go_at_call 22; (with_reducible refine (ord_take HC.out.1 HC.out.2 HOK.out.2.2.1 HOK.out.2.2.2).mono ?_); rintro e w3 ⟨pa, ca, pb, cb, rfl, k3, kp, ha, hb⟩; have l3 := lt_of_block (kp.heap b1.out (xs_b)); obtain ⟨x0, x1, x2⟩ := box3 (kp.heap b1.out (xs_b)); have row3 := kp.row (HT.out.row.past ((Turn.refl NoBlock _).alloc _)) (fun k hk => xs_v hk); have K3 := Lib.hid (And.intro k3 (And.intro row3 (And.intro ha hb))); clear k3 kp ha hb row3)
            | (go_at_call 17; (with_reducible refine (same_eq _ tx d hh _ _ _ _ HNN.out (K3.out.2.2.1.rd.past ((Turn.refl NoBlock _).alloc _)) (K3.out.2.2.2.rd.past ((Turn.refl NoBlock _).alloc _)) (HOK.out.1.past (K3.out.1.turn.alloc _)) (HOK.out.2.1.past (K3.out.1.turn.alloc _))).mono ?_); rintro e w4 ⟨rfl, t4⟩; have T4 := Lib.hid t4; clear t4))
          go_roundg (i - (k + 1))
          case measure => omega
          case rel =>
            have t5 := TT ((Turn.refl NoBlock w3).alloc _) T4.out
            refine ⟨k + 1, by omega, by omega, by go_num, Lib.hid ⟨⟨N, HN.out, (K3.out.1.fewer (fun k hk => xs_v hk)).past t5⟩, K3.out.2.1.past t5, HT.out.mine, HT.out.ok⟩⟩
        · obtain rfl : k = i := by omega
          obtain ⟨N, hN, hcs⟩ := HT.out.st
          rw [List.drop_of_length_le (by rw [HWL.out]; omega), List.map_nil] at hcs
          have HC := Lib.hid (And.intro hcs (show N ≤ 1000 by omega))
          clear hcs hN
          cases called with
          | true =>
            go_wp2_with (first
              | (go_at_call 22; (with_reducible refine (ord_none HC.out.1 HC.out.2).mono ?_); rintro e w3 ⟨rfl, t3⟩; have T3 := Lib.hid t3; clear t3)
              | (go_at_call 25; (with_reducible refine (ord_forget_yes (HC.out.1.past (T3.out.alloc _)) HC.out.2).mono ?_); rintro e w4 ⟨rfl, t4⟩; have T4 := Lib.hid t4; clear t4)
              | (go_at_call 9; (with_reducible refine (cA.out _).mono ?_); rintro e w5 ⟨rfl, t5⟩))
            go_ret
            exact ⟨rfl, TT T4.out t5⟩
          | false =>
            go_wp2_with (first
              | (go_at_call 22; (with_reducible refine (ord_none HC.out.1 HC.out.2).mono ?_); rintro e w3 ⟨rfl, t3⟩; have T3 := Lib.hid t3; clear t3)
              | (go_at_call 25; (with_reducible refine (ord_forget_no (HC.out.1.past (T3.out.alloc _)) HC.out.2).mono ?_); rintro e w4 ⟨rfl, t4⟩; have T4 := Lib.hid t4; clear t4)
              | (go_at_call 9; (with_reducible refine (cA.out _).mono ?_); rintro e w5 ⟨rfl, t5⟩))
            go_ret
            exact ⟨rfl, TT T4.out t5⟩
end Go.Proofs.Ytekbnpocmmfkkaa
