/-
  What the reference's Write answers, and what it makes of its fifo. No conditions but that the reference's fifo is one that calls can make.
-/
import Derived.Test.YtocaebcbmfejbaaFRCalls
import Derived.Deep.LoopGhost
import Derived.Deep.RegionLaw
import Derived.BigQuiet
import Derived.Deep.DeepCutAuto
import Derived.OwnWalk
import Derived.Deep.AppendLies
namespace Go.Proofs.Ytocaebcbmfejbaa
open Go.ChangeShapes Go.WideShapes Go.ChangeAt Go.RowKit

theorem rd_heap {w : World} {g size : Nat} {cs : Array Value} {t : TypeId} (h : w.heap[g]? = some (.cells cs t (0, 0))) (hs : cs.size = size) : Rd w size (.slice (some ⟨g, 0, none⟩) 1 1) 1 cs.toList := by
  refine ⟨by rw [Array.length_toList, hs, Nat.one_mul], _, 1, rfl, (fun h => by cases h), fun a ha => ?_⟩
  cases ha
  exact ⟨_, 0, rfl, fun j hj => by rw [Nat.zero_add, cell_at h]; simp⟩
/-- The bytes that are told, one by one: in memory of the call's own. -/
structure Out (w0 w : World) (v : Value) (bs : List UInt8) : Prop where
  row : Byts v bs w
  turn : Turn NoBlock w0 w
  mine : ∀ k, Blk v k → w0.heap.size ≤ k
theorem Out.more {w0 w X W : World} {v v' : Value} {bs : List UInt8} {z : UInt8} (h : Out w0 w v bs) (t : Turn NoBlock w X) (hr : WRow W 5 1 v' (bs.length + 1) (bcells bs ++ [.int .u8 (z.toNat : Int)])) (t8 : Turn (Blk v) X W) (k8 : ∀ k, Blk v' k → Blk v k ∨ (k = X.heap.size ∧ k < W.heap.size)) : Out w0 W v' (bs ++ [z]) := by
  have t1 := TT h.turn t
  refine ⟨?_, t1.trans t8 (fun k hk => .inr (h.mine k hk)), fun k hk => ?_⟩
  · unfold Byts
    rw [List.length_append, show bcells (bs ++ [z]) = bcells bs ++ [.int .u8 (z.toNat : Int)] by simp [bcells]]
    exact hr
  · rcases k8 k hk with h1 | h1
    · exact h.mine k h1
    · have := t1.size; omega
theorem take_one (b : List UInt8) {a i : Nat} {z : UInt8} (hz : b[a + i]? = some z) : (b.drop a).take (i + 1) = (b.drop a).take i ++ [z] := by
  rw [List.take_add_one, List.getElem?_drop, hz]
  rfl
theorem qmade_trans {w w1 w2 : World} {x count size : Nat} {C : Nat → Bool} {U U1 : Nat → Value} {Q Q1 Q2 : Nat → Pcs} (t1 : Turn (QF x U Q) w w1) (f1 : ∀ k, QF x U1 Q1 k → QF x U Q k ∨ (w.heap.size ≤ k ∧ k < w1.heap.size)) (k : QMade w1 w2 x count size C U1 Q1 Q2) : QMade w w2 x count size C U Q Q2 := by
  obtain ⟨U2, a2, t2, f2⟩ := k
  have hs1 := t1.size
  have hs2 := t2.size
  refine ⟨U2, a2, t1.trans t2 (fun k hk => (f1 k hk).imp id (fun h => h.1)), fun k hk => ?_⟩
  rcases f2 k hk with h | h
  · rcases f1 k h with h | h
    · exact .inl h
    · exact .inr ⟨h.1, by omega⟩
  · exact .inr ⟨by omega, h.2⟩
theorem qpush {WR wr X W9 : World} {x count size e : Nat} {C : Nat → Bool} {U : Nat → Value} {Q : Nat → Pcs} {VE u9 v3 : Value} {el : List UInt8} (ha : QAt WR x count size C U Q) (he : e < 2) (hO : Out WR wr VE el) (tX : Turn NoBlock wr X) (hv : U e = v3) (r9 : WRow W9 35 1 u9 ((Q e).length + 1) (pv (Q e) ++ [VE])) (t9 : Turn (Blk v3) X W9) (k9 : ∀ k, Blk u9 k → Blk v3 k ∨ (k = X.heap.size ∧ k < W9.heap.size)) :
    QMade WR (W9.setCell ⟨x, e, none⟩ u9) x count size C U Q (updN Q e (Q e ++ [(VE, el)])) := by
  subst hv
  have t1 := TT hO.turn tX
  have hsz := t1.size
  have hsz9 := t9.size
  have rowU : WRow X 35 1 (U e) (Q e).length (pv (Q e)) := (ha.row e he).past t1
  have hVE : Byts VE el X := hO.row.past tX
  refine ha.made he ((TU t1 : Turn (Blk (U e)) WR X).trans t9 (fun _ h => .inl h)) (by rw [List.length_append, show pv (Q e ++ [(VE, el)]) = pv (Q e) ++ [VE] by simp [pv]]; exact r9) (fun q hq => ?_) (fun k hk => ?_)
  · rcases List.mem_append.1 hq with h1 | h1
    · have hqX : Byts q.1 q.2 X := (ha.rd e he q h1).past t1
      exact ⟨hqX.kept t9 (fun k hk hk' => blks_typed hqX rowU (by decide) k hk hk'), fun k hk => .inl ⟨q, h1, hk⟩⟩
    · simp at h1
      subst h1
      exact ⟨hVE.kept t9 (fun k hk hk' => blks_typed hVE rowU (by decide) k hk hk'), fun k hk => .inr ⟨hO.mine k hk, Nat.lt_of_lt_of_le (hVE.lt hk) hsz9⟩⟩
  · rcases k9 k hk with h1 | h1
    · exact .inl h1
    · exact .inr ⟨by omega, h1.2⟩
section
variable {w : World} {x count size : Nat} {C : Nat → Bool} {U : Nat → Value} {Q : Nat → Pcs}
set_option maxRecDepth 20000 in
set_option maxHeartbeats 4000000 in
theorem qwrite0 (h : QAt w x count size C U Q) (hc : C 0 = false) (hc2 : C 1 = false) (h1 : 1 ≤ size) (h2 : size ≤ 64) (h3 : count ≤ 1024) {v : Value} {b : List UInt8} (hb : Rk w v b) (hoff : ∀ k, Blk v k → ¬ QF x U Q k) (k : Nat) (hk : b.length = k * size) (hk0 : 0 < k) (hbl : b.length ≤ 1000) (hn : (Q 1).length < count) :
    Calls Try.prog 42 #[.pointer (some ⟨x, 0, none⟩), .int .i64 0, v] w fun y w' => y = .returned (.tuple #[.int .i64 ((min k (count - (Q 1).length) : Nat) : Int), .int .i64 0]) ∧ ∃ L : Pcs, L.length = min k (count - (Q 1).length) ∧ (∀ q ∈ L, q.2.length = size) ∧ pb L = b.take (min k (count - (Q 1).length) * size) ∧ QMade w w' x count size C U Q (updN Q 1 (Q 1 ++ L)) := by
  obtain ⟨i5, hi5, hz5, hs5, hb5⟩ := info_parts infoB
  obtain ⟨iS, hiS, hzS, hsS, hbS⟩ := info_parts infoS2
  have CK := Lib.hid (show Calls Try.prog 85 #[.pointer (some ⟨x, 0, none⟩), .int .i64 0] w fun y w' => y = .returned (.int .i64 0) ∧ w = w' from qcheck0 h false hc)
  obtain ⟨p, ca, hv⟩ := hb.rz.sl
  obtain ⟨l, hl⟩ : ∃ l, b.length = l := ⟨_, rfl⟩
  obtain ⟨n, hnn⟩ : ∃ n, (Q 1).length = n := ⟨_, rfl⟩
  rw [hl] at hv hk hbl
  rw [hnn] at hn
  have HB := Lib.hid (And.intro hb hoff)
  rw [hv] at HB
  subst hv
  have c5 := h.c5
  have c4 := h.c4
  have hkl : 1 * 1 ≤ k * size := Nat.mul_le_mul hk0 h1
  have hkk : k * 1 ≤ k * size := Nat.mul_le_mul_left _ h1
  have hs0 : (size : Int) ≠ 0 := by omega
  have hs1 : ((size : Int) == 0) = false := by simpa using hs0
  have etm := tmod_nat l size
  rw [hk, Nat.mul_mod_left] at etm
  have b1 : (((l : Nat) : Int) == 0) = false := by rw [beq_eq_false_iff_ne]; omega
  have b2 : Int.tmod ((l : Nat) : Int) (size : Int) = 0 := by rw [hk]; exact etm
  have b3 : ((l : Nat) : Int) % (size : Int) = 0 := by rw [← Int.natCast_emod, hk, Nat.mul_mod_left]; rfl
  have ediv : Int.tdiv ((l : Nat) : Int) (size : Int) = (k : Int) := by rw [Int.tdiv_eq_ediv_of_nonneg (by omega), hk, ← Int.natCast_ediv, Nat.mul_div_cancel _ (by omega)]
  have ediv2 : ((l : Nat) : Int) / (size : Int) = (k : Int) := by rw [hk, ← Int.natCast_ediv, Nat.mul_div_cancel _ (by omega)]
  have ewk : IntKind.i64.wrap (k : Int) = (k : Int) := wrap_nat _ (by omega)
  have d1 : w.cell? ⟨x, 2 + 1, none⟩ = some (.bool (C 1)) := h.cc 1 (by omega)
  have d3 : w.cell? ⟨x, 1, none⟩ = some (U 1) := h.cw 1 (by omega)
  simp only [Nat.reduceAdd] at d1
  obtain ⟨p1, a1, hv1⟩ := (h.row 1 (by omega)).sl
  rw [hnn] at hv1
  rw [hv1] at d3
  rw [hc2] at d1
  have g5 : (size : Int) ≤ 64 := by omega
  have g6 : (k : Int) ≤ 1000 := by omega
  have hne : ((n : Int) == (count : Int)) = false := by rw [beq_eq_false_iff_ne]; omega
  have HI5 := Lib.hid (And.intro hi5 (And.intro hz5 (And.intro hs5 hb5)))
  have HIS := Lib.hid (And.intro hiS (And.intro hzS (And.intro hsS hbS)))
  have HS := Lib.hid (And.intro h1 (And.intro h2 (And.intro h3 (And.intro hk (And.intro hbl (And.intro hn hk0))))))
  have HL := Lib.hid (And.intro hl hnn)
  have START := Lib.hid (show ∀ W, Turn NoBlock w W → QMade w W x count size C U Q (updN Q 1 (Q 1 ++ [])) from fun W t => by rw [List.append_nil, updN_self]; exact QMade.refl h t)
  clear h hb hoff hc hc2 etm hl hnn hk hkl hkk hv1 hi5 hz5 hs5 hb5 hiS hzS hsS hbS h1 h2 h3 hn hk0 hbl
  go_enter Try.func42, Try.ntmps42
  go_wp2_with (go_at_call 85; (with_reducible refine CK.out.mono ?_); rintro y w' ⟨rfl, rfl⟩)
  go_quiet (fail)
  go_wp2
  go_loopg [10] k (fun z s10 wr => ∃ (t : Nat) (L : Pcs), t ≤ k ∧ z = k - t ∧ s10 = .int .i64 (t : Int) ∧ Hid (n + t ≤ count ∧ L.length = t ∧ (∀ q ∈ L, q.2.length = size) ∧ pb L = b.take (t * size)) ∧ Hid (QMade w wr x count size C U Q (updN Q 1 (Q 1 ++ L))))
  case atStart => exact ⟨0, [], by omega, by omega, rfl, Lib.hid ⟨by have := HS.out; omega, rfl, (fun q hq => by cases hq), by simp [pb]⟩, Lib.hid (START.out _ ((Turn.refl NoBlock w).drewN _))⟩
  case round =>
    obtain ⟨t, L, ht, hz, rfl, HT, HM⟩ := hrel
    obtain ⟨U', ha, hturn, hfoot⟩ := HM.out
    have e5 := ha.c5
    have e4 := ha.c4
    have e3 : wr.cell? ⟨x, 1, none⟩ = some (U' 1) := ha.cw 1 (by omega)
    have hrow := ha.row 1 (by omega)
    rw [updN_same] at hrow
    have hll : (Q 1 ++ L).length = n + t := by rw [List.length_append, HL.out.2, HT.out.2.1]
    rw [hll] at hrow
    obtain ⟨p3, a3, hv3⟩ := hrow.sl
    rw [hv3] at e3 hrow
    have hxl := ha.typ.lt
    by_cases hgo : t < k ∧ n + t < count
    · have g1 : (t : Int) < (k : Int) := by omega
      have g2 : ((n : Int) + (t : Int)) < (count : Int) := by omega
      have hrk := HB.out.1.kept hturn (fun j hj i hi e => HB.out.2 i hi (e ▸ hj))
      have hs := HS.out
      have hlt : (t + 1) * size ≤ k * size := Nat.mul_le_mul_right _ hgo.1
      rw [Nat.add_mul, Nat.one_mul] at hlt
      obtain ⟨A, hA⟩ : ∃ A, t * size = A := ⟨_, rfl⟩
      rw [hA] at hlt
      have ewA : IntKind.i64.wrap ((t : Int) * (size : Int)) = (A : Int) := by rw [← Int.natCast_mul, hA]; exact wrap_nat _ (by omega)
      have hlb := HL.out.1
      have hrd := hrk.rz.rd (by omega)
      obtain ⟨p', c', hpe, hpz, hpc⟩ := hrd.form
      rw [hlb] at hpe hpz
      simp only [Value.slice.injEq, true_and] at hpe
      obtain ⟨rfl, rfl⟩ := hpe
      cases p with
      | none => have := hpz rfl; omega
      | some pa =>
        obtain ⟨gb, ob, rfl, hcb⟩ := hpc pa rfl
        have HCB := Lib.hid hcb
        have HA := Lib.hid (And.intro ha (And.intro hturn hfoot))
        have HV3 := Lib.hid (And.intro hv3 hrow)
        have HNU := Lib.hid (show ¬ Blk (.slice p3 (n + t) a3) x from hv3 ▸ ha.nu (e := 1) (by omega))
        have HG := Lib.hid (And.intro hgo (And.intro hA hlt))
        have fx := ha.f 1
        clear ha hturn hfoot hrk hs hlt hA hrd hpz hpc hcb hgo hv3 hrow hll hlb
        obtain ⟨WR, hWR⟩ : ∃ WR, WR = wr := ⟨_, rfl⟩
        subst hWR
        go_wp2
        go_quiet (fail)
        go_wp2
        go_loopg [11, 12] size (fun z2 s11 s12 wr2 => ∃ (i : Nat) (p11 : Option Addr) (c11 : Nat), i ≤ size ∧ z2 = size - i ∧ s12 = .int .i64 (i : Int) ∧ s11 = .slice p11 i c11 ∧ Hid (Out WR wr2 (.slice p11 i c11) ((b.drop A).take i) ∧ ((b.drop A).take i).length = i))
        case atStart => exact ⟨0, none, 0, by omega, by omega, rfl, rfl, Lib.hid ⟨⟨byts_nil _, (Turn.refl NoBlock WR).drewN _, fun k hk => (blk_nil k hk).elim⟩, rfl⟩⟩
        case round =>
          obtain ⟨i, p11, c11, hi, hz2, rfl, rfl, HO⟩ := hrel
          have e5' := HO.out.1.turn.cell e5 (fun h => h)
          have e3' := HO.out.1.turn.cell e3 (fun h => h)
          by_cases hlt2 : i < size
          · have g3 : (i : Int) < (size : Int) := by omega
            obtain ⟨J, hJ⟩ : ∃ J, A + i = J := ⟨_, rfl⟩
            have ewJ : IntKind.i64.wrap ((A : Int) + (i : Int)) = (J : Int) := by rw [← Int.natCast_add, hJ]; exact wrap_nat _ (by have := HG.out; have := HS.out; omega)
            have hJl : J < l := by have := HG.out; have := HS.out; omega
            have g4 : (J : Int) < (l : Int) := by omega
            obtain ⟨z, hzz⟩ : ∃ z, b[J]? = some z := ⟨_, List.getElem?_eq_getElem (by rw [HL.out.1]; exact hJl)⟩
            have cz := HO.out.1.turn.cell (show WR.cell? ⟨gb, ob + J, none⟩ = some (.int .u8 (z.toNat : Int)) by
              rw [HCB.out J (by rw [HL.out.1]; omega)]
              unfold bcells
              rw [List.getElem?_map, hzz]
              rfl) (fun h => h)
            have HZ := Lib.hid (show (b.drop A).take (i + 1) = (b.drop A).take i ++ [z] from take_one b (by rw [hJ]; exact hzz))
            have ROW := Lib.hid (show WRow wr 5 1 (.slice p11 i c11) i (bcells ((b.drop A).take i)) by have := HO.out.1.row; unfold Byts at this; rw [HO.out.2] at this; exact this)
            have LB := Lib.hid (show i + 1 ≤ maxLen ∧ (i + 1) * 1 ≤ 140737488355328 by have := HS.out; unfold maxLen; omega)
            clear hJ hzz
            go_wp2_with (at_builtin; refine wpList_append_w rfl (.tmp 83) (.tmp 95) 35 35 rfl (WRow.past ROW.out ((Turn.refl NoBlock _).alloc _)) i5 _ 1 bytesT HI5.out.1 HI5.out.2.1 HI5.out.2.2.1 HI5.out.2.2.2 rfl rfl rfl (Rd.src (rd_new _ 5 1 #[.int .u8 (z.toNat : Int)] rfl) 35 5 bytesT (fun u hu => by simp at hu; subst hu; rfl)) LB.out.1 LB.out.2 ?_; intro v8 W8 r8 t8 k8; obtain ⟨p8, c8', rfl⟩ := r8.sl; have R8 := Lib.hid (And.intro r8 (And.intro t8 k8)); clear r8 t8 k8)
            go_roundg (size - (i + 1))
            case measure => omega
            case rel =>
              refine ⟨i + 1, p8, c8', by omega, rfl, by go_num, rfl, Lib.hid ?_⟩
              rw [HZ.out]
              exact ⟨Out.more (w := wr) HO.out.1 ((Turn.refl NoBlock _).alloc _) (by rw [HO.out.2]; exact R8.out.1) R8.out.2.1 R8.out.2.2, by rw [List.length_append, HO.out.2]; rfl⟩
          · have his : i = size := by omega
            have g3 : ¬ (i : Int) < (size : Int) := by omega
            have EL := Lib.hid (show ((b.drop A).take i).length = size ∧ (b.drop A).take i = (b.drop A).take size ∧ i = size by rw [← his]; exact ⟨HO.out.2, rfl, rfl⟩)
            have hxl2 : x < wr.heap.size := Nat.lt_of_lt_of_le hxl HO.out.1.turn.size
            have TX := Lib.hid (show TBlk wr x 83 from HA.out.1.typ.kept HO.out.1.turn (fun h => h))
            have ROWU := Lib.hid (show WRow wr 35 1 (.slice p3 (n + t) a3) (n + t) (pv (Q 1 ++ L)) from HV3.out.2.past HO.out.1.turn)
            have LU := Lib.hid (show n + t + 1 ≤ maxLen ∧ (n + t + 1) * 24 ≤ 140737488355328 by have := HS.out; have := HT.out; unfold maxLen; omega)
            obtain ⟨VE, hVE⟩ : ∃ VE : Value, VE = .slice p11 i c11 := ⟨_, rfl⟩
            clear hz2 hi hlt2 his
            go_upto_region 18 with (fail)
            go_region_law (first
              | (refine step_append_r rfl (.tmp 104) (.tmp 106) 57 57 rfl (WRow.past ROWU.out (show Turn NoBlock wr _ from (by (repeat (first | with_reducible exact Turn.refl _ _ | with_reducible refine Turn.drew ?_ | with_reducible refine Turn.alloc ?_ _))))) iS _ 24 bytess2 HIS.out.1 HIS.out.2.1 HIS.out.2.2.1 HIS.out.2.2.2 (by rfl) (by rfl) (by rfl) (Rd.src (rd_heap (cs := #[.slice p11 i c11]) (t := 35) (by exact heap_alloc_new wr _) rfl) 57 35 bytess2 (fun u hu => by simp at hu; subst hu; rfl)) LU.out.1 LU.out.2 ?_; intro v9 W9 z9 r9 t9 k9; clear z9; obtain ⟨p9, c9, rfl⟩ := r9.sl; have R9 := Lib.hid (And.intro r9 (And.intro t9 k9)); have c9x := t9.cell (p := ⟨x, 1, none⟩) ((show Turn NoBlock wr _ from (by (repeat (first | with_reducible exact Turn.refl _ _ | with_reducible refine Turn.drew ?_ | with_reducible refine Turn.alloc ?_ _)))).cell e3' (fun h => h)) HNU.out; have f9x := ((TX.out.kept (show Turn NoBlock wr _ from (by (repeat (first | with_reducible exact Turn.refl _ _ | with_reducible refine Turn.drew ?_ | with_reducible refine Turn.alloc ?_ _)))) (fun h => h)).kept t9 HNU.out).free 1; have l9x := ((TX.out.kept (show Turn NoBlock wr _ from (by (repeat (first | with_reducible exact Turn.refl _ _ | with_reducible refine Turn.drew ?_ | with_reducible refine Turn.alloc ?_ _)))) (fun h => h)).kept t9 HNU.out).lt; clear r9 t9 k9))
            all_goals
              have HNEW := Lib.hid (show QMade w (W9.setCell ⟨x, 1, none⟩ (.slice p9 (n + t + 1) c9)) x count size C U Q (updN Q 1 (Q 1 ++ (L ++ [(.slice p11 i c11, (b.drop A).take size)]))) from by
                have hq := qpush (e := 1) HA.out.1 (by omega) (EL.out.2.1 ▸ HO.out.1) (show Turn NoBlock wr _ from (by (repeat (first | with_reducible exact Turn.refl _ _ | with_reducible refine Turn.drew ?_ | with_reducible refine Turn.alloc ?_ _)))) HV3.out.1 (by rw [updN_same, List.length_append, HL.out.2, HT.out.2.1]; exact R9.out.1) R9.out.2.1 R9.out.2.2
                rw [updN_twice, updN_same, List.append_assoc] at hq
                exact qmade_trans HA.out.2.1 HA.out.2.2 hq)
              have HTN := Lib.hid (show n + (t + 1) ≤ count ∧ (L ++ [((.slice p11 i c11 : Value), (b.drop A).take size)]).length = t + 1 ∧ (∀ q ∈ L ++ [((.slice p11 i c11 : Value), (b.drop A).take size)], q.2.length = size) ∧ pb (L ++ [((.slice p11 i c11 : Value), (b.drop A).take size)]) = b.take ((t + 1) * size) from by
                refine ⟨by have := HG.out; omega, by rw [List.length_append, HT.out.2.1]; rfl, fun q hq => ?_, ?_⟩
                · rcases List.mem_append.1 hq with h1 | h1
                  · exact HT.out.2.2.1 q h1
                  · simp at h1; subst h1; rw [← EL.out.2.1]; exact EL.out.1
                · rw [pb_app, HT.out.2.2.2, HG.out.2.1, Nat.add_mul, Nat.one_mul, HG.out.2.1, List.take_add]
                  simp [pb])
              have HTK := Lib.hid (show t + 1 ≤ k from HG.out.1.1)
              go_wp2
              go_roundg (k - (t + 1))
              case measure => omega
              case rel => exact ⟨t + 1, _, HTK.out, rfl, by go_num, HTN, HNEW⟩
    · have hN : min k (count - n) = t := by have := HT.out.1; omega
      have HN := Lib.hid (show min k (count - (Q 1).length) = t by rw [HL.out.2]; exact hN)
      have FIN := Lib.hid (show ∀ m8, QMade w (wr.drewN m8) x count size C U Q (updN Q 1 (Q 1 ++ L)) from fun m8 => by
        obtain ⟨U2, a2, t2, f2⟩ := HM.out
        exact ⟨U2, a2.past ((Turn.refl NoBlock wr).drewN _), t2.trans ((Turn.refl NoBlock wr).drewN _) (fun _ h => h.elim), f2⟩)
      by_cases g1 : (t : Int) < (k : Int)
      · have g2 : ¬ ((n : Int) + (t : Int)) < (count : Int) := by omega
        have g3 : decide (((n : Int) + (t : Int)) < (count : Int)) = false := by simpa using g2
        clear hN hgo
        go_wp2
        go_quiet (fail)
        go_wp2
        go_ret2
        exact ⟨by rw [HN.out]; rfl, L, by rw [HN.out]; exact HT.out.2.1, HT.out.2.2.1, by rw [HN.out]; exact HT.out.2.2.2, FIN.out _⟩
      · have htk : t = k := by omega
        clear hN hgo g1 hz ht
        subst htk
        go_wp2
        go_quiet (fail)
        go_wp2
        go_ret2
        exact ⟨by rw [HN.out]; rfl, L, by rw [HN.out]; exact HT.out.2.1, HT.out.2.2.1, by rw [HN.out]; exact HT.out.2.2.2, FIN.out _⟩
set_option maxRecDepth 20000 in
set_option maxHeartbeats 4000000 in
theorem qwrite1 (h : QAt w x count size C U Q) (hc : C 1 = false) (hc2 : C 0 = false) (h1 : 1 ≤ size) (h2 : size ≤ 64) (h3 : count ≤ 1024) {v : Value} {b : List UInt8} (hb : Rk w v b) (hoff : ∀ k, Blk v k → ¬ QF x U Q k) (k : Nat) (hk : b.length = k * size) (hk0 : 0 < k) (hbl : b.length ≤ 1000) (hn : (Q 0).length < count) :
    Calls Try.prog 42 #[.pointer (some ⟨x, 0, none⟩), .int .i64 1, v] w fun y w' => y = .returned (.tuple #[.int .i64 ((min k (count - (Q 0).length) : Nat) : Int), .int .i64 0]) ∧ ∃ L : Pcs, L.length = min k (count - (Q 0).length) ∧ (∀ q ∈ L, q.2.length = size) ∧ pb L = b.take (min k (count - (Q 0).length) * size) ∧ QMade w w' x count size C U Q (updN Q 0 (Q 0 ++ L)) := by
  obtain ⟨i5, hi5, hz5, hs5, hb5⟩ := info_parts infoB
  obtain ⟨iS, hiS, hzS, hsS, hbS⟩ := info_parts infoS2
  have CK := Lib.hid (show Calls Try.prog 85 #[.pointer (some ⟨x, 0, none⟩), .int .i64 1] w fun y w' => y = .returned (.int .i64 0) ∧ w = w' from qcheck1 h false hc)
  obtain ⟨p, ca, hv⟩ := hb.rz.sl
  obtain ⟨l, hl⟩ : ∃ l, b.length = l := ⟨_, rfl⟩
  obtain ⟨n, hnn⟩ : ∃ n, (Q 0).length = n := ⟨_, rfl⟩
  rw [hl] at hv hk hbl
  rw [hnn] at hn
  have HB := Lib.hid (And.intro hb hoff)
  rw [hv] at HB
  subst hv
  have c5 := h.c5
  have c4 := h.c4
  have hkl : 1 * 1 ≤ k * size := Nat.mul_le_mul hk0 h1
  have hkk : k * 1 ≤ k * size := Nat.mul_le_mul_left _ h1
  have hs0 : (size : Int) ≠ 0 := by omega
  have hs1 : ((size : Int) == 0) = false := by simpa using hs0
  have etm := tmod_nat l size
  rw [hk, Nat.mul_mod_left] at etm
  have b1 : (((l : Nat) : Int) == 0) = false := by rw [beq_eq_false_iff_ne]; omega
  have b2 : Int.tmod ((l : Nat) : Int) (size : Int) = 0 := by rw [hk]; exact etm
  have b3 : ((l : Nat) : Int) % (size : Int) = 0 := by rw [← Int.natCast_emod, hk, Nat.mul_mod_left]; rfl
  have ediv : Int.tdiv ((l : Nat) : Int) (size : Int) = (k : Int) := by rw [Int.tdiv_eq_ediv_of_nonneg (by omega), hk, ← Int.natCast_ediv, Nat.mul_div_cancel _ (by omega)]
  have ediv2 : ((l : Nat) : Int) / (size : Int) = (k : Int) := by rw [hk, ← Int.natCast_ediv, Nat.mul_div_cancel _ (by omega)]
  have ewk : IntKind.i64.wrap (k : Int) = (k : Int) := wrap_nat _ (by omega)
  have d1 : w.cell? ⟨x, 2 + 0, none⟩ = some (.bool (C 0)) := h.cc 0 (by omega)
  have d3 : w.cell? ⟨x, 0, none⟩ = some (U 0) := h.cw 0 (by omega)
  simp only [Nat.reduceAdd] at d1
  obtain ⟨p1, a1, hv1⟩ := (h.row 0 (by omega)).sl
  rw [hnn] at hv1
  rw [hv1] at d3
  rw [hc2] at d1
  have g5 : (size : Int) ≤ 64 := by omega
  have g6 : (k : Int) ≤ 1000 := by omega
  have hne : ((n : Int) == (count : Int)) = false := by rw [beq_eq_false_iff_ne]; omega
  have HI5 := Lib.hid (And.intro hi5 (And.intro hz5 (And.intro hs5 hb5)))
  have HIS := Lib.hid (And.intro hiS (And.intro hzS (And.intro hsS hbS)))
  have HS := Lib.hid (And.intro h1 (And.intro h2 (And.intro h3 (And.intro hk (And.intro hbl (And.intro hn hk0))))))
  have HL := Lib.hid (And.intro hl hnn)
  have START := Lib.hid (show ∀ W, Turn NoBlock w W → QMade w W x count size C U Q (updN Q 0 (Q 0 ++ [])) from fun W t => by rw [List.append_nil, updN_self]; exact QMade.refl h t)
  clear h hb hoff hc hc2 etm hl hnn hk hkl hkk hv1 hi5 hz5 hs5 hb5 hiS hzS hsS hbS h1 h2 h3 hn hk0 hbl
  go_enter Try.func42, Try.ntmps42
  go_wp2_with (go_at_call 85; (with_reducible refine CK.out.mono ?_); rintro y w' ⟨rfl, rfl⟩)
  go_quiet (fail)
  go_wp2
  go_loopg [10] k (fun z s10 wr => ∃ (t : Nat) (L : Pcs), t ≤ k ∧ z = k - t ∧ s10 = .int .i64 (t : Int) ∧ Hid (n + t ≤ count ∧ L.length = t ∧ (∀ q ∈ L, q.2.length = size) ∧ pb L = b.take (t * size)) ∧ Hid (QMade w wr x count size C U Q (updN Q 0 (Q 0 ++ L))))
  case atStart => exact ⟨0, [], by omega, by omega, rfl, Lib.hid ⟨by have := HS.out; omega, rfl, (fun q hq => by cases hq), by simp [pb]⟩, Lib.hid (START.out _ ((Turn.refl NoBlock w).drewN _))⟩
  case round =>
    obtain ⟨t, L, ht, hz, rfl, HT, HM⟩ := hrel
    obtain ⟨U', ha, hturn, hfoot⟩ := HM.out
    have e5 := ha.c5
    have e4 := ha.c4
    have e3 : wr.cell? ⟨x, 0, none⟩ = some (U' 0) := ha.cw 0 (by omega)
    have hrow := ha.row 0 (by omega)
    rw [updN_same] at hrow
    have hll : (Q 0 ++ L).length = n + t := by rw [List.length_append, HL.out.2, HT.out.2.1]
    rw [hll] at hrow
    obtain ⟨p3, a3, hv3⟩ := hrow.sl
    rw [hv3] at e3 hrow
    have hxl := ha.typ.lt
    by_cases hgo : t < k ∧ n + t < count
    · have g1 : (t : Int) < (k : Int) := by omega
      have g2 : ((n : Int) + (t : Int)) < (count : Int) := by omega
      have hrk := HB.out.1.kept hturn (fun j hj i hi e => HB.out.2 i hi (e ▸ hj))
      have hs := HS.out
      have hlt : (t + 1) * size ≤ k * size := Nat.mul_le_mul_right _ hgo.1
      rw [Nat.add_mul, Nat.one_mul] at hlt
      obtain ⟨A, hA⟩ : ∃ A, t * size = A := ⟨_, rfl⟩
      rw [hA] at hlt
      have ewA : IntKind.i64.wrap ((t : Int) * (size : Int)) = (A : Int) := by rw [← Int.natCast_mul, hA]; exact wrap_nat _ (by omega)
      have hlb := HL.out.1
      have hrd := hrk.rz.rd (by omega)
      obtain ⟨p', c', hpe, hpz, hpc⟩ := hrd.form
      rw [hlb] at hpe hpz
      simp only [Value.slice.injEq, true_and] at hpe
      obtain ⟨rfl, rfl⟩ := hpe
      cases p with
      | none => have := hpz rfl; omega
      | some pa =>
        obtain ⟨gb, ob, rfl, hcb⟩ := hpc pa rfl
        have HCB := Lib.hid hcb
        have HA := Lib.hid (And.intro ha (And.intro hturn hfoot))
        have HV3 := Lib.hid (And.intro hv3 hrow)
        have HNU := Lib.hid (show ¬ Blk (.slice p3 (n + t) a3) x from hv3 ▸ ha.nu (e := 0) (by omega))
        have HG := Lib.hid (And.intro hgo (And.intro hA hlt))
        have fx := ha.f 0
        clear ha hturn hfoot hrk hs hlt hA hrd hpz hpc hcb hgo hv3 hrow hll hlb
        obtain ⟨WR, hWR⟩ : ∃ WR, WR = wr := ⟨_, rfl⟩
        subst hWR
        go_wp2
        go_quiet (fail)
        go_wp2
        go_loopg [11, 12] size (fun z2 s11 s12 wr2 => ∃ (i : Nat) (p11 : Option Addr) (c11 : Nat), i ≤ size ∧ z2 = size - i ∧ s12 = .int .i64 (i : Int) ∧ s11 = .slice p11 i c11 ∧ Hid (Out WR wr2 (.slice p11 i c11) ((b.drop A).take i) ∧ ((b.drop A).take i).length = i))
        case atStart => exact ⟨0, none, 0, by omega, by omega, rfl, rfl, Lib.hid ⟨⟨byts_nil _, (Turn.refl NoBlock WR).drewN _, fun k hk => (blk_nil k hk).elim⟩, rfl⟩⟩
        case round =>
          obtain ⟨i, p11, c11, hi, hz2, rfl, rfl, HO⟩ := hrel
          have e5' := HO.out.1.turn.cell e5 (fun h => h)
          have e3' := HO.out.1.turn.cell e3 (fun h => h)
          by_cases hlt2 : i < size
          · have g3 : (i : Int) < (size : Int) := by omega
            obtain ⟨J, hJ⟩ : ∃ J, A + i = J := ⟨_, rfl⟩
            have ewJ : IntKind.i64.wrap ((A : Int) + (i : Int)) = (J : Int) := by rw [← Int.natCast_add, hJ]; exact wrap_nat _ (by have := HG.out; have := HS.out; omega)
            have hJl : J < l := by have := HG.out; have := HS.out; omega
            have g4 : (J : Int) < (l : Int) := by omega
            obtain ⟨z, hzz⟩ : ∃ z, b[J]? = some z := ⟨_, List.getElem?_eq_getElem (by rw [HL.out.1]; exact hJl)⟩
            have cz := HO.out.1.turn.cell (show WR.cell? ⟨gb, ob + J, none⟩ = some (.int .u8 (z.toNat : Int)) by
              rw [HCB.out J (by rw [HL.out.1]; omega)]
              unfold bcells
              rw [List.getElem?_map, hzz]
              rfl) (fun h => h)
            have HZ := Lib.hid (show (b.drop A).take (i + 1) = (b.drop A).take i ++ [z] from take_one b (by rw [hJ]; exact hzz))
            have ROW := Lib.hid (show WRow wr 5 1 (.slice p11 i c11) i (bcells ((b.drop A).take i)) by have := HO.out.1.row; unfold Byts at this; rw [HO.out.2] at this; exact this)
            have LB := Lib.hid (show i + 1 ≤ maxLen ∧ (i + 1) * 1 ≤ 140737488355328 by have := HS.out; unfold maxLen; omega)
            clear hJ hzz
            go_wp2_with (at_builtin; refine wpList_append_w rfl (.tmp 83) (.tmp 95) 35 35 rfl (WRow.past ROW.out ((Turn.refl NoBlock _).alloc _)) i5 _ 1 bytesT HI5.out.1 HI5.out.2.1 HI5.out.2.2.1 HI5.out.2.2.2 rfl rfl rfl (Rd.src (rd_new _ 5 1 #[.int .u8 (z.toNat : Int)] rfl) 35 5 bytesT (fun u hu => by simp at hu; subst hu; rfl)) LB.out.1 LB.out.2 ?_; intro v8 W8 r8 t8 k8; obtain ⟨p8, c8', rfl⟩ := r8.sl; have R8 := Lib.hid (And.intro r8 (And.intro t8 k8)); clear r8 t8 k8)
            go_roundg (size - (i + 1))
            case measure => omega
            case rel =>
              refine ⟨i + 1, p8, c8', by omega, rfl, by go_num, rfl, Lib.hid ?_⟩
              rw [HZ.out]
              exact ⟨Out.more (w := wr) HO.out.1 ((Turn.refl NoBlock _).alloc _) (by rw [HO.out.2]; exact R8.out.1) R8.out.2.1 R8.out.2.2, by rw [List.length_append, HO.out.2]; rfl⟩
          · have his : i = size := by omega
            have g3 : ¬ (i : Int) < (size : Int) := by omega
            have EL := Lib.hid (show ((b.drop A).take i).length = size ∧ (b.drop A).take i = (b.drop A).take size ∧ i = size by rw [← his]; exact ⟨HO.out.2, rfl, rfl⟩)
            have hxl2 : x < wr.heap.size := Nat.lt_of_lt_of_le hxl HO.out.1.turn.size
            have TX := Lib.hid (show TBlk wr x 83 from HA.out.1.typ.kept HO.out.1.turn (fun h => h))
            have ROWU := Lib.hid (show WRow wr 35 1 (.slice p3 (n + t) a3) (n + t) (pv (Q 0 ++ L)) from HV3.out.2.past HO.out.1.turn)
            have LU := Lib.hid (show n + t + 1 ≤ maxLen ∧ (n + t + 1) * 24 ≤ 140737488355328 by have := HS.out; have := HT.out; unfold maxLen; omega)
            obtain ⟨VE, hVE⟩ : ∃ VE : Value, VE = .slice p11 i c11 := ⟨_, rfl⟩
            clear hz2 hi hlt2 his
            go_upto_region 18 with (fail)
            go_region_law (first
              | (refine step_append_r rfl (.tmp 104) (.tmp 106) 57 57 rfl (WRow.past ROWU.out (show Turn NoBlock wr _ from (by (repeat (first | with_reducible exact Turn.refl _ _ | with_reducible refine Turn.drew ?_ | with_reducible refine Turn.alloc ?_ _))))) iS _ 24 bytess2 HIS.out.1 HIS.out.2.1 HIS.out.2.2.1 HIS.out.2.2.2 (by rfl) (by rfl) (by rfl) (Rd.src (rd_heap (cs := #[.slice p11 i c11]) (t := 35) (by exact heap_alloc_new wr _) rfl) 57 35 bytess2 (fun u hu => by simp at hu; subst hu; rfl)) LU.out.1 LU.out.2 ?_; intro v9 W9 z9 r9 t9 k9; clear z9; obtain ⟨p9, c9, rfl⟩ := r9.sl; have R9 := Lib.hid (And.intro r9 (And.intro t9 k9)); have c9x := t9.cell (p := ⟨x, 0, none⟩) ((show Turn NoBlock wr _ from (by (repeat (first | with_reducible exact Turn.refl _ _ | with_reducible refine Turn.drew ?_ | with_reducible refine Turn.alloc ?_ _)))).cell e3' (fun h => h)) HNU.out; have f9x := ((TX.out.kept (show Turn NoBlock wr _ from (by (repeat (first | with_reducible exact Turn.refl _ _ | with_reducible refine Turn.drew ?_ | with_reducible refine Turn.alloc ?_ _)))) (fun h => h)).kept t9 HNU.out).free 0; have l9x := ((TX.out.kept (show Turn NoBlock wr _ from (by (repeat (first | with_reducible exact Turn.refl _ _ | with_reducible refine Turn.drew ?_ | with_reducible refine Turn.alloc ?_ _)))) (fun h => h)).kept t9 HNU.out).lt; clear r9 t9 k9))
            all_goals
              have HNEW := Lib.hid (show QMade w (W9.setCell ⟨x, 0, none⟩ (.slice p9 (n + t + 1) c9)) x count size C U Q (updN Q 0 (Q 0 ++ (L ++ [(.slice p11 i c11, (b.drop A).take size)]))) from by
                have hq := qpush (e := 0) HA.out.1 (by omega) (EL.out.2.1 ▸ HO.out.1) (show Turn NoBlock wr _ from (by (repeat (first | with_reducible exact Turn.refl _ _ | with_reducible refine Turn.drew ?_ | with_reducible refine Turn.alloc ?_ _)))) HV3.out.1 (by rw [updN_same, List.length_append, HL.out.2, HT.out.2.1]; exact R9.out.1) R9.out.2.1 R9.out.2.2
                rw [updN_twice, updN_same, List.append_assoc] at hq
                exact qmade_trans HA.out.2.1 HA.out.2.2 hq)
              have HTN := Lib.hid (show n + (t + 1) ≤ count ∧ (L ++ [((.slice p11 i c11 : Value), (b.drop A).take size)]).length = t + 1 ∧ (∀ q ∈ L ++ [((.slice p11 i c11 : Value), (b.drop A).take size)], q.2.length = size) ∧ pb (L ++ [((.slice p11 i c11 : Value), (b.drop A).take size)]) = b.take ((t + 1) * size) from by
                refine ⟨by have := HG.out; omega, by rw [List.length_append, HT.out.2.1]; rfl, fun q hq => ?_, ?_⟩
                · rcases List.mem_append.1 hq with h1 | h1
                  · exact HT.out.2.2.1 q h1
                  · simp at h1; subst h1; rw [← EL.out.2.1]; exact EL.out.1
                · rw [pb_app, HT.out.2.2.2, HG.out.2.1, Nat.add_mul, Nat.one_mul, HG.out.2.1, List.take_add]
                  simp [pb])
              have HTK := Lib.hid (show t + 1 ≤ k from HG.out.1.1)
              go_wp2
              go_roundg (k - (t + 1))
              case measure => omega
              case rel => exact ⟨t + 1, _, HTK.out, rfl, by go_num, HTN, HNEW⟩
    · have hN : min k (count - n) = t := by have := HT.out.1; omega
      have HN := Lib.hid (show min k (count - (Q 0).length) = t by rw [HL.out.2]; exact hN)
      have FIN := Lib.hid (show ∀ m8, QMade w (wr.drewN m8) x count size C U Q (updN Q 0 (Q 0 ++ L)) from fun m8 => by
        obtain ⟨U2, a2, t2, f2⟩ := HM.out
        exact ⟨U2, a2.past ((Turn.refl NoBlock wr).drewN _), t2.trans ((Turn.refl NoBlock wr).drewN _) (fun _ h => h.elim), f2⟩)
      by_cases g1 : (t : Int) < (k : Int)
      · have g2 : ¬ ((n : Int) + (t : Int)) < (count : Int) := by omega
        have g3 : decide (((n : Int) + (t : Int)) < (count : Int)) = false := by simpa using g2
        clear hN hgo
        go_wp2
        go_quiet (fail)
        go_wp2
        go_ret2
        exact ⟨by rw [HN.out]; rfl, L, by rw [HN.out]; exact HT.out.2.1, HT.out.2.2.1, by rw [HN.out]; exact HT.out.2.2.2, FIN.out _⟩
      · have htk : t = k := by omega
        clear hN hgo g1 hz ht
        subst htk
        go_wp2
        go_quiet (fail)
        go_wp2
        go_ret2
        exact ⟨by rw [HN.out]; rfl, L, by rw [HN.out]; exact HT.out.2.1, HT.out.2.2.1, by rw [HN.out]; exact HT.out.2.2.2, FIN.out _⟩
end
end Go.Proofs.Ytocaebcbmfejbaa
