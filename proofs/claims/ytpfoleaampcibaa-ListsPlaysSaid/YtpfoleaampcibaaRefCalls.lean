/-
  What Where, check, Pop, Remove, Splice, Push, Front of the reference's lists answer, and what they make of the queues. No conditions but that the lists are such as calls can make.
-/
import Derived.Test.YtpfoleaampcibaaRefMem
import Derived.Deep.LoopGhost
import Derived.Deep.RegionLaw
import Derived.BigQuiet
import Derived.RegionTactic
import Derived.ChangeAlike
namespace Go.Proofs.Ytpfoleaampcibaa
open Go.ChangeShapes Go.WideShapes Go.ChangeAt Go.RowKit

theorem rwhere_any (w : World) (x qb n k : Nat) (vs : Nat → Value) (L : Nat → List Nat) (i : Nat) (h : RefMem w x qb n k vs L) (ap : Apart n k L) (hk : k ≤ 65536) (hn : n ≤ 65536) :
    Calls Try.prog 20 #[.pointer (some ⟨x, 0, none⟩), .int .i64 i] w fun e w' => e = .returned (.int .i64 (whereOf k L i)) ∧ w = w' := by
  have c0 := h.c0
  have HR : Hid (RefMem w x qb n k vs L) := h
  have HA : Hid (Apart n k L) := ap
  have HW : Hid ((∀ q, q < k → i ∉ L q) → whereOf k L i = -1) := fun h => where_not h
  clear h ap
  obtain ⟨z, hz⟩ : ∃ z, whereOf k L i = z := ⟨_, rfl⟩
  have HZ : Hid (whereOf k L i = z) := hz
  rw [hz]
  clear hz
  go_enter Try.func20, Try.ntmps20
  go_wp2
  go_loopg [5] k (fun g c wr => ∃ q : Nat, q ≤ k ∧ g = k - q ∧ c = .int .i64 q ∧ wr = w ∧ Hid (∀ p, p < q → i ∉ L p))
  case atStart => exact ⟨0, by omega, by omega, rfl, rfl, fun p hp => absurd hp (Nat.not_lt_zero p)⟩
  case round =>
    obtain ⟨q, hq, hgk, rfl, rfl, hno⟩ := hrel
    by_cases hlt : q < k
    · have hI := HR.out.each q hlt
      have hrow := HR.out.row hlt
      obtain ⟨l, hl⟩ : ∃ l, L q = l := ⟨_, rfl⟩
      obtain ⟨m, hm⟩ : ∃ m, l.length = m := ⟨_, rfl⟩
      obtain ⟨pr, cr, hv⟩ := ints_slice hI
      rw [hl] at hI
      rw [hl, castL_len, hm] at hv
      rw [hv] at hrow hI
      have HI : Hid (Ints (.slice pr m cr) (castL l) wr) := hI
      have HL : Hid (L q = l ∧ l.length = m) := ⟨hl, hm⟩
      have hml : m ≤ 65536 := by
        have := nodup_len n (L q) (HA.out.nodup q hlt) (fun y hy => HA.out.lt q y hlt hy)
        rw [hl, hm] at this
        omega
      clear hI hv hl hm
      go_wp2
      go_loopg [6] m (fun g c wy => ∃ j : Nat, j ≤ m ∧ g = m - j ∧ c = .int .i64 j ∧ wy = wr ∧ Hid (∀ y ∈ l.take j, y ≠ i))
      case atStart => exact ⟨0, by omega, by omega, rfl, rfl, by intro y hy; simp at hy⟩
      case round =>
        obtain ⟨j, hj, hgk2, rfl, rfl, hne⟩ := hrel
        by_cases hlt2 : j < m
        · have hjl : j < l.length := by rw [HL.out.2]; exact hlt2
          obtain ⟨g, cc, he, hcc, hcc'⟩ := ints_shape HI.out (by rw [castL_len]; omega)
          simp only [Value.slice.injEq] at he
          obtain ⟨rfl, hee, rfl⟩ := he
          clear hee
          rw [castL_len, HL.out.2] at hcc
          have k1 := ints_cell HI.out j (by rw [castL_len]; exact hjl)
          rw [castL_getD] at k1
          obtain ⟨y, hy⟩ : ∃ y, l.getD j 0 = y := ⟨_, rfl⟩
          rw [hy] at k1
          have htk : l.take (j + 1) = l.take j ++ [y] := by
            rw [List.take_add_one, List.getElem?_eq_getElem hjl, ← hy]
            simp [List.getD, List.getElem?_eq_getElem hjl]
          have hym : y ∈ l := by rw [← hy]; simp [List.getD, List.getElem?_eq_getElem hjl]
          by_cases hyi : y = i
          · subst hyi
            have hzz : z = (q : Int) := by
              rw [← HZ.out]
              exact where_is hlt (by rw [HL.out.1]; exact hym) (fun q' h1 h2 => HA.out.once q' q y h1 hlt h2 (by rw [HL.out.1]; exact hym))
            have HZ2 : Hid (z = (q : Int)) := hzz
            clear htk hym hzz hjl hy
            go_wp2
            go_ret
            rw [HZ2.out]
            exact ⟨rfl, rfl⟩
          · have hb : ((y : Int) == i) = false := by simp; omega
            have HN : Hid (∀ u ∈ l.take (j + 1), u ≠ i) := by
              intro u hu
              rw [htk] at hu
              rcases List.mem_append.1 hu with h | h
              · exact hne.out u h
              · simp at h; subst h; exact hyi
            clear htk hym hyi hjl hy
            go_wp2
            go_roundg (m - (j + 1))
            case measure => omega
            case rel => exact ⟨j + 1, by omega, by omega, by go_num, rfl, HN⟩
        · obtain rfl : j = m := by omega
          have HN : Hid (∀ p, p < q + 1 → i ∉ L p) := fun p hp hm => by
            by_cases e : p = q
            · subst e
              rw [HL.out.1] at hm
              have := hne.out i
              rw [← HL.out.2, List.take_length] at this
              exact this hm rfl
            · exact hno.out p (by omega) hm
          go_wp2
          go_roundg (k - (q + 1))
          case measure => omega
          case rel => exact ⟨q + 1, by omega, by omega, by go_num, rfl, HN⟩
    · obtain rfl : q = k := by omega
      have hzz : z = -1 := by rw [← HZ.out]; exact HW.out hno.out
      have HZ2 : Hid (z = -1) := hzz
      clear hzz
      go_wp2
      go_ret
      rw [HZ2.out]
      exact ⟨rfl, rfl⟩

theorem rcheck_any (w : World) (x qb n k : Nat) (vs : Nat → Value) (L : Nat → List Nat) (q i : Int) (h : RefMem w x qb n k vs L) (ap : Apart n k L) (hk : k ≤ 65536) (hn : n ≤ 65536) :
    Calls Try.prog 30 #[.pointer (some ⟨x, 0, none⟩), .int .i64 q, .int .i64 i] w fun e w' => e = .returned (.int .i64 (putS n k L q i)) ∧ w = w' := by
  have c0 := h.c0
  have c1 := h.c1
  unfold putS
  by_cases hin : inQ k q ∧ inQ n i
  · obtain ⟨a, rfl, ha⟩ := inQ_nat hin.1
    obtain ⟨b, rfl, hb⟩ := inQ_nat hin.2
    rw [if_pos hin, Int.toNat_natCast]
    have cw := rwhere_any w x qb n k vs L b h ap hk hn
    by_cases hz : whereOf k L b = -1
    · rw [if_pos hz]
      rw [hz] at cw
      clear h ap hin hz
      go_enter Try.func30, Try.ntmps30
      go_wp2_with (go_at_call 20; (with_reducible refine cw.mono ?_); rintro e w' ⟨rfl, rfl⟩)
      go_ret
      exact ⟨rfl, rfl⟩
    · rw [if_neg hz]
      obtain ⟨p, h1, h2, h3⟩ := where_some hz
      rw [h2] at cw
      clear h ap hin hz h1 h2 h3
      go_enter Try.func30, Try.ntmps30
      go_wp2_with (go_at_call 20; (with_reducible refine cw.mono ?_); rintro e w' ⟨rfl, rfl⟩)
      go_ret
      exact ⟨rfl, rfl⟩
  · rw [if_neg hin]
    have hc : q < 0 ∨ (0 ≤ q ∧ (k : Int) ≤ q) ∨ (0 ≤ q ∧ q < k ∧ i < 0) ∨ (0 ≤ q ∧ q < k ∧ 0 ≤ i ∧ (n : Int) ≤ i) := by unfold inQ at hin; omega
    clear h ap hin
    rcases hc with g1 | ⟨g1, g2⟩ | ⟨g1, g2, g3⟩ | ⟨g1, g2, g3, g4⟩
    all_goals
      go_enter Try.func30, Try.ntmps30
      go_wp2
      go_ret
      exact ⟨rfl, rfl⟩

theorem ref_row {w : World} {x qb n k : Nat} {vs : Nat → Value} {L : Nat → List Nat} (h : RefMem w x qb n k vs L) {q : Nat} (hq : q < k) :
    ∃ pr cr, vs q = .slice pr (L q).length cr ∧ w.cell? ⟨qb, q, none⟩ = some (.slice pr (L q).length cr) ∧ Ints (.slice pr (L q).length cr) (castL (L q)) w := by
  have hI := h.each q hq
  obtain ⟨pr, cr, hv⟩ := ints_slice hI
  rw [castL_len] at hv
  have hr := h.row hq
  rw [hv] at hr hI
  exact ⟨pr, cr, hv, hr, hI⟩

set_option maxHeartbeats 4000000 in
theorem rpush_ok (W : World) (x qb n k : Nat) (vs : Nat → Value) (L : Nat → List Nat) (q i : Nat) (h : RefMem W x qb n k vs L) (ap : Apart n k L) (hk : k ≤ 65536) (hn : n ≤ 65536) (hq : q < k) (hi : i < n) (hz : whereOf k L i = -1) :
    Calls Try.prog 11 #[.pointer (some ⟨x, 0, none⟩), .int .i64 q, .int .i64 i] W fun e w' => e = .returned (.int .i64 0) ∧ ∃ R', RefAt w' x R' n k (upd L q (L q ++ [i])) ∧ Turn (RFoot x qb k vs) W w' ∧ ∀ j, R' j → RFoot x qb k vs j ∨ W.heap.size ≤ j := by
  have cc := rcheck_any W x qb n k vs L q i h ap hk hn
  rw [putS_nat hq hi hz] at cc
  have c0 := h.c0
  obtain ⟨pr, cr, -, c1, hI⟩ := ref_row h hq
  have hlen : (L q).length ≤ 65536 := by
    have := nodup_len n (L q) (ap.nodup q hq) (fun y hy => ap.lt q y hq hy)
    omega
  obtain ⟨l, hl⟩ : ∃ l, L q = l := ⟨_, rfl⟩
  obtain ⟨m, hm⟩ : ∃ m, l.length = m := ⟨_, rfl⟩
  rw [hl] at hI c1 hlen ⊢
  rw [hm] at hI c1 hlen
  have HR : Hid (RefMem W x qb n k vs L) := h
  have HS : Hid (∀ W', Turn NoBlock W W' → Src W' (.slice pr m cr) (castL l)) := fun W' hT => Src.of_ints (hI.past hT)
  have HLn : Hid (([] : List Int).length + (castL l).length ≤ 1000000 ∧ (castL l).length + ([(i : Int)] : List Int).length ≤ 1000000) := by
    show 0 + (castL l).length ≤ 1000000 ∧ (castL l).length + 1 ≤ 1000000
    rw [castL_len, hm]; omega
  have HF : Hid (∀ (w : World) (v : Value), Turn NoBlock W w → Ints v (castL l ++ [(i : Int)]) w → (∀ j, Blk v j → W.heap.size ≤ j) → ∃ R', RefAt (w.setCell ⟨qb, q, none⟩ v) x R' n k (upd L q (l ++ [i])) ∧ Turn (RFoot x qb k vs) W (w.setCell ⟨qb, q, none⟩ v) ∧ ∀ j, R' j → RFoot x qb k vs j ∨ W.heap.size ≤ j) := fun w v h1 h2 h3 => by
    have e : castL (l ++ [i]) = castL l ++ [(i : Int)] := by rw [castL_append]; rfl
    exact ⟨_, ref_done HR.out hq h1 (by rw [e]; exact h2) h3⟩
  have HC : Hid (∀ w, Turn NoBlock W w → w.cell? ⟨x, 0, none⟩ = some (.slice (some ⟨qb, 0, none⟩) k k) ∧ w.cell? ⟨qb, q, none⟩ = some (.slice pr m cr) ∧ w.frozen? ⟨qb, q, none⟩ = false) := fun w hT => ⟨hT.cell c0 (fun h => h), hT.cell c1 (fun h => h), (HR.out.past hT).free q⟩
  have hx := World.block_lt_of_cell? W _ c0
  have hqb := World.block_lt_of_cell? W _ c1
  have hqi : (q : Int) < k := by omega
  clear h ap hI hz hl hm hi
  go_enter Try.func11, Try.ntmps11
  go_wp2_with (go_at_call 30; (with_reducible refine cc.mono ?_); rintro e w' ⟨rfl, rfl⟩)
  go_region_law (first
    | (refine step_join _ rfl (.tmp 20) (.tmp 27) rfl (.slice none 0 0) (.slice pr m cr) [] (castL l) rfl rfl (ints_nil _) ((Hid.out HS) _ (by first | exact (Turn.refl _ _).drew | exact ((Turn.refl _ _).alloc _).drew)) (Hid.out HLn).1 ?_; intro v1 w1 J1; have K1 : Hid (Ints v1 (castL l) w1 ∧ Turn NoBlock W w1 ∧ ∀ j, Blk v1 j → W.heap.size ≤ j) := (by first | exact nil_join ((Turn.refl _ _).drew) J1 | exact nil_join (((Turn.refl _ _).alloc _).drew) J1); obtain ⟨b0, b1, b2⟩ := (Hid.out HC) w1 (Hid.out K1).2.1; have b3 : W.heap.size ≤ w1.heap.size := (Hid.out K1).2.1.size; have b4 : x < w1.heap.size := World.block_lt_of_cell? w1 _ b0; have b5 : qb < w1.heap.size := World.block_lt_of_cell? w1 _ b1)
    | (refine step_join _ rfl (.tmp 28) (.tmp 30) rfl v1 (.slice (some ⟨w1.heap.size, 0, none⟩) 1 1) (castL l) [(i : Int)] rfl rfl (Ints.past (Hid.out K1).1 ((Turn.refl _ _).alloc _)) (Src.of_ints (ints_new1 w1 i)) (Hid.out HLn).2 ?_; intro v2 w2 J2; obtain ⟨pv, n2, cv, rfl, K2'⟩ := next_join' (Hid.out K1).2 ((Turn.refl _ _).alloc _) J2; have K2 : Hid (Ints (.slice pv n2 cv) (castL l ++ [(i : Int)]) w2 ∧ Turn NoBlock W w2 ∧ ∀ j, Blk (.slice pv n2 cv) j → W.heap.size ≤ j) := K2'; clear K2'; obtain ⟨e0, e1, e2⟩ := (Hid.out HC) w2 (Hid.out K2).2.1)
    | (refine step_join _ rfl (.tmp 28) (.tmp 30) rfl v1 (.slice (some ⟨W.heap.size, 0, none⟩) 1 1) (castL l) [(i : Int)] rfl rfl (Hid.out K1).1 (Src.past (Src.of_ints (ints_new1 W i)) (by exact (Turn.refl NoBlock _).drew.trans J1.2.1 (fun j hj => (blk_nil j hj).elim))) (Hid.out HLn).2 ?_; intro v2 w2 J2; obtain ⟨pv, n2, cv, rfl, K2'⟩ := next_join' (Hid.out K1).2 (Turn.refl _ _) J2; have K2 : Hid (Ints (.slice pv n2 cv) (castL l ++ [(i : Int)]) w2 ∧ Turn NoBlock W w2 ∧ ∀ j, Blk (.slice pv n2 cv) j → W.heap.size ≤ j) := K2'; clear K2'; obtain ⟨e0, e1, e2⟩ := (Hid.out HC) w2 (Hid.out K2).2.1))
  all_goals
    go_wp2
    go_ret
    exact ⟨rfl, HF.out _ _ K2.out.2.1 K2.out.1 K2.out.2.2⟩

end Go.Proofs.Ytpfoleaampcibaa
