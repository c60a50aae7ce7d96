/-
  The statement ListsWhole answers true at all slices of calls.
-/
import Derived.Test.YtpfoleaampcibaaAwake
import Derived.Test.YtpfoleaampcibaaSplice
import Derived.Test.YtpfoleaampcibaaCalls2
import Derived.Test.YtpfoleaampcibaaList
import Derived.Test.YtpfoleaampcibaaSays2
import Derived.Test.YtpfoleaampcibaaOpArg
import Derived.Test.YtpfoleaampcibaaWholeModel
import Derived.Test.YtpfoleaampcibaaCastL
import Derived.Deep.LoopGhost
import Derived.Deep.DeepCutAuto
import Derived.Deep.CutBlock
import Derived.Laws.Rows
namespace Go.Proofs.Ytpfoleaampcibaa
open Go.ChangeShapes Go.WideShapes Go.ChangeAt Go.RowKit

theorem under45 : Try.prog.underlying 45 = some (.array 12 3) := by kernel_rfl
theorem index45 (cs : Array Value) (j : Nat) (hj : j < 12) (w : World) (u : Value) (hu : cs[j]? = some u) : (Instr.index 45 (.agg cs) (.int .i64 (j : Int))).run Try.prog w = .ok u w := by
  have h1 : (0 : Int) ≤ j ∧ (j : Int) < 12 := by omega
  simp [Instr.index, run_underlying under45, asIntOf, h1, go_sem]
  rw [if_pos hj, hu]
  rfl

theorem whole_past (p : Option Addr) (len cap : Nat) (w : World) (h : 150 < len) :
    Calls Try.prog 4 #[.slice p len cap] w fun e w' => e = .returned (.bool true) ∧ Turn NoBlock w w' := by
  have c1 : Calls Try.prog 8 #[.int .i64 3, .int .i64 12] w _ := new_yes 3 12 w (by decide) (by decide)
  have c2 := awake_any
  have h1 : (150 : Int) < len := by omega
  clear h
  go_enter Try.func4, Try.ntmps4
  go_wp2_with (first
    | (go_at_call 8; (with_reducible refine c1.mono ?_); rintro e w1 ⟨a, F, rfl, -, T1, -⟩; have T1' : Hid (Turn NoBlock w w1) := T1; clear T1)
    | (go_at_call 9; (with_reducible refine (c2 _).mono ?_); rintro e w9 ⟨rfl, T9⟩; have T9' : Hid (Turn NoBlock w w9) := (Hid.out T1').trans T9 (fun _ h => .inl h); clear T9))
  go_ret
  exact ⟨rfl, T9'.out⟩

set_option maxRecDepth 100000 in
set_option maxHeartbeats 4000000 in
theorem whole_walk (os : Nat → OpV) (p : Option Addr) (len cap : Nat) (w : World) (h1 : len ≤ 150) (hos : OpsAt w p len os) (hof : OpsFit len os) :
    Calls Try.prog 4 #[.slice p len cap] w fun e w' => e = .returned (.bool true) ∧ Turn NoBlock w w' := by
  have c1 : Calls Try.prog 8 #[.int .i64 3, .int .i64 12] w _ := new_yes 3 12 w (by decide) (by decide)
  have c9 := awake_any
  have HOs : Hid (OpsAt w p len os) := hos
  have HFit : Hid (OpsFit len os) := hof
  clear hos hof
  go_enter Try.func4, Try.ntmps4
  go_wp2_with (go_at_call 8; (with_reducible refine c1.mono ?_); rintro e w1 ⟨a, F, rfl, A1, T1, L1⟩; have S1 : Hid (ListsAt w1 a F 12 3 (fun _ => []) ∧ Turn NoBlock w w1 ∧ ∀ k, F k → w.heap.size ≤ k) := ⟨A1, T1, L1⟩; clear A1 T1 L1)
  go_loopg [28] len (fun g c wr => ∃ (j : Nat) (L : Nat → List Nat), j ≤ len ∧ g = len - j ∧ c = .int .i64 j ∧ Hid (ListsAt wr a F 12 3 L ∧ Turn NoBlock w wr ∧ ∀ k, F k → w.heap.size ≤ k))
  case atStart => exact ⟨0, _, by omega, by omega, rfl, S1⟩
  case round =>
    clear S1
    obtain ⟨j, L, hj, hgk, rfl, S2⟩ := hrel
    by_cases hlt : j < len
    · obtain ⟨b, off, rfl, hc⟩ := HOs.out (by omega)
      obtain ⟨k0, k1, k2⟩ := hc j hlt
      have k0 := S2.out.2.1.cell k0 (fun h => h)
      have k1 := S2.out.2.1.cell k1 (fun h => h)
      have k2 := S2.out.2.1.cell k2 (fun h => h)
      obtain ⟨o, ho⟩ : ∃ o, os j = o := ⟨_, rfl⟩
      rw [ho] at k0 k1 k2
      have hof := HFit.out j hlt
      rw [ho] at hof
      clear hc ho
      go_upto_block 2 with (fail)
      obtain ⟨W, hW⟩ : ∃ W, wr.alloc (.cells #[.int .i64 o.kind, .int .i64 o.q, .int .i64 o.i] 31) = W := ⟨_, rfl⟩
      obtain ⟨ob, hob⟩ : ∃ ob, wr.heap.size = ob := ⟨_, rfl⟩
      have m0 : (wr.alloc (.cells #[.int .i64 o.kind, .int .i64 o.q, .int .i64 o.i] 31)).cell? ⟨wr.heap.size, 0, none⟩ = some (.int .i64 o.kind) := by simp
      have m1 : (wr.alloc (.cells #[.int .i64 o.kind, .int .i64 o.q, .int .i64 o.i] 31)).cell? ⟨wr.heap.size, 1, none⟩ = some (.int .i64 o.q) := by simp
      have m2 : (wr.alloc (.cells #[.int .i64 o.kind, .int .i64 o.q, .int .i64 o.i] 31)).cell? ⟨wr.heap.size, 2, none⟩ = some (.int .i64 o.i) := by simp
      have S3 : ListsAt (wr.alloc (.cells #[.int .i64 o.kind, .int .i64 o.q, .int .i64 o.i] 31)) a F 12 3 L ∧ Turn NoBlock w (wr.alloc (.cells #[.int .i64 o.kind, .int .i64 o.q, .int .i64 o.i] 31)) ∧ ∀ k, F k → w.heap.size ≤ k :=
        ⟨S2.out.1.past ((Turn.refl _ _).alloc _), S2.out.2.1.alloc _, S2.out.2.2⟩
      rw [hW] at m0 m1 m2 S3 ⊢
      rw [hob] at m0 m1 m2 ⊢
      have S4 := (show Hid _ from S3)
      clear hW hob k0 k1 k2 S3 S2
      go_cut [] (fun wx => ∃ L' : Nat → List Nat, Hid (ListsAt wx a F 12 3 L' ∧ Turn NoBlock w wx ∧ ∀ k, F k → w.heap.size ≤ k))
      case first =>
        have hF : ∀ w', Turn F W w' → Turn NoBlock w w' := fun w' ht => S4.out.2.1.trans ht (fun k hk => .inr (S4.out.2.2 k hk))
        by_cases q1 : o.kind = 1
        · have b1 : (o.kind == 1) = true := by simpa using q1
          have cp := push_any W a F 12 3 L o.q o.i S4.out.1
          clear q1
          go_wp2_with (go_at_call 10; (with_reducible refine cp.mono ?_); rintro e w5 ⟨rfl, A5, T5⟩; have S5 : Hid (ListsAt w5 a F 12 3 (pushL 12 3 L o.q o.i) ∧ Turn NoBlock w w5 ∧ ∀ k, F k → w.heap.size ≤ k) := ⟨A5, hF _ T5, S4.out.2.2⟩; clear A5 T5 cp)
          go_meet
          exact ⟨_, S5⟩
        · by_cases q2 : o.kind = 2
          · have b2 : (o.kind == 2) = true := by simpa using q2
            have b1 : (o.kind == 1) = false := by simpa using q1
            have cp := front_any W a F 12 3 L o.q o.i S4.out.1
            clear q1 q2
            go_wp2_with (go_at_call 12; (with_reducible refine cp.mono ?_); rintro e w5 ⟨rfl, A5, T5⟩; have S5 : Hid (ListsAt w5 a F 12 3 (frontL 12 3 L o.q o.i) ∧ Turn NoBlock w w5 ∧ ∀ k, F k → w.heap.size ≤ k) := ⟨A5, hF _ T5, S4.out.2.2⟩; clear A5 T5 cp)
            go_meet
            exact ⟨_, S5⟩
          · by_cases q3 : o.kind = 3
            · have b3 : (o.kind == 3) = true := by simpa using q3
              have b1 : (o.kind == 1) = false := by simpa using q1
              have b2 : (o.kind == 2) = false := by simpa using q2
              have cp := pop_any W a F 12 3 L o.q S4.out.1
              clear q1 q2 q3
              go_wp2_with (go_at_call 14; (with_reducible refine cp.mono ?_); rintro e w5 ⟨rfl, A5, T5⟩; have S5 : Hid (ListsAt w5 a F 12 3 (popL 3 L o.q) ∧ Turn NoBlock w w5 ∧ ∀ k, F k → w.heap.size ≤ k) := ⟨A5, hF _ T5, S4.out.2.2⟩; clear A5 T5 cp)
              go_meet
              exact ⟨_, S5⟩
            · by_cases q4 : o.kind = 4
              · have b4 : (o.kind == 4) = true := by simpa using q4
                have b1 : (o.kind == 1) = false := by simpa using q1
                have b2 : (o.kind == 2) = false := by simpa using q2
                have b3 : (o.kind == 3) = false := by simpa using q3
                have cp := remove_any W a F 12 3 L o.i S4.out.1
                clear q1 q2 q3 q4
                go_wp2_with (go_at_call 16; (with_reducible refine cp.mono ?_); rintro e w5 ⟨rfl, A5, T5⟩; have S5 : Hid (ListsAt w5 a F 12 3 (remL 12 3 L o.i) ∧ Turn NoBlock w w5 ∧ ∀ k, F k → w.heap.size ≤ k) := ⟨A5, hF _ T5, S4.out.2.2⟩; clear A5 T5 cp)
                go_meet
                exact ⟨_, S5⟩
              · by_cases q5 : o.kind = 5
                · have b5 : (o.kind == 5) = true := by simpa using q5
                  have b1 : (o.kind == 1) = false := by simpa using q1
                  have b2 : (o.kind == 2) = false := by simpa using q2
                  have b3 : (o.kind == 3) = false := by simpa using q3
                  have b4 : (o.kind == 4) = false := by simpa using q4
                  have cp := splice_any W a F 12 3 L o.q o.i S4.out.1
                  clear q1 q2 q3 q4 q5
                  go_wp2_with (go_at_call 18; (with_reducible refine cp.mono ?_); rintro e w5 ⟨rfl, A5, T5⟩; have S5 : Hid (ListsAt w5 a F 12 3 (splL 3 L o.q o.i) ∧ Turn NoBlock w w5 ∧ ∀ k, F k → w.heap.size ≤ k) := ⟨A5, hF _ T5, S4.out.2.2⟩; clear A5 T5 cp)
                  go_meet
                  exact ⟨_, S5⟩
                · have b1 : (o.kind == 1) = false := by simpa using q1
                  have b2 : (o.kind == 2) = false := by simpa using q2
                  have b3 : (o.kind == 3) = false := by simpa using q3
                  have b4 : (o.kind == 4) = false := by simpa using q4
                  have b5 : (o.kind == 5) = false := by simpa using q5
                  clear q1 q2 q3 q4 q5
                  go_wp2_with fail
                  go_meet
                  exact ⟨_, S4⟩
      case rest =>
        clear S4 m0 m1 m2 hof
        obtain ⟨L', S5⟩ := hcut
        have hap := S5.out.1.apart
        have HAp : Hid (Apart 12 3 L') := hap
        have C0 : Chk w (wc.alloc (.cells #[.int .i64 0, .int .i64 0, .int .i64 0, .int .i64 0, .int .i64 0, .int .i64 0, .int .i64 0, .int .i64 0, .int .i64 0, .int .i64 0, .int .i64 0, .int .i64 0] 45)) a F L' wc.heap.size (cat L' 0) :=
          ⟨S5.out.1.past ((Turn.refl _ _).alloc _), S5.out.2.1.alloc _, S5.out.2.2, S5.out.2.1.size, fun k hk e => by have := (lists_own a F 12 3 L').lt _ S5.out.1 k hk; omega, Seen.new wc⟩
        go_wp2_with fail
        generalize (wc.alloc (.cells #[.int .i64 0, .int .i64 0, .int .i64 0, .int .i64 0, .int .i64 0, .int .i64 0, .int .i64 0, .int .i64 0, .int .i64 0, .int .i64 0, .int .i64 0, .int .i64 0] 45)) = w1 at C0 ⊢
        obtain ⟨B, hB⟩ : ∃ B, wc.heap.size = B := ⟨_, rfl⟩
        rw [hB] at C0 ⊢
        have C1 : Hid (Chk w w1 a F L' B (cat L' 0)) := C0
        clear S5 hB C0 hap
        go_loopg [7, 70] 3 (fun g tot c wx => ∃ q : Nat, q ≤ 3 ∧ g = 3 - q ∧ c = .int .i64 q ∧ tot = .int .i64 ((cat L' q).length : Nat) ∧ Hid (Chk w wx a F L' B (cat L' q)))
        case atStart => exact ⟨0, by omega, by omega, rfl, rfl, C1⟩
        case round =>
          clear C1
          obtain ⟨q, hq, hgk2, rfl, rfl, C2⟩ := hrel
          by_cases hlt2 : q < 3
          · obtain ⟨l, hl⟩ : ∃ l, L' q = l := ⟨_, rfl⟩
            obtain ⟨n, hn⟩ : ∃ n, l.length = n := ⟨_, rfl⟩
            obtain ⟨D, hD⟩ : ∃ D, cat L' q = D := ⟨_, rfl⟩
            obtain ⟨d, hd⟩ : ∃ d, D.length = d := ⟨_, rfl⟩
            have hc3 : cat L' (q + 1) = D ++ l := by rw [cat_succ, hD, hl]
            have hlen := HAp.out.len (q := q + 1) (by omega)
            rw [hc3, List.length_append, hd, hn] at hlen
            rw [hD] at C2 ⊢
            rw [hd]
            have hli : listOf 3 L' q = l := by unfold listOf; rw [if_pos (inQ_cast hlt2), Int.toNat_natCast, hl]
            have cl : ∀ W, ListsAt W a F 12 3 L' → Calls Try.prog 25 #[.pointer (some ⟨a, 0, none⟩), .int .i64 q] W fun e w' => ∃ pv cv, e = .returned (.slice pv n cv) ∧ Ints (.slice pv n cv) (castL l) w' ∧ (∀ j, Blk (.slice pv n cv) j → W.heap.size ≤ j) ∧ Turn NoBlock W w' := fun W h => by
              refine (list_any W a F 12 3 L' q h).mono ?_
              rintro e w' ⟨v, rfl, h1, h2, h3⟩
              rw [hli] at h1
              obtain ⟨pv, cv, hv⟩ := ints_slice h1
              rw [castL_len, hn] at hv
              subst hv
              exact ⟨pv, cv, rfl, h1, h2, h3⟩
            have cn : ∀ W, ListsAt W a F 12 3 L' → Calls Try.prog 22 #[.pointer (some ⟨a, 0, none⟩), .int .i64 q] W fun e w' => e = .returned (.int .i64 n) ∧ W = w' := fun W h => by
              have := len_any W a F 12 3 L' q h
              rw [hli, hn] at this
              exact this
            have cw : ∀ x, x ∈ l → ∀ W, ListsAt W a F 12 3 L' → Calls Try.prog 21 #[.pointer (some ⟨a, 0, none⟩), .int .i64 (x : Nat)] W fun e w' => e = .returned (.int .i64 q) ∧ W = w' := fun x hx W h => by
              have := where_any W a F 12 3 L' x h
              rw [HAp.out.where_in hlt2 (by rw [hl]; exact hx)] at this
              exact this
            have HLt : Hid (∀ x ∈ l, x < 12) := fun x hx => HAp.out.lt q x hlt2 (by rw [hl]; exact hx)
            have HW : Hid (∀ x, x ∈ l → ∀ W, ListsAt W a F 12 3 L' → Calls Try.prog 21 #[.pointer (some ⟨a, 0, none⟩), .int .i64 (x : Nat)] W fun e w' => e = .returned (.int .i64 q) ∧ W = w') := cw
            have HN : Hid (l.length = n ∧ D.length = d ∧ cat L' (q + 1) = D ++ l) := ⟨hn, hd, hc3⟩
            clear hl hn hD hd hc3 hli cw
            go_wp2_with (go_at_call 25; (with_reducible refine (cl _ (Chk.lists (Hid.out C2))).mono ?_); rintro e w6 ⟨pv, cv, rfl, I6, B6, T6⟩; have C6 : Hid (Chk w w6 a F L' B D ∧ Ints (.slice pv n cv) (castL l) w6 ∧ ∀ j, Blk (.slice pv n cv) j → j ≠ B) := ⟨Chk.past (Hid.out C2) T6, I6, fun j hj e => (by have h1 := B6 j hj; obtain ⟨cs, h2, -⟩ := (Hid.out C2).seen; have h3 := lt_of_block h2; omega)⟩; clear I6 B6 T6 cl)
            go_loopg [77] n (fun g c wy => ∃ k : Nat, k ≤ n ∧ g = n - k ∧ c = .int .i64 k ∧ Hid (Chk w wy a F L' B (D ++ l.take k) ∧ Ints (.slice pv n cv) (castL l) wy ∧ ∀ j, Blk (.slice pv n cv) j → j ≠ B))
            case atStart => exact ⟨0, by omega, by omega, rfl, by rw [List.take_zero, List.append_nil]; exact C6⟩
            case round =>
              clear C6 C2
              obtain ⟨k, hk, hgk3, rfl, C7⟩ := hrel
              by_cases hlt3 : k < n
              · have hkl : k < l.length := by rw [HN.out.1]; exact hlt3
                obtain ⟨g, cc, he, hcc, hcc'⟩ := ints_shape C7.out.2.1 (by rw [castL_len]; omega)
                simp only [Value.slice.injEq] at he
                obtain ⟨rfl, hee, rfl⟩ := he
                clear hee
                rw [castL_len, HN.out.1] at hcc
                have k1 := ints_cell C7.out.2.1 k (by rw [castL_len]; exact hkl)
                rw [castL_getD] at k1
                obtain ⟨x, hx⟩ : ∃ x, l.getD k 0 = x := ⟨_, rfl⟩
                rw [hx] at k1
                have hxm : x ∈ l := by rw [← hx]; simp [List.getD, List.getElem?_eq_getElem hkl]
                have hx12 := HLt.out x hxm
                have cw := HW.out x hxm
                have k2 := C7.out.1.seen.cell hx12
                have k3 := C7.out.1.seen.free x
                have hset := C7.out.1.set hx12
                have htk : (D ++ l.take k) ++ [x] = D ++ l.take (k + 1) := by
                  rw [List.append_assoc, List.take_add_one, List.getElem?_eq_getElem hkl, ← hx]
                  simp [List.getD, List.getElem?_eq_getElem hkl]
                rw [htk] at hset
                have hcnt : (D ++ l.take k).count x ≤ 12 := by
                  have := List.count_le_length (a := x) (l := D ++ l.take k)
                  rw [List.length_append, List.length_take, HN.out.2.1] at this
                  omega
                obtain ⟨cx, hcx⟩ : ∃ cx, (D ++ l.take k).count x = cx := ⟨_, rfl⟩
                rw [hcx] at k2 hset hcnt
                have hxi : (x : Int) < 12 := by omega
                have C8 : Hid (Chk w (wr.setCell ⟨B, x, none⟩ (.int .i64 ((cx : Nat) + 1 : Int))) a F L' B (D ++ l.take (k + 1)) ∧ Ints (.slice (some ⟨g, 0, none⟩) n cv) (castL l) (wr.setCell ⟨B, x, none⟩ (.int .i64 ((cx : Nat) + 1 : Int))) ∧ ∀ j, Blk (.slice (some ⟨g, 0, none⟩) n cv) j → j ≠ B) :=
                  ⟨hset, (own_ints _ _).kept _ _ (fun k => k = B) C7.out.2.1 ((Turn.refl (fun k => k = B) wr).setCell (p := ⟨B, x, none⟩) (.inl rfl) _) C7.out.2.2, C7.out.2.2⟩
                clear hset htk hcx hx hxm hkl
                go_wp2_with (go_at_call 21; (with_reducible refine (cw _ (Chk.lists (Hid.out C8).1)).mono ?_); rintro e w9 ⟨rfl, rfl⟩)
                go_roundg (n - (k + 1))
                case measure => omega
                case rel => exact ⟨k + 1, by omega, by omega, by go_num, C8⟩
              · obtain rfl : k = n := by omega
                have hfull : D ++ l.take k = cat L' (q + 1) := by rw [← HN.out.1, List.take_length, HN.out.2.2]
                have hln : (cat L' (q + 1)).length = d + k := by rw [HN.out.2.2, List.length_append, HN.out.1, HN.out.2.1]
                have C8 : Hid (Chk w wr a F L' B (cat L' (q + 1))) := hfull ▸ C7.out.1
                have HLn : Hid ((cat L' (q + 1)).length = d + k) := hln
                clear hfull hln
                go_wp2_with (go_at_call 22; (with_reducible refine (cn _ (Chk.lists (Hid.out C8))).mono ?_); rintro e w9 ⟨rfl, rfl⟩)
                go_roundg (3 - (q + 1))
                case measure => omega
                case rel => exact ⟨q + 1, by omega, by omega, by go_num, by rw [HLn.out]; go_num, C8⟩
          · obtain rfl : q = 3 := by omega
            obtain ⟨D, hD⟩ : ∃ D, cat L' 3 = D := ⟨_, rfl⟩
            rw [hD] at C2 ⊢
            have hcount : ∀ i, i < 12 → (D.count i = 1 ∧ 0 ≤ whereAt 12 3 L' i) ∨ (D.count i = 0 ∧ whereAt 12 3 L' i = -1) := fun i hi => by rw [← hD]; exact HAp.out.count hi
            have hall : rest12 (fun i => D.count i) 12 = D.length := rest12_all D (fun x hx => by
              rw [← hD] at hx
              obtain ⟨p, h1, h2⟩ := mem_cat.1 hx
              exact HAp.out.lt p x h1 h2)
            obtain ⟨cs, hcs, hsz, hci⟩ := C2.out.seen
            obtain ⟨tot, htot⟩ : ∃ tot, D.length = tot := ⟨_, rfl⟩
            rw [htot] at hall ⊢
            have HCt : Hid (∀ i, i < 12 → (D.count i = 1 ∧ 0 ≤ whereAt 12 3 L' i) ∨ (D.count i = 0 ∧ whereAt 12 3 L' i = -1)) := hcount
            have HAl : Hid (rest12 (fun i => D.count i) 12 = tot) := hall
            have HCi : Hid (∀ i, i < 12 → cs[i]? = some (.int .i64 (D.count i : Nat))) := hci
            have hinf : (Try.prog.info? 45).map (·.size) = some cs.size := by rw [hsz]; kernel_rfl
            have HRow : Hid (wr.heap[B]? = some (.cells cs 45 (0, 0)) ∧ (Try.prog.info? 45).map (·.size) = some cs.size) := ⟨hcs, hinf⟩
            have C3 : Hid (Chk w wr a F L' B D) := C2.out
            clear hD hcount hall hcs hsz hci htot hinf C2
            go_wp2_with (refine wpList_load_row rfl 45 (.tmp 6) rfl B rfl 45 cs (0, 0) (.array 12 3) (Hid.out HRow).1 under45 rfl (Hid.out HRow).2 ?_)
            go_loopg [7, 99] 12 (fun g tt c wz => ∃ i : Nat, i ≤ 12 ∧ g = 12 - i ∧ c = .int .i64 i ∧ tt = .int .i64 (rest12 (fun i => D.count i) (12 - i) : Nat) ∧ Hid (Chk w wz a F L' B D))
            case atStart => exact ⟨0, by omega, by omega, rfl, by rw [HAl.out], C3⟩
            case round =>
              clear C3
              obtain ⟨i, hi, hgk3, rfl, rfl, C4⟩ := hrel
              by_cases hlt4 : i < 12
              · have hst := rest12_step (fun i => D.count i) i hlt4
                have hix := fun W => index45 cs i hlt4 W _ (HCi.out i hlt4)
                have hcn := HCt.out i hlt4
                obtain ⟨z, hz⟩ : ∃ z, whereAt 12 3 L' i = z := ⟨_, rfl⟩
                obtain ⟨r0, hr0⟩ : ∃ r0, rest12 (fun i => D.count i) (12 - i) = r0 := ⟨_, rfl⟩
                obtain ⟨r1, hr1⟩ : ∃ r1, rest12 (fun i => D.count i) (12 - (i + 1)) = r1 := ⟨_, rfl⟩
                have cw : ∀ W, ListsAt W a F 12 3 L' → Calls Try.prog 21 #[.pointer (some ⟨a, 0, none⟩), .int .i64 (i : Nat)] W fun e w' => e = .returned (.int .i64 z) ∧ W = w' := fun W h => by
                  have := where_any W a F 12 3 L' i h
                  rw [hz] at this
                  exact this
                rw [hz] at hcn
                rw [hr0, hr1] at hst
                rw [hr0]
                have hb0 : r0 ≤ 100000 := by have := rest12_le (fun i => D.count i) (fun i hi => by rcases HCt.out i hi with h | h <;> omega) (12 - i) (by omega); omega
                have HR1 : Hid (rest12 (fun i => D.count i) (12 - (i + 1)) = r1) := hr1
                rcases hcn with ⟨h1, h2⟩ | ⟨h1, rfl⟩
                · rw [h1] at hix hst
                  have hst' : r0 = 1 + r1 := hst
                  subst hst'
                  clear hst h1 hz hr0 hr1
                  go_wp2_with (go_at_call 21; (with_reducible refine (cw _ (Chk.lists (Hid.out C4))).mono ?_); rintro e w9 ⟨rfl, rfl⟩)
                  go_roundg (12 - (i + 1))
                  case measure => omega
                  case rel => exact ⟨i + 1, by omega, by omega, by go_num, by rw [HR1.out]; go_num, C4⟩
                · rw [h1] at hix hst
                  have hst' : r0 = r1 := by rw [hst]; exact Nat.zero_add _
                  subst hst'
                  clear hst h1 hz hr0 hr1
                  go_wp2_with (go_at_call 21; (with_reducible refine (cw _ (Chk.lists (Hid.out C4))).mono ?_); rintro e w9 ⟨rfl, rfl⟩)
                  go_roundg (12 - (i + 1))
                  case measure => omega
                  case rel => exact ⟨i + 1, by omega, by omega, by go_num, by rw [HR1.out], C4⟩
              · obtain rfl : i = 12 := by omega
                have hr : rest12 (fun i => D.count i) (12 - 12) = 0 := rfl
                rw [hr]
                clear hr
                go_wp2_with fail
                go_roundg (len - (j + 1))
                case measure => omega
                case rel => exact ⟨j + 1, L', by omega, by omega, by go_num, C4.out.lists, C4.out.turn, C4.out.low⟩
    · obtain rfl : j = len := by omega
      go_wp2_with (go_at_call 9; (with_reducible refine (c9 _).mono ?_); rintro e w9 ⟨rfl, T9⟩; have T9' : Hid (Turn NoBlock w w9) := (Hid.out S2).2.1.trans T9 (fun _ h => .inl h); clear T9)
      go_ret
      exact ⟨rfl, T9'.out⟩

end Go.Proofs.Ytpfoleaampcibaa
