/-
  What goes through those who wait tells: those of an end and then those of the other one, in order. No conditions but that the channel is one that calls can make.
-/
import Derived.Test.YtcbphfpfdfgehaaCRead2
import Derived.Deep.RegionHeld3
namespace Go.Proofs.Ytcbphfpfdfgehaa
open Go.RowKit Go.Shelf

attribute [local go_sem] Oper.semAt_some

structure WSees (B1 B2 : Nat) (e : Nat) (c depth N : Nat) (S : Nat → Sd) (V : Nat → SV) (W : World) : Prop where
  b1 : Boxed W B1 3 (.int .i64 (e : Int))
  b2 : Boxed W B2 23 (.pointer (some ⟨c, 0, none⟩))
  mem : CMem W c depth N S V
theorem WSees.kept {B1 B2 e c depth N : Nat} {S : Nat → Sd} {V : Nat → SV} {W W' : World} {F : Nat → Prop} (h : WSees B1 B2 e c depth N S V W) (t : Turn F W W') (hF : ∀ k, k = B1 ∨ k = B2 ∨ CFoot c S V k → ¬ F k) : WSees B1 B2 e c depth N S V W' :=
  ⟨Boxed.kept' h.b1 t (hF _ (.inl rfl)), Boxed.kept' h.b2 t (hF _ (.inr (.inl rfl))), h.mem.kept t (fun k hk => hF k (.inr (.inr hk)))⟩
theorem WSees.lt {B1 B2 e c depth N : Nat} {S : Nat → Sd} {V : Nat → SV} {W : World} (h : WSees B1 B2 e c depth N S V W) {k : Nat} (hk : k = B1 ∨ k = B2 ∨ CFoot c S V k) : k < W.heap.size := by
  rcases hk with rfl | rfl | hk
  · exact h.b1.lt
  · exact h.b2.lt
  · exact h.mem.lt hk
theorem WSees.grown {B1 B2 e c depth N : Nat} {S : Nat → Sd} {V : Nat → SV} {W X Y : World} {row : Option Nat} (h : WSees B1 B2 e c depth N S V X) (h0 : WSees B1 B2 e c depth N S V W) (hg : X.grownBy Y row) (hr : ∀ r, row = some r → W.heap.size ≤ r) : WSees B1 B2 e c depth N S V Y :=
  h.kept (turn_of_grown hg) (fun k hk ek => by have := hr k ek; have := h0.lt hk; omega)

def waitL (S : Nat → Sd) (e : Nat) : List (Nat × Wt) := (S e).ws.map (fun t => (e, t)) ++ (S (oth e)).ws.map (fun t => (oth e, t))
def wEnc (x : Nat × Wt) : Array Value := #[.int .i64 (x.1 : Int), x.2.agg]
theorem waiting_any (w : World) (c : Nat) (e : Int) :
    Calls Try.prog 70 #[.pointer (some ⟨c, 0, none⟩), .int .i64 e] w fun x w' => x = .returned (.func (.func 82) #[] #[.pointer (some ⟨w.heap.size + 1, 0, none⟩), .pointer (some ⟨w.heap.size, 0, none⟩)]) ∧
      w' = (w.alloc (.cells #[.pointer (some ⟨c, 0, none⟩)] 23)).alloc (.cells #[.int .i64 e] 3) := by
  go_enter Try.func70, Try.ntmps70
  go_wp2
  go_ret
  exact ⟨rfl, rfl⟩
theorem map_take_snoc {e : Nat} {ws : List Wt} {j : Nat} {t : Wt} (h : ws[j]? = some t) : (ws.take (j + 1)).map (fun t => (e, t)) = (ws.take j).map (fun t => (e, t)) ++ [(e, t)] := by
  rw [List.take_add_one, h]
  simp

def wpre (S : Nat → Sd) (e : Nat) : Nat → List (Nat × Wt)
  | 0 => []
  | 1 => [] ++ (S e).ws.map (fun t => (e, t))
  | _ => waitL S e
set_option maxRecDepth 100000 in
set_option maxHeartbeats 4000000 in
theorem wait_gives0 (B1 B2 c depth N : Nat) (S : Nat → Sd) (V : Nat → SV) (hN : N ≤ 1000000000) :
    Gives 82 #[.pointer (some ⟨B1, 0, none⟩), .pointer (some ⟨B2, 0, none⟩)] wEnc (fun pre x => (x.1 < 2 ∧ x.2 ∈ (S x.1).ws) ∧ pre.length < (S 0).ws.length + (S 1).ws.length) (fun xs => xs = waitL S 0) (fun xs => xs <+: waitL S 0) (WSees B1 B2 0 c depth N S V) := by
  intro l J Jx W hJ hJx hJR hY h0
  have hQ := hJR [] W h0
  have a0 := hQ.b1.cell
  simp only [z0] at a0
  have al := hQ.b1.lt
  have HJ := Lib.hid hJ
  have HX := Lib.hid hJx
  have HR := Lib.hid hJR
  have HY := Lib.hid hY
  have HN := Lib.hid hN
  have CO := Lib.hid (fun w => show Calls Try.prog 52 #[.int .i64 0] w fun x w' => x = .returned (.int .i64 1) ∧ w = w' from other_any 0 (by omega) w)
  clear hQ hJ hJx hJR hY hN
  refine (callsIn_wide (n := 6)).1 ?_
  refine callsIn_of_wp (F := Fence.wide) Try.func82 rfl trivial ?_ rfl
  simp only [Try.ntmps82, List.size_toArray, List.length_cons, List.length_nil, Nat.reduceAdd, Nat.reduceSub, Array.replicate_succ, Array.replicate_zero, List.push_toArray, List.append_toArray, List.nil_append, List.cons_append]
  gi_wp2
  refine wpIn_wide.2 ?_
  go_region_held3 (fun w' => w'.cell? ⟨B1, 0, none⟩ = some (.int .i64 0)) (first | exact a0) (first | (go_at_call 52; (with_reducible refine (CO.out _).mono ?_); rintro x w2 ⟨rfl, rfl⟩))
  have hJd := own_turn HJ.out h0 (Turn.refl NoBlock W).drew
  have i0 : ∀ w, Sem.run Try.prog (Instr.index 147 (.agg #[.int .i64 0, .int .i64 1]) (.int .i64 0)) w = .ok (.int .i64 0) w := fun w => by kernel_rfl
  have i1 : ∀ w, Sem.run Try.prog (Instr.index 147 (.agg #[.int .i64 0, .int .i64 1]) (.int .i64 1)) w = .ok (.int .i64 1) w := fun w => by kernel_rfl
  gi_wp2
  gi_loopg [12] 2 (fun g s12 wr => ∃ i : Nat, i ≤ 2 ∧ g = 2 - i ∧ s12 = .int .i64 (i : Int) ∧ Hid (J (wpre S 0 i) wr ∧ W.heap.size ≤ wr.heap.size))
  case atStart => exact ⟨0, by omega, rfl, rfl, Lib.hid ⟨hJd, Nat.le_refl _⟩⟩
  case round =>
    obtain ⟨i, hi, hg, rfl, HI⟩ := hrel
    have h3 : i = 0 ∨ i = 1 ∨ i = 2 := by omega
    rcases h3 with rfl | rfl | rfl
    · skip
      have hQw := HR.out _ wr HI.out.1
      have q2 := hQw.b2.cell
      have ql := hQw.b2.lt
      have cl := hQw.mem.lt (.inl rfl)
      have hsa := hQw.mem.s 0 (by omega)
      have q3 : wr.cell? ⟨c, 4, none⟩ = some (V 0).w := hsa.c3
      obtain ⟨pw, cw, hvw⟩ := hsa.rowW.sl
      rw [hvw] at q3
      obtain ⟨n, hn⟩ : ∃ n, (S 0).ws.length = n := ⟨_, rfl⟩
      rw [hn] at q3
      have hnn : n ≤ 1000000000 := by have := (hQw.mem.len 0 (by omega)).2.2; have := HN.out; omega
      have HV := Lib.hid (And.intro hvw hn)
      clear hQw hsa hvw hn
      gi_wp2
      gi_loopg [23] n (fun g s23 wr => ∃ j : Nat, j ≤ n ∧ g = n - j ∧ s23 = .int .i64 (j : Int) ∧ Hid (J (([] : List (Nat × Wt)) ++ ((S 0).ws.take j).map (fun t => (0, t))) wr ∧ W.heap.size ≤ wr.heap.size))
      case atStart => exact ⟨0, by omega, by omega, rfl, Lib.hid ⟨by simpa [wpre] using HI.out.1, HI.out.2⟩⟩
      case round =>
        obtain ⟨j, hj, hg2, rfl, HI2⟩ := hrel
        by_cases hlt : j < n
        · obtain ⟨t, ht⟩ : ∃ t, (S 0).ws[j]? = some t := ⟨_, List.getElem?_eq_getElem (by rw [HV.out.2]; exact hlt)⟩
          have hQw := HR.out _ wr HI2.out.1
          have hrow := (hQw.mem.s 0 (by omega)).rowW
          rw [HV.out.1] at hrow
          obtain ⟨gv, ov, cv', hve, -⟩ := hrow.shape (by rw [HV.out.2]; omega)
          simp only [Value.slice.injEq] at hve
          obtain ⟨rfl, -, rfl⟩ := hve
          obtain ⟨d0, d1⟩ := wrow_two hrow ht
          have hta : Turn NoBlock wr (wr.alloc (.cells #[.int .i64 t.who, .int .i64 t.tx] 126)) := (Turn.refl _ wr).alloc _
          have hJa := own_turn HJ.out HI2.out.1 hta
          obtain ⟨fn, tmps, assign, body, hy, hR⟩ := HY.out _ (0, t) _ hJa ⟨⟨by simp, List.mem_of_getElem? ht⟩, by
            have := HV.out.2
            simp only [List.length_append, List.length_map, List.length_take, List.length_nil]
            omega⟩ (Nat.le_trans HI2.out.2 hta.size)
          unfold wEnc Wt.agg at hy
          simp only [z0] at hy
          have hjm : (j : Int) < n := by omega
          have hmm : (n : Int) ≤ 1000000000 := by omega
          have HTK := Lib.hid (show ([] : List (Nat × Wt)) ++ ((S 0).ws.take j).map (fun t => (0, t)) ++ [(0, t)] = ([] : List (Nat × Wt)) ++ ((S 0).ws.take (j + 1)).map (fun t => (0, t)) by rw [map_take_snoc ht, List.append_assoc])
          have HTL := Lib.hid (show ((S 0).ws.take (j + 1)).map (fun t => (0, t)) <+: (S 0).ws.map (fun t => (0, t)) from (List.take_prefix _ _).map _)
          have HTA := Lib.hid hta
          clear hQw hrow ht hJa hta
          gi_wp2
          refine (round_wide hR).mono ?_
          rintro ee Y ⟨⟨rfl, hJ3⟩ | ⟨rfl, hX3⟩, hk⟩
          · have HKA := Lib.hid hk
            have HJ3 := Lib.hid hJ3
            clear hk hJ3
            gi_wp2
            have hsz := HKA.out.size
            have hsz2 := HTA.out.size
            gi_roundg (n - (j + 1))
            case measure => omega
            case rel =>
              refine ⟨j + 1, by omega, rfl, by go_num, Lib.hid ⟨?_, by have := HI2.out.2; omega⟩⟩
              rw [← HTK.out]; exact HJ3.out
          · have HX3 := Lib.hid hX3
            clear hk hX3
            gi_wp2
            refine bodyPost_ret (results_none rfl _ _ _) rfl ?_
            refine ⟨⟨_, rfl⟩, .inr ⟨_, ?_, HX3.out⟩⟩
            rw [HTK.out]
            exact (HTL.out.trans (List.prefix_append _ _))
        · obtain rfl : j = n := by omega
          gi_wp2
          gi_roundg (2 - (0 + 1))
          case measure => omega
          case rel =>
            refine ⟨0 + 1, by omega, rfl, rfl, Lib.hid ⟨?_, HI2.out.2⟩⟩
            have h9 := HI2.out.1
            rw [List.take_of_length_le (by rw [HV.out.2]; exact Nat.le_refl _)] at h9
            exact h9
    · skip
      have hQw := HR.out _ wr HI.out.1
      have q2 := hQw.b2.cell
      have ql := hQw.b2.lt
      have cl := hQw.mem.lt (.inl rfl)
      have hsa := hQw.mem.s 1 (by omega)
      have q3 : wr.cell? ⟨c, 8, none⟩ = some (V 1).w := hsa.c3
      obtain ⟨pw, cw, hvw⟩ := hsa.rowW.sl
      rw [hvw] at q3
      obtain ⟨n, hn⟩ : ∃ n, (S 1).ws.length = n := ⟨_, rfl⟩
      rw [hn] at q3
      have hnn : n ≤ 1000000000 := by have := (hQw.mem.len 1 (by omega)).2.2; have := HN.out; omega
      have HV := Lib.hid (And.intro hvw hn)
      clear hQw hsa hvw hn
      gi_wp2
      gi_loopg [23] n (fun g s23 wr => ∃ j : Nat, j ≤ n ∧ g = n - j ∧ s23 = .int .i64 (j : Int) ∧ Hid (J (((S 0).ws.map (fun t => (0, t))) ++ ((S 1).ws.take j).map (fun t => (1, t))) wr ∧ W.heap.size ≤ wr.heap.size))
      case atStart => exact ⟨0, by omega, by omega, rfl, Lib.hid ⟨by simpa [wpre] using HI.out.1, HI.out.2⟩⟩
      case round =>
        obtain ⟨j, hj, hg2, rfl, HI2⟩ := hrel
        by_cases hlt : j < n
        · obtain ⟨t, ht⟩ : ∃ t, (S 1).ws[j]? = some t := ⟨_, List.getElem?_eq_getElem (by rw [HV.out.2]; exact hlt)⟩
          have hQw := HR.out _ wr HI2.out.1
          have hrow := (hQw.mem.s 1 (by omega)).rowW
          rw [HV.out.1] at hrow
          obtain ⟨gv, ov, cv', hve, -⟩ := hrow.shape (by rw [HV.out.2]; omega)
          simp only [Value.slice.injEq] at hve
          obtain ⟨rfl, -, rfl⟩ := hve
          obtain ⟨d0, d1⟩ := wrow_two hrow ht
          have hta : Turn NoBlock wr (wr.alloc (.cells #[.int .i64 t.who, .int .i64 t.tx] 126)) := (Turn.refl _ wr).alloc _
          have hJa := own_turn HJ.out HI2.out.1 hta
          obtain ⟨fn, tmps, assign, body, hy, hR⟩ := HY.out _ (1, t) _ hJa ⟨⟨by simp, List.mem_of_getElem? ht⟩, by
            have := HV.out.2
            simp only [List.length_append, List.length_map, List.length_take]
            omega⟩ (Nat.le_trans HI2.out.2 hta.size)
          unfold wEnc Wt.agg at hy
          simp only [z1] at hy
          have hjm : (j : Int) < n := by omega
          have hmm : (n : Int) ≤ 1000000000 := by omega
          have HTK := Lib.hid (show ((S 0).ws.map (fun t => (0, t))) ++ ((S 1).ws.take j).map (fun t => (1, t)) ++ [(1, t)] = ((S 0).ws.map (fun t => (0, t))) ++ ((S 1).ws.take (j + 1)).map (fun t => (1, t)) by rw [map_take_snoc ht, List.append_assoc])
          have HTL := Lib.hid (show ((S 1).ws.take (j + 1)).map (fun t => (1, t)) <+: (S 1).ws.map (fun t => (1, t)) from (List.take_prefix _ _).map _)
          have HTA := Lib.hid hta
          clear hQw hrow ht hJa hta
          gi_wp2
          refine (round_wide hR).mono ?_
          rintro ee Y ⟨⟨rfl, hJ3⟩ | ⟨rfl, hX3⟩, hk⟩
          · have HKA := Lib.hid hk
            have HJ3 := Lib.hid hJ3
            clear hk hJ3
            gi_wp2
            have hsz := HKA.out.size
            have hsz2 := HTA.out.size
            gi_roundg (n - (j + 1))
            case measure => omega
            case rel =>
              refine ⟨j + 1, by omega, rfl, by go_num, Lib.hid ⟨?_, by have := HI2.out.2; omega⟩⟩
              rw [← HTK.out]; exact HJ3.out
          · have HX3 := Lib.hid hX3
            clear hk hX3
            gi_wp2
            refine bodyPost_ret (results_none rfl _ _ _) rfl ?_
            refine ⟨⟨_, rfl⟩, .inr ⟨_, ?_, HX3.out⟩⟩
            rw [HTK.out]
            exact (List.prefix_append_right_inj _).2 HTL.out
        · obtain rfl : j = n := by omega
          gi_wp2
          gi_roundg (2 - (1 + 1))
          case measure => omega
          case rel =>
            refine ⟨1 + 1, by omega, rfl, rfl, Lib.hid ⟨?_, HI2.out.2⟩⟩
            have h9 := HI2.out.1
            rw [List.take_of_length_le (by rw [HV.out.2]; exact Nat.le_refl _)] at h9
            exact h9
    · gi_wp2
      go_end0
      exact ⟨⟨_, rfl⟩, .inl ⟨_, rfl, HI.out.1⟩⟩
set_option maxRecDepth 100000 in
set_option maxHeartbeats 4000000 in
theorem wait_gives1 (B1 B2 c depth N : Nat) (S : Nat → Sd) (V : Nat → SV) (hN : N ≤ 1000000000) :
    Gives 82 #[.pointer (some ⟨B1, 0, none⟩), .pointer (some ⟨B2, 0, none⟩)] wEnc (fun pre x => (x.1 < 2 ∧ x.2 ∈ (S x.1).ws) ∧ pre.length < (S 0).ws.length + (S 1).ws.length) (fun xs => xs = waitL S 1) (fun xs => xs <+: waitL S 1) (WSees B1 B2 1 c depth N S V) := by
  intro l J Jx W hJ hJx hJR hY h0
  have hQ := hJR [] W h0
  have a0 := hQ.b1.cell
  simp only [z1] at a0
  have al := hQ.b1.lt
  have HJ := Lib.hid hJ
  have HX := Lib.hid hJx
  have HR := Lib.hid hJR
  have HY := Lib.hid hY
  have HN := Lib.hid hN
  have CO := Lib.hid (fun w => show Calls Try.prog 52 #[.int .i64 1] w fun x w' => x = .returned (.int .i64 0) ∧ w = w' from other_any 1 (by omega) w)
  clear hQ hJ hJx hJR hY hN
  refine (callsIn_wide (n := 6)).1 ?_
  refine callsIn_of_wp (F := Fence.wide) Try.func82 rfl trivial ?_ rfl
  simp only [Try.ntmps82, List.size_toArray, List.length_cons, List.length_nil, Nat.reduceAdd, Nat.reduceSub, Array.replicate_succ, Array.replicate_zero, List.push_toArray, List.append_toArray, List.nil_append, List.cons_append]
  gi_wp2
  refine wpIn_wide.2 ?_
  go_region_held3 (fun w' => w'.cell? ⟨B1, 0, none⟩ = some (.int .i64 1)) (first | exact a0) (first | (go_at_call 52; (with_reducible refine (CO.out _).mono ?_); rintro x w2 ⟨rfl, rfl⟩))
  have hJd := own_turn HJ.out h0 (Turn.refl NoBlock W).drew
  have i0 : ∀ w, Sem.run Try.prog (Instr.index 147 (.agg #[.int .i64 1, .int .i64 0]) (.int .i64 0)) w = .ok (.int .i64 1) w := fun w => by kernel_rfl
  have i1 : ∀ w, Sem.run Try.prog (Instr.index 147 (.agg #[.int .i64 1, .int .i64 0]) (.int .i64 1)) w = .ok (.int .i64 0) w := fun w => by kernel_rfl
  gi_wp2
  gi_loopg [12] 2 (fun g s12 wr => ∃ i : Nat, i ≤ 2 ∧ g = 2 - i ∧ s12 = .int .i64 (i : Int) ∧ Hid (J (wpre S 1 i) wr ∧ W.heap.size ≤ wr.heap.size))
  case atStart => exact ⟨0, by omega, rfl, rfl, Lib.hid ⟨hJd, Nat.le_refl _⟩⟩
  case round =>
    obtain ⟨i, hi, hg, rfl, HI⟩ := hrel
    have h3 : i = 0 ∨ i = 1 ∨ i = 2 := by omega
    rcases h3 with rfl | rfl | rfl
    · skip
      have hQw := HR.out _ wr HI.out.1
      have q2 := hQw.b2.cell
      have ql := hQw.b2.lt
      have cl := hQw.mem.lt (.inl rfl)
      have hsa := hQw.mem.s 1 (by omega)
      have q3 : wr.cell? ⟨c, 8, none⟩ = some (V 1).w := hsa.c3
      obtain ⟨pw, cw, hvw⟩ := hsa.rowW.sl
      rw [hvw] at q3
      obtain ⟨n, hn⟩ : ∃ n, (S 1).ws.length = n := ⟨_, rfl⟩
      rw [hn] at q3
      have hnn : n ≤ 1000000000 := by have := (hQw.mem.len 1 (by omega)).2.2; have := HN.out; omega
      have HV := Lib.hid (And.intro hvw hn)
      clear hQw hsa hvw hn
      gi_wp2
      gi_loopg [23] n (fun g s23 wr => ∃ j : Nat, j ≤ n ∧ g = n - j ∧ s23 = .int .i64 (j : Int) ∧ Hid (J (([] : List (Nat × Wt)) ++ ((S 1).ws.take j).map (fun t => (1, t))) wr ∧ W.heap.size ≤ wr.heap.size))
      case atStart => exact ⟨0, by omega, by omega, rfl, Lib.hid ⟨by simpa [wpre] using HI.out.1, HI.out.2⟩⟩
      case round =>
        obtain ⟨j, hj, hg2, rfl, HI2⟩ := hrel
        by_cases hlt : j < n
        · obtain ⟨t, ht⟩ : ∃ t, (S 1).ws[j]? = some t := ⟨_, List.getElem?_eq_getElem (by rw [HV.out.2]; exact hlt)⟩
          have hQw := HR.out _ wr HI2.out.1
          have hrow := (hQw.mem.s 1 (by omega)).rowW
          rw [HV.out.1] at hrow
          obtain ⟨gv, ov, cv', hve, -⟩ := hrow.shape (by rw [HV.out.2]; omega)
          simp only [Value.slice.injEq] at hve
          obtain ⟨rfl, -, rfl⟩ := hve
          obtain ⟨d0, d1⟩ := wrow_two hrow ht
          have hta : Turn NoBlock wr (wr.alloc (.cells #[.int .i64 t.who, .int .i64 t.tx] 126)) := (Turn.refl _ wr).alloc _
          have hJa := own_turn HJ.out HI2.out.1 hta
          obtain ⟨fn, tmps, assign, body, hy, hR⟩ := HY.out _ (1, t) _ hJa ⟨⟨by simp, List.mem_of_getElem? ht⟩, by
            have := HV.out.2
            simp only [List.length_append, List.length_map, List.length_take, List.length_nil]
            omega⟩ (Nat.le_trans HI2.out.2 hta.size)
          unfold wEnc Wt.agg at hy
          simp only [z1] at hy
          have hjm : (j : Int) < n := by omega
          have hmm : (n : Int) ≤ 1000000000 := by omega
          have HTK := Lib.hid (show ([] : List (Nat × Wt)) ++ ((S 1).ws.take j).map (fun t => (1, t)) ++ [(1, t)] = ([] : List (Nat × Wt)) ++ ((S 1).ws.take (j + 1)).map (fun t => (1, t)) by rw [map_take_snoc ht, List.append_assoc])
          have HTL := Lib.hid (show ((S 1).ws.take (j + 1)).map (fun t => (1, t)) <+: (S 1).ws.map (fun t => (1, t)) from (List.take_prefix _ _).map _)
          have HTA := Lib.hid hta
          clear hQw hrow ht hJa hta
          gi_wp2
          refine (round_wide hR).mono ?_
          rintro ee Y ⟨⟨rfl, hJ3⟩ | ⟨rfl, hX3⟩, hk⟩
          · have HKA := Lib.hid hk
            have HJ3 := Lib.hid hJ3
            clear hk hJ3
            gi_wp2
            have hsz := HKA.out.size
            have hsz2 := HTA.out.size
            gi_roundg (n - (j + 1))
            case measure => omega
            case rel =>
              refine ⟨j + 1, by omega, rfl, by go_num, Lib.hid ⟨?_, by have := HI2.out.2; omega⟩⟩
              rw [← HTK.out]; exact HJ3.out
          · have HX3 := Lib.hid hX3
            clear hk hX3
            gi_wp2
            refine bodyPost_ret (results_none rfl _ _ _) rfl ?_
            refine ⟨⟨_, rfl⟩, .inr ⟨_, ?_, HX3.out⟩⟩
            rw [HTK.out]
            exact (HTL.out.trans (List.prefix_append _ _))
        · obtain rfl : j = n := by omega
          gi_wp2
          gi_roundg (2 - (0 + 1))
          case measure => omega
          case rel =>
            refine ⟨0 + 1, by omega, rfl, rfl, Lib.hid ⟨?_, HI2.out.2⟩⟩
            have h9 := HI2.out.1
            rw [List.take_of_length_le (by rw [HV.out.2]; exact Nat.le_refl _)] at h9
            exact h9
    · skip
      have hQw := HR.out _ wr HI.out.1
      have q2 := hQw.b2.cell
      have ql := hQw.b2.lt
      have cl := hQw.mem.lt (.inl rfl)
      have hsa := hQw.mem.s 0 (by omega)
      have q3 : wr.cell? ⟨c, 4, none⟩ = some (V 0).w := hsa.c3
      obtain ⟨pw, cw, hvw⟩ := hsa.rowW.sl
      rw [hvw] at q3
      obtain ⟨n, hn⟩ : ∃ n, (S 0).ws.length = n := ⟨_, rfl⟩
      rw [hn] at q3
      have hnn : n ≤ 1000000000 := by have := (hQw.mem.len 0 (by omega)).2.2; have := HN.out; omega
      have HV := Lib.hid (And.intro hvw hn)
      clear hQw hsa hvw hn
      gi_wp2
      gi_loopg [23] n (fun g s23 wr => ∃ j : Nat, j ≤ n ∧ g = n - j ∧ s23 = .int .i64 (j : Int) ∧ Hid (J (((S 1).ws.map (fun t => (1, t))) ++ ((S 0).ws.take j).map (fun t => (0, t))) wr ∧ W.heap.size ≤ wr.heap.size))
      case atStart => exact ⟨0, by omega, by omega, rfl, Lib.hid ⟨by simpa [wpre] using HI.out.1, HI.out.2⟩⟩
      case round =>
        obtain ⟨j, hj, hg2, rfl, HI2⟩ := hrel
        by_cases hlt : j < n
        · obtain ⟨t, ht⟩ : ∃ t, (S 0).ws[j]? = some t := ⟨_, List.getElem?_eq_getElem (by rw [HV.out.2]; exact hlt)⟩
          have hQw := HR.out _ wr HI2.out.1
          have hrow := (hQw.mem.s 0 (by omega)).rowW
          rw [HV.out.1] at hrow
          obtain ⟨gv, ov, cv', hve, -⟩ := hrow.shape (by rw [HV.out.2]; omega)
          simp only [Value.slice.injEq] at hve
          obtain ⟨rfl, -, rfl⟩ := hve
          obtain ⟨d0, d1⟩ := wrow_two hrow ht
          have hta : Turn NoBlock wr (wr.alloc (.cells #[.int .i64 t.who, .int .i64 t.tx] 126)) := (Turn.refl _ wr).alloc _
          have hJa := own_turn HJ.out HI2.out.1 hta
          obtain ⟨fn, tmps, assign, body, hy, hR⟩ := HY.out _ (0, t) _ hJa ⟨⟨by simp, List.mem_of_getElem? ht⟩, by
            have := HV.out.2
            simp only [List.length_append, List.length_map, List.length_take]
            omega⟩ (Nat.le_trans HI2.out.2 hta.size)
          unfold wEnc Wt.agg at hy
          simp only [z0] at hy
          have hjm : (j : Int) < n := by omega
          have hmm : (n : Int) ≤ 1000000000 := by omega
          have HTK := Lib.hid (show ((S 1).ws.map (fun t => (1, t))) ++ ((S 0).ws.take j).map (fun t => (0, t)) ++ [(0, t)] = ((S 1).ws.map (fun t => (1, t))) ++ ((S 0).ws.take (j + 1)).map (fun t => (0, t)) by rw [map_take_snoc ht, List.append_assoc])
          have HTL := Lib.hid (show ((S 0).ws.take (j + 1)).map (fun t => (0, t)) <+: (S 0).ws.map (fun t => (0, t)) from (List.take_prefix _ _).map _)
          have HTA := Lib.hid hta
          clear hQw hrow ht hJa hta
          gi_wp2
          refine (round_wide hR).mono ?_
          rintro ee Y ⟨⟨rfl, hJ3⟩ | ⟨rfl, hX3⟩, hk⟩
          · have HKA := Lib.hid hk
            have HJ3 := Lib.hid hJ3
            clear hk hJ3
            gi_wp2
            have hsz := HKA.out.size
            have hsz2 := HTA.out.size
            gi_roundg (n - (j + 1))
            case measure => omega
            case rel =>
              refine ⟨j + 1, by omega, rfl, by go_num, Lib.hid ⟨?_, by have := HI2.out.2; omega⟩⟩
              rw [← HTK.out]; exact HJ3.out
          · have HX3 := Lib.hid hX3
            clear hk hX3
            gi_wp2
            refine bodyPost_ret (results_none rfl _ _ _) rfl ?_
            refine ⟨⟨_, rfl⟩, .inr ⟨_, ?_, HX3.out⟩⟩
            rw [HTK.out]
            exact (List.prefix_append_right_inj _).2 HTL.out
        · obtain rfl : j = n := by omega
          gi_wp2
          gi_roundg (2 - (1 + 1))
          case measure => omega
          case rel =>
            refine ⟨1 + 1, by omega, rfl, rfl, Lib.hid ⟨?_, HI2.out.2⟩⟩
            have h9 := HI2.out.1
            rw [List.take_of_length_le (by rw [HV.out.2]; exact Nat.le_refl _)] at h9
            exact h9
    · gi_wp2
      go_end0
      exact ⟨⟨_, rfl⟩, .inl ⟨_, rfl, HI.out.1⟩⟩
end Go.Proofs.Ytcbphfpfdfgehaa
