/-
  What Front, Remove, Pop of the reference's lists make of the queues. No conditions but that the lists are such as calls can make.
-/
import Derived.Test.YtpfoleaampcibaaRefCalls
import Derived.Lib.Hide
namespace Go.Proofs.Ytpfoleaampcibaa
open Go.ChangeShapes Go.WideShapes Go.ChangeAt Go.RowKit

set_option maxHeartbeats 4000000 in
theorem rfront_ok (W : World) (x qb n k : Nat) (vs : Nat → Value) (L : Nat → List Nat) (q i : Nat) (h : RefMem W x qb n k vs L) (ap : Apart n k L) (hk : k ≤ 65536) (hn : n ≤ 65536) (hq : q < k) (hi : i < n) (hz : whereOf k L i = -1) :
    Calls Try.prog 13 #[.pointer (some ⟨x, 0, none⟩), .int .i64 q, .int .i64 i] W fun e w' => e = .returned (.int .i64 0) ∧ ∃ R', RefAt w' x R' n k (upd L q (i :: L q)) ∧ Turn (RFoot x qb k vs) W w' ∧ ∀ j, R' j → RFoot x qb k vs j ∨ W.heap.size ≤ j := by
  have cc := rcheck_any W x qb n k vs L q i h ap hk hn
  rw [putS_nat hq hi hz] at cc
  have c0 := h.c0
  obtain ⟨pr, cr, -, c1, hI⟩ := ref_row h hq
  have hlen : (L q).length ≤ 65536 := by
    have := nodup_len n (L q) (ap.nodup q hq) (fun y hy => ap.lt q y hq hy)
    omega
  obtain ⟨l, hl⟩ : ∃ l, L q = l := ⟨_, rfl⟩
  obtain ⟨m, hm⟩ : ∃ m, l.length = m := ⟨_, rfl⟩
  rw [hl] at hI c1 hlen ⊢
  rw [hm] at hI c1 hlen
  have HR : Hid (RefMem W x qb n k vs L) := h
  have HS : Hid (∀ W', Turn NoBlock W W' → Src W' (.slice pr m cr) (castL l)) := fun W' hT => Src.of_ints (hI.past hT)
  have HLn : Hid (([(i : Int)] : List Int).length + (castL l).length ≤ 1000000) := by
    show 1 + (castL l).length ≤ 1000000
    rw [castL_len, hm]; omega
  have HF : Hid (∀ (w : World) (v : Value), Turn NoBlock W w → Ints v ([(i : Int)] ++ castL l) w → (∀ j, Blk v j → W.heap.size ≤ j) → ∃ R', RefAt (w.setCell ⟨qb, q, none⟩ v) x R' n k (upd L q (i :: l)) ∧ Turn (RFoot x qb k vs) W (w.setCell ⟨qb, q, none⟩ v) ∧ ∀ j, R' j → RFoot x qb k vs j ∨ W.heap.size ≤ j) := fun w v h1 h2 h3 => by
    exact ⟨_, ref_done (l := i :: l) HR.out hq h1 h2 h3⟩
  have HC : Hid (∀ w, Turn NoBlock W w → w.cell? ⟨x, 0, none⟩ = some (.slice (some ⟨qb, 0, none⟩) k k) ∧ w.cell? ⟨qb, q, none⟩ = some (.slice pr m cr) ∧ w.frozen? ⟨qb, q, none⟩ = false) := fun w hT => ⟨hT.cell c0 (fun h => h), hT.cell c1 (fun h => h), (HR.out.past hT).free q⟩
  have hx := World.block_lt_of_cell? W _ c0
  have hqb := World.block_lt_of_cell? W _ c1
  have hqx : qb ≠ x := fun e => h.xq e.symm
  have hqi : (q : Int) < k := by omega
  clear h ap hI hz hl hm hi
  go_enter Try.func13, Try.ntmps13
  go_wp2_with (go_at_call 30; (with_reducible refine cc.mono ?_); rintro e w' ⟨rfl, rfl⟩)
  have d1 : (W.alloc (.cells #[.int .i64 (i : Int)] 3)).cell? ⟨qb, q, none⟩ = some (.slice pr m cr) := ((Hid.out HC) _ ((Turn.refl _ _).alloc _)).2.1
  have d0 : (W.alloc (.cells #[.int .i64 (i : Int)] 3)).cell? ⟨x, 0, none⟩ = some (.slice (some ⟨qb, 0, none⟩) k k) := ((Hid.out HC) _ ((Turn.refl _ _).alloc _)).1
  have dT : Hid (Turn NoBlock W (W.alloc (.cells #[.int .i64 (i : Int)] 3)) ∧ Ints (.slice (some ⟨W.heap.size, 0, none⟩) 1 1) [(i : Int)] (W.alloc (.cells #[.int .i64 (i : Int)] 3))) := ⟨(Turn.refl _ _).alloc _, ints_new1 W i⟩
  generalize W.alloc (.cells #[.int .i64 (i : Int)] 3) = W1 at d0 d1 dT ⊢
  go_region_law (first
    | (refine step_join _ rfl (.tmp 22) (.tmp 29) rfl (.slice (some ⟨W.heap.size, 0, none⟩) 1 1) (.slice pr m cr) [(i : Int)] (castL l) rfl rfl (Ints.past (Hid.out dT).2 ((Turn.refl _ _).drew)) ((Hid.out HS) _ ((Hid.out dT).1.drew)) (Hid.out HLn) ?_; intro v1 w2 J1; obtain ⟨pv, n2, cv, rfl, K2'⟩ := new_join' ((Hid.out dT).1.drew) J1; have K2 : Hid (Ints (.slice pv n2 cv) ([(i : Int)] ++ castL l) w2 ∧ Turn NoBlock W w2 ∧ ∀ j, Blk (.slice pv n2 cv) j → W.heap.size ≤ j) := K2'; clear K2' J1; obtain ⟨e0, e1, e2⟩ := (Hid.out HC) w2 (Hid.out K2).2.1))
  all_goals
    go_wp2
    go_ret
    exact ⟨rfl, HF.out _ _ K2.out.2.1 K2.out.1 K2.out.2.2⟩

/-- An item is taken out of its queue. -/
theorem erase_filter {l : List Nat} (hn : l.Nodup) (i : Nat) : l.erase i = l.filter (fun y => y != i) := by
  rw [List.Nodup.erase_eq_filter hn]

set_option maxHeartbeats 4000000 in
theorem rremove_ok (W : World) (x qb n k : Nat) (vs : Nat → Value) (L : Nat → List Nat) (q i : Nat) (h : RefMem W x qb n k vs L) (ap : Apart n k L) (hk : k ≤ 65536) (hn : n ≤ 65536) (hq : q < k) (hi : i < n) (hm : i ∈ L q) :
    Calls Try.prog 17 #[.pointer (some ⟨x, 0, none⟩), .int .i64 i] W fun e w' => e = .returned (.int .i64 0) ∧ ∃ R', RefAt w' x R' n k (upd L q ((L q).erase i)) ∧ Turn (RFoot x qb k vs) W w' ∧ ∀ j, R' j → RFoot x qb k vs j ∨ W.heap.size ≤ j := by
  have cw := rwhere_any W x qb n k vs L i h ap hk hn
  have hz : whereOf k L i = (q : Int) := where_is hq hm (fun q' h1 h2 => ap.once q' q i h1 hq h2 hm)
  rw [hz] at cw
  have c0 := h.c0
  have c9 := h.c1
  obtain ⟨pr, cr, -, c1, hI⟩ := ref_row h hq
  have hnd := ap.nodup q hq
  have hlen : (L q).length ≤ 65536 := by
    have := nodup_len n (L q) hnd (fun y hy => ap.lt q y hq hy)
    omega
  rw [erase_filter hnd]
  obtain ⟨l, hl⟩ : ∃ l, L q = l := ⟨_, rfl⟩
  obtain ⟨m, hlm⟩ : ∃ m, l.length = m := ⟨_, rfl⟩
  rw [hl] at hI c1 hlen ⊢
  rw [hlm] at hI c1 hlen
  have HR : Hid (RefMem W x qb n k vs L) := h
  have HI : Hid (Ints (.slice pr m cr) (castL l) W) := hI
  have HLm : Hid (l.length = m) := hlm
  have HC : Hid (∀ w, Turn NoBlock W w → w.cell? ⟨x, 0, none⟩ = some (.slice (some ⟨qb, 0, none⟩) k k) ∧ w.cell? ⟨qb, q, none⟩ = some (.slice pr m cr) ∧ w.frozen? ⟨qb, q, none⟩ = false) := fun w hT => ⟨hT.cell c0 (fun h => h), hT.cell c1 (fun h => h), (HR.out.past hT).free q⟩
  have hqi : (q : Int) < k := by omega
  have hii : (i : Int) < n := by omega
  have HQ : Hid (q < k) := hq
  clear h ap hI hz hl hlm hm hnd
  go_enter Try.func17, Try.ntmps17
  go_wp2_with (go_at_call 20; (with_reducible refine cw.mono ?_); rintro e w' ⟨rfl, rfl⟩)
  go_loopg [6, 7] m (fun g v c wr => ∃ (j : Nat), j ≤ m ∧ g = m - j ∧ c = .int .i64 j ∧ Hid (Ints v (castL ((l.take j).filter fun y => y != i)) wr ∧ Turn NoBlock W wr ∧ ∀ b, Blk v b → W.heap.size ≤ b))
  case atStart => exact ⟨0, by omega, by omega, rfl, ints_nil _, Turn.refl _ _, fun b hb => (blk_nil b hb).elim⟩
  case round =>
    obtain ⟨j, hj, hgk, rfl, HS⟩ := hrel
    obtain ⟨a0, a1, a2⟩ := HC.out wr HS.out.2.1
    by_cases hlt : j < m
    · have hjl : j < l.length := by rw [HLm.out]; exact hlt
      have hIw : Ints (.slice pr m cr) (castL l) wr := HI.out.past HS.out.2.1
      obtain ⟨g, cc, he, hcc, hcc'⟩ := ints_shape hIw (by rw [castL_len]; omega)
      simp only [Value.slice.injEq] at he
      obtain ⟨rfl, hee, rfl⟩ := he
      clear hee
      rw [castL_len, HLm.out] at hcc
      have k1 := ints_cell hIw j (by rw [castL_len]; exact hjl)
      rw [castL_getD] at k1
      obtain ⟨y, hy⟩ : ∃ y, l.getD j 0 = y := ⟨_, rfl⟩
      rw [hy] at k1
      have htk : l.take (j + 1) = l.take j ++ [y] := by
        rw [List.take_add_one, List.getElem?_eq_getElem hjl, ← hy]
        simp [List.getD, List.getElem?_eq_getElem hjl]
      by_cases hyi : y = i
      · have hfe : (l.take (j + 1)).filter (fun y => y != i) = (l.take j).filter (fun y => y != i) := by
          rw [htk, List.filter_append]; simp [hyi]
        have HFe : Hid ((l.take (j + 1)).filter (fun y => y != i) = (l.take j).filter (fun y => y != i)) := hfe
        subst hyi
        clear htk hfe hy hjl hIw
        go_wp2
        go_roundg (m - (j + 1))
        case measure => omega
        case rel => exact ⟨j + 1, by omega, by omega, by go_num, by rw [HFe.out]; exact HS⟩
      · have hfe : castL ((l.take (j + 1)).filter (fun y => y != i)) = castL ((l.take j).filter (fun y => y != i)) ++ [(y : Int)] := by
          rw [htk, List.filter_append, castL_append]
          congr 1
          simp [hyi, castL]
        have HFe : Hid (castL ((l.take (j + 1)).filter (fun y => y != i)) = castL ((l.take j).filter (fun y => y != i)) ++ [(y : Int)]) := hfe
        have hb : ((y : Int) != i) = true := by simp; omega
        have HLn : Hid ((castL ((l.take j).filter fun y => y != i)).length + ([(y : Int)] : List Int).length ≤ 1000000) := by
          show (castL ((l.take j).filter fun y => y != i)).length + 1 ≤ 1000000
          have := List.length_filter_le (fun y => y != i) (l.take j)
          rw [List.length_take] at this
          rw [castL_len]; omega
        have b4 := World.block_lt_of_cell? wr _ a0
        clear htk hfe hy hyi hjl hIw
        go_wp2_with (at_builtin; refine wpList_join _ rfl (.tmp 47) (.tmp 58) rfl u6 (.slice (some ⟨wr.heap.size, 0, none⟩) 1 1) (castL ((l.take j).filter fun y => y != i)) [(y : Int)] rfl rfl (Ints.past (Hid.out HS).1 ((Turn.refl _ _).alloc _)) (Src.of_ints (ints_new1 wr y)) (Hid.out HLn) ?_; intro v2 w2 J2; have HS2 : Hid (Ints v2 (castL ((l.take (j + 1)).filter fun y => y != i)) w2 ∧ Turn NoBlock W w2 ∧ ∀ b, Blk v2 b → W.heap.size ≤ b) := (by rw [Hid.out HFe]; exact next_join (Hid.out HS).2 ((Turn.refl _ _).alloc _) J2); clear J2)
        go_roundg (m - (j + 1))
        case measure => omega
        case rel => exact ⟨j + 1, by omega, by omega, by go_num, HS2⟩
    · obtain rfl : j = m := by omega
      have hI6 := HS.out.1
      have e : l.take j = l := by rw [← HLm.out]; exact List.take_length
      rw [e] at hI6
      obtain ⟨pv, cv, hv⟩ := ints_slice hI6
      obtain ⟨n2, hn2⟩ : ∃ n2, (castL (l.filter fun y => y != i)).length = n2 := ⟨_, rfl⟩
      rw [hn2] at hv
      have hB6 := HS.out.2.2
      subst hv
      have FIN : Hid (∃ R', RefAt (wr.setCell ⟨qb, q, none⟩ (.slice pv n2 cv)) x R' n k (upd L q (l.filter fun y => y != i)) ∧ Turn (RFoot x qb k vs) W (wr.setCell ⟨qb, q, none⟩ (.slice pv n2 cv)) ∧ ∀ j, R' j → RFoot x qb k vs j ∨ W.heap.size ≤ j) := ⟨_, ref_done HR.out HQ.out HS.out.2.1 hI6 hB6⟩
      clear hI6 e hn2 hB6 HS
      go_wp2
      go_ret
      exact ⟨rfl, FIN.out⟩

end Go.Proofs.Ytpfoleaampcibaa
