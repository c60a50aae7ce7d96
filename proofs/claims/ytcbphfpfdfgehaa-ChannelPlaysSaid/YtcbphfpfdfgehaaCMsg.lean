/-
  The laws' own helper: a message out of the reference's, in memory of its own. No conditions but that it can be read.
-/
import Derived.Test.YtcbphfpfdfgehaaCAwake
import Derived.OwnWalk
namespace Go.Proofs.Ytcbphfpfdfgehaa
open Go.ChangeShapes Go.WideShapes Go.ChangeAt Go.RowKit

/-- As 'Rd', but of an empty slice nothing is asked. -/
structure Rz (w : World) (size : Nat) (v : Value) (n : Nat) (xs : List Value) : Prop where
  sl : ∃ p c, v = .slice p n c
  nil : n = 0 → xs = []
  rd : 0 < n → Rd w size v n xs
def RzB (w : World) (v : Value) (d : List UInt8) : Prop := Rz w 1 v d.length (bcells d)
def RzI (w : World) (v : Value) (h : List Int) : Prop := Rz w 1 v h.length (icells h)
theorem Rz.past {w w' : World} {size : Nat} {v : Value} {n : Nat} {xs : List Value} (h : Rz w size v n xs) (t : Turn NoBlock w w') : Rz w' size v n xs := ⟨h.sl, h.nil, fun h0 => (h.rd h0).past t⟩
theorem RzB.past {w w' : World} {v : Value} {d : List UInt8} (h : RzB w v d) (t : Turn NoBlock w w') : RzB w' v d := Rz.past h t
theorem RzI.past {w w' : World} {v : Value} {d : List Int} (h : RzI w v d) (t : Turn NoBlock w w') : RzI w' v d := Rz.past h t
theorem RdB.rz {w : World} {v : Value} {d : List UInt8} (h : RdB w v d) : RzB w v d := ⟨h.sl, fun h0 => by rw [List.eq_nil_of_length_eq_zero h0]; rfl, fun _ => h⟩
theorem RdI.rz {w : World} {v : Value} {d : List Int} (h : RdI w v d) : RzI w v d := ⟨h.sl, fun h0 => by rw [List.eq_nil_of_length_eq_zero h0]; rfl, fun _ => h⟩
theorem Rz.src {w : World} {size : Nat} {v : Value} {n : Nat} {xs : List Value} (h : Rz w size v n xs) (tx e : TypeId) (hk : Try.prog.underlying tx = some (.slice e)) (h1 : ∀ u ∈ xs, u.oneCell' = true) : Src Try.prog size tx v n xs w := by
  by_cases h0 : 0 < n
  · exact (h.rd h0).src tx e hk h1
  · obtain rfl : n = 0 := by omega
    obtain ⟨p, c, rfl⟩ := h.sl
    rw [h.nil rfl]
    cases p with
    | none => exact Src.ofNil w hk c
    | some a => exact Src.ofSlice w hk a 0 c [] (by simp) (fun j u hu => by simp at hu) (fun u hu => by simp at hu)
set_option maxRecDepth 20000 in
theorem copy11 (w : World) (v : Value) (bs : List UInt8) (hr : RzB w v bs) (hn : bs.length ≤ 1000000000) :
    Calls Try.prog 68 #[v] w fun e w' => ∃ v', e = .returned v' ∧ Byts v' bs w' ∧ (∀ k, Blk v' k → w.heap.size ≤ k) ∧ Turn NoBlock w w' := by
  obtain ⟨i5, hi5, hz5, hs5, hb5⟩ := info_parts infoB
  obtain ⟨p, pc, rfl⟩ := hr.sl
  have HS := Lib.hid (Rz.src hr 35 5 bytesT (bcells_one _))
  have q1 : 0 + bs.length ≤ maxLen := by unfold maxLen; omega
  have q2 : (0 + bs.length) * 1 ≤ 140737488355328 := by omega
  have HQ := Lib.hid (And.intro q1 q2)
  clear hr hn q1 q2
  go_enter Try.func68, Try.ntmps68
  go_wp2_with (at_builtin; refine wpList_append_w rfl (.tmp 4) (.tmp 5) 35 35 rfl (wrow_nil _ 5 1) i5 _ 1 bytesT hi5 hz5 hs5 hb5 rfl rfl rfl HS.out HQ.out.1 HQ.out.2 ?_; intro v7 W7 r7 t7 k7; rw [Nat.zero_add, List.nil_append] at r7; obtain ⟨p7, c7, rfl⟩ := r7.sl; have R7 := Lib.hid (And.intro r7 (And.intro t7 k7)); clear r7 t7 k7)
  go_ret
  refine ⟨_, rfl, R7.out.1, fun k hk => ?_, nil_turn R7.out.2.1⟩
  rcases R7.out.2.2 k hk with h | h
  · exact (blk_nil k h).elim
  · omega
theorem wrow_empty (w : World) (e : TypeId) : WRow (w.alloc (.cells #[] e)) e 1 (.slice (some ⟨w.heap.size, 0, none⟩) 0 0) 0 [] :=
  ⟨rfl, .inr ⟨_, 0, 0, rfl, Nat.le_refl _, by unfold maxLen; omega, ⟨_, heap_alloc_new w _⟩, (fun j hj => by omega), fun j hj => by omega⟩⟩
theorem step_append_r {w : World} {e : TypeId} {size : Nat} {v : Value} {n : Nat} {xs : List Value} {ops : Array Oper} {o : Oper} {a : Act} {K : Act → World → Prop} {Q : Exit → Act → World → Prop} {E : Prop} (hgd : o.guard = none) (s x : Operand) (t tx : TypeId)
    (ho : o.op = .call { callee := .builtin .append, args := #[s, x], argTypes := #[t, tx] }) (hr : WRow w e size v n xs)
    (i : TypeInfo) (z : Value) (bytes : Nat) (ht : Try.prog.underlying t = some (.slice e)) (hi : Try.prog.info? e = some i) (hz : i.zero = some z) (hsize : i.size = size) (hby : i.bytes = bytes) (hzs : z.cells.size = size)
    (hv : a.eval s = v) {xv : Value} {m : Nat} {news : List Value} (hx : a.eval x = xv) (hs : Src Try.prog size tx xv m news w) (h63 : n + m ≤ maxLen) (hbytes : (n + m) * bytes ≤ 140737488355328)
    (h : ∀ v' W, WRow w e size v n xs → WRow W e size v' (n + m) (xs ++ news) → Turn (Blk v) w W → (∀ k, Blk v' k → Blk v k ∨ (k = w.heap.size ∧ k < W.heap.size)) → K (a.put o.dst v') W) : if Region.wanted o (yielded ops a.tmps) = true then Oper.wp Try.prog o a w K Q else E :=
  step_append_w hgd s x t tx ho hr i z bytes ht hi hz hsize hby hzs hv hx hs h63 hbytes (fun v' W => h v' W hr)
theorem app_turn {W W' WH : World} {B : Nat} {vH : Value} (t : Turn NoBlock W W') (hB : W.heap.size ≤ B) (tH : Turn (Blk (.slice (some ⟨B, 0, none⟩) 0 0)) W' WH) (kH : ∀ k, Blk vH k → Blk (.slice (some ⟨B, 0, none⟩) 0 0) k ∨ (k = W'.heap.size ∧ k < WH.heap.size)) : Turn NoBlock W WH ∧ ∀ k, Blk vH k → W.heap.size ≤ k := by
  have hb : ∀ k, Blk (.slice (some ⟨B, 0, none⟩) 0 0) k → W.heap.size ≤ k := fun k hk => by
    have : k = B := by simpa [Blk, Value.ownBlock, eq_comm] using hk
    omega
  refine ⟨t.trans tH (fun k hk => .inr (hb k hk)), fun k hk => ?_⟩
  rcases kH k hk with h | h
  · exact hb k h
  · have := t.size; omega
set_option maxRecDepth 20000 in
set_option maxHeartbeats 1000000 in
theorem message_any (w : World) (tx : Int) (d : List UInt8) (h : List Int) (vd vh : Value) (hd : RzB w vd d) (hh : RzI w vh h) (hf : d.length ≤ 1000000000 ∧ h.length ≤ 1000000000) :
    Calls Try.prog 38 #[.agg #[.int .i64 tx, vd, vh]] w fun e w' => ∃ a b, e = .returned (.agg #[.int .i64 tx, a, b]) ∧ Byts a d w' ∧ Nums b h w' ∧ (∀ k, Blk a k ∨ Blk b k → w.heap.size ≤ k) ∧ Turn NoBlock w w' := by
  obtain ⟨i3, hi3, hz3, hs3, hb3⟩ := info_parts infoI
  obtain ⟨p, pc, hp⟩ := hd.sl
  obtain ⟨r, rc, hr⟩ := hh.sl
  have HD := Lib.hid (fun W (t : Turn NoBlock w W) => copy11 W vd d (RzB.past hd t) hf.1)
  have HH := Lib.hid (fun W (t : Turn NoBlock w W) => Rz.src (Rz.past hh t) 36 3 intsT (icells_one _))
  subst hp hr
  clear hd hh
  have f3 : 0 + h.length ≤ maxLen := by unfold maxLen; have := hf.2; omega
  have f4 : (0 + h.length) * 8 ≤ 140737488355328 := by have := hf.2; omega
  have F1 := Lib.hid (And.intro f3 f4)
  clear f3 f4 hf
  generalize hdl : d.length = dl at *
  generalize hhl : h.length = hl at *
  have HDL := Lib.hid (And.intro hdl hhl)
  clear hdl hhl
  go_enter Try.func38, Try.ntmps38
  go_wp2_with fail
  have T0 := Lib.hid (show Turn NoBlock w ((w.alloc (.cells #[.int .i64 tx, .slice p dl pc, .slice r hl rc] 38)).alloc (.cells #[.int .i64 0, .slice none 0 0, .slice none 0 0] 49)) from ((Turn.refl _ w).alloc _).alloc _)
  have b0 : ((w.alloc (.cells #[.int .i64 tx, .slice p dl pc, .slice r hl rc] 38)).alloc (.cells #[.int .i64 0, .slice none 0 0, .slice none 0 0] 49)).heap[w.heap.size]? = some (.cells #[.int .i64 tx, .slice p dl pc, .slice r hl rc] 38 (0, 0)) := (Below.heap_alloc _ _ _ (by simp)).trans (heap_alloc_new w _)
  have r0 : ((w.alloc (.cells #[.int .i64 tx, .slice p dl pc, .slice r hl rc] 38)).alloc (.cells #[.int .i64 0, .slice none 0 0, .slice none 0 0] 49)).heap[w.heap.size + 1]? = some (.cells #[.int .i64 0, .slice none 0 0, .slice none 0 0] 49 (0, 0)) := by
    have := heap_alloc_new (w.alloc (.cells #[.int .i64 tx, .slice p dl pc, .slice r hl rc] 38)) (.cells #[.int .i64 0, .slice none 0 0, .slice none 0 0] 49)
    rwa [World.size_alloc] at this
  generalize hW : (w.alloc (.cells #[.int .i64 tx, .slice p dl pc, .slice r hl rc] 38)).alloc (.cells #[.int .i64 0, .slice none 0 0, .slice none 0 0] 49) = W at *
  have hsz : W.heap.size = w.heap.size + 2 := by rw [← hW]; simp
  have HB := Lib.hid (fun W' (t : Turn (fun k => k = w.heap.size + 1) W W') => box3 (t.heap b0 (fun h => by omega)))
  have HQ := Lib.hid (fun W' (t : Turn NoBlock W W') => (And.intro (box3 (t.heap r0 (fun h => h))) (And.intro (free_at (t.heap r0 (fun h => h)) 0) (And.intro (free_at (t.heap r0 (fun h => h)) 1) (free_at (t.heap r0 (fun h => h)) 2)))))
  have HS := Lib.hid hsz
  have TW := Lib.hid (Turn.refl NoBlock W)
  clear hW hsz b0 r0
  have s0 := HB.out W (Turn.refl _ _)
  go_region_held3 (fun w' => (w'.cell? ⟨w.heap.size, 0, none⟩ = some (.int .i64 tx) ∧ w'.cell? ⟨w.heap.size, 1, none⟩ = some (.slice p dl pc) ∧ w'.cell? ⟨w.heap.size, 2, none⟩ = some (.slice r hl rc)))
    (first | exact s0 | exact HB.out _ (turn_set3 UH.out) | exact HB.out _ (turn_set3 UD.out) | exact HB.out _ (TU (by (repeat (first | with_reducible exact UD.out | with_reducible exact UH.out | with_reducible exact Turn.refl _ _ | with_reducible refine Turn.drew ?_ | with_reducible refine Turn.alloc ?_ _)))))
    (first
      | (go_at_call 68; (with_reducible refine (HD.out _ (TT T0.out (show Turn NoBlock W _ from (by (repeat (first | with_reducible exact UD.out | with_reducible exact UH.out | with_reducible exact Turn.refl _ _ | with_reducible refine Turn.drew ?_ | with_reducible refine Turn.alloc ?_ _)))))).mono ?_); rintro x WD ⟨vD, rfl, hD, kD, tD⟩; obtain ⟨pD, cD, rfl⟩ := hD.sl; have UD := Lib.hid (show Turn NoBlock W WD from TT (by (repeat (first | with_reducible exact UD.out | with_reducible exact UH.out | with_reducible exact Turn.refl _ _ | with_reducible refine Turn.drew ?_ | with_reducible refine Turn.alloc ?_ _))) tD); obtain ⟨⟨x0, x1, x2⟩, x3, x4, x5⟩ := HQ.out _ UD.out; have KD := Lib.hid (And.intro hD (And.intro (show ∀ k, Blk (.slice pD d.length cD) k → W.heap.size ≤ k from fun k hk => Nat.le_trans (show W.heap.size ≤ _ from (show Turn NoBlock W _ from (by (repeat (first | with_reducible exact UD.out | with_reducible exact UH.out | with_reducible exact Turn.refl _ _ | with_reducible refine Turn.drew ?_ | with_reducible refine Turn.alloc ?_ _)))).size) (kD k hk)) tD)); clear hD kD tD)
      | (refine step_append_r rfl (.tmp 8) (.tmp 10) 36 36 rfl (show WRow _ 3 1 _ 0 [] from by first | exact wrow_empty _ _ | exact ((wrow_empty _ _).past ((Turn.refl NoBlock _).drew)).past KD.out.2.2 | exact (wrow_empty _ _).past KD.out.2.2) i3 _ 8 intsT hi3 hz3 hs3 hb3 rfl (by rfl) (by rfl) (HH.out _ (TT T0.out (show Turn NoBlock W _ from (by (repeat (first | with_reducible exact UD.out | with_reducible exact UH.out | with_reducible exact Turn.refl _ _ | with_reducible refine Turn.drew ?_ | with_reducible refine Turn.alloc ?_ _)))))) F1.out.1 F1.out.2 ?_; intro vH WH hRW hH tH kH; rw [Nat.zero_add, List.nil_append] at hH; obtain ⟨pH, cH, rfl⟩ := hH.sl; obtain ⟨tWH, kWH⟩ := app_turn (W := W) (by (repeat (first | with_reducible exact UD.out | with_reducible exact UH.out | with_reducible exact Turn.refl _ _ | with_reducible refine Turn.drew ?_ | with_reducible refine Turn.alloc ?_ _))) (by first | exact Nat.le_refl _ | exact UD.out.size) tH kH; have UH := Lib.hid tWH; obtain ⟨⟨x0, x1, x2⟩, x3, x4, x5⟩ := HQ.out _ UH.out; have KH := Lib.hid (And.intro hH (And.intro kWH (And.intro tH hRW))); clear hRW hH tH kH tWH kWH))
  all_goals
    go_wp2
    refine bodyPost_ret (v := .agg #[.int .i64 tx, .slice pD d.length cD, .slice pH hl cH]) (by simp [results, Try.results38, go_sem, x0, x1, x2]) rfl ⟨_, _, rfl, ?_, ?_, ?_, ?_⟩
    · refine Byts.kept ?_ (turn_set3 (R := w.heap.size + 1) (Turn.refl _ _)) (fun k hk => by have := KD.out.2.1 k hk; have := HS.out; omega)
      first
        | exact KD.out.1
        | exact Byts.kept KD.out.1 KH.out.2.2.1 (fun k h1 h2 => blks_typed KD.out.1 KH.out.2.2.2 (by decide) k h1 h2)
        | exact Byts.kept (Byts.past KD.out.1 ((Turn.refl NoBlock _).alloc _)) KH.out.2.2.1 (fun k h1 h2 => blks_typed (Byts.past KD.out.1 ((Turn.refl NoBlock _).alloc _)) KH.out.2.2.2 (by decide) k h1 h2)
    · refine Nums.kept ?_ (turn_set3 (R := w.heap.size + 1) (Turn.refl _ _)) (fun k hk => by have := KH.out.2.1 k hk; have := HS.out; omega)
      unfold Nums
      rw [HDL.out.2]
      first
        | exact KH.out.1
        | exact KH.out.1.past KD.out.2.2
    · intro k hk
      rcases hk with hk | hk
      · have := KD.out.2.1 k hk; have := HS.out; omega
      · have := KH.out.2.1 k hk; have := HS.out; omega
    · refine (TT T0.out ?_).trans (turn_set3 (R := w.heap.size + 1) (Turn.refl _ _)) (fun k hk => .inr (by omega))
      first
        | exact UH.out
        | exact UD.out
end Go.Proofs.Ytcbphfpfdfgehaa
