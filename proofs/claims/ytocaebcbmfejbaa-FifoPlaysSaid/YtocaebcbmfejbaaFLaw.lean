/-
  The calls of a fifo in a law's state; what awake answers. No conditions.
-/
import Derived.Test.YtocaebcbmfejbaaFOps2
import Derived.Test.YtocaebcbmfejbaaFNew
namespace Go.Proofs.Ytocaebcbmfejbaa
open Go.ChangeShapes Go.WideShapes Go.ChangeAt Go.RowKit

def wrK (count size : Nat) (K : Nat → Re) (e : Nat) (b : List UInt8) : Nat → Re := updN K (oth e) (wrE count size (K e) (K (oth e)) b)
def rdK (size : Nat) (K : Nat → Re) (e : Nat) (n : Int) : Nat → Re := updN K e (rdE size (K e) (K (oth e)) n)
def clK (K : Nat → Re) (e : Nat) : Nat → Re := updN K e (if (K e).op = true then Re.cl else K e)
theorem Kp.trans {X : Nat → Prop} {a b c : World} (h : Kp X a b) (k : Kp X b c) (hX : ∀ i, X i → i < a.heap.size) : Kp X a c := by
  obtain ⟨F, t, hF⟩ := h
  obtain ⟨F', t', hF'⟩ := k
  refine ⟨fun i => F i ∨ F' i ∨ a.heap.size ≤ i, (t.mono (fun i hi => .inl (.inl hi))).trans t' (fun i hi => .inl (.inr (.inl hi))), fun i hi h => ?_⟩
  rcases h with h | h | h
  · exact hF i hi h
  · exact hF' i hi h
  · have := hX i hi; omega
section
variable {w0 w : World} {c count size : Nat} {K : Nat → Re} {G : Nat → Nat} {X : Nat → Prop}
theorem FSt.off (h : FSt w0 w c count size K G X) {v : Value} (hv : ∀ k, Blk v k → k < w0.heap.size ∨ X k) {e : Nat} (he : e < 2) : Off v (G e) ∧ ∀ k, Blk v k → k < w.heap.size := by
  refine ⟨fun k hk e1 => ?_, fun k hk => ?_⟩
  · rcases hv k hk with h1 | h1
    · have := h.fresh (G e) (foot_g he); omega
    · exact (h.ap k h1).2 (e1 ▸ foot_g he)
  · rcases hv k hk with h1 | h1
    · have := h.turn.size; omega
    · exact (h.ap k h1).1
theorem FSt.write0 (h : FSt w0 w c count size K G X) {v : Value} {b : List UInt8} (hb : Rk w v b) (hbl : b.length ≤ 1000000000) (hv : ∀ k, Blk v k → k < w0.heap.size ∨ X k) : Calls Try.prog 41 #[.pointer (some ⟨c, 0, none⟩), .int .i64 0, v] w fun x w' => x = .returned (.tuple #[.int .i64 ((wrN count size (K 0) (K 1) b : Nat) : Int), .int .i64 (wrS count size (K 0) (K 1) b)]) ∧ FSt w0 w' c count size (wrK count size K 0 b) G X ∧ Kp X w w' :=
  (fwrite0 h.mem hb (h.off hv (e := 1) (by omega)).1 (h.off hv (e := 1) (by omega)).2 hbl).mono (fun _ _ hh => ⟨hh.1, h.made hh.2.1 hh.2.2⟩)
theorem FSt.read0 (h : FSt w0 w c count size K G X) (n : Int) : Calls Try.prog 43 #[.pointer (some ⟨c, 0, none⟩), .int .i64 0, .int .i64 n] w fun x w' => ∃ v, x = .returned (.tuple #[v, .int .i64 (rdS (K 0) (K 1) n)]) ∧ Byts v (rdB size (K 0) (K 1) n) w' ∧ FSt w0 w' c count size (rdK size K 0 n) G (fun k => X k ∨ Blk v k) ∧ Kp X w w' ∧ ∀ j, Blk v j → w.heap.size ≤ j := by
  refine (fread0 h.mem n).mono ?_
  rintro x w' ⟨⟨v, rfl, v1, v2⟩, hm, ht⟩
  obtain ⟨h1, h2⟩ := h.made hm ht
  refine ⟨v, rfl, v1, ⟨h1.mem, h1.turn, h1.fresh, fun k hk => ?_⟩, h2, v2⟩
  rcases hk with hk | hk
  · exact h1.ap k hk
  · exact ⟨v1.lt hk, fun hf => by have := v2 k hk; have := h.mem.lt hf; omega⟩
theorem FSt.close0 (h : FSt w0 w c count size K G X) : Calls Try.prog 45 #[.pointer (some ⟨c, 0, none⟩), .int .i64 0] w fun x w' => x = .returned (.int .i64 (if (K 0).op = true then 0 else -24)) ∧ FSt w0 w' c count size (clK K 0) G X ∧ Kp X w w' :=
  (fclose0 h.mem).mono (fun _ _ hh => ⟨hh.1, h.made hh.2.1 hh.2.2⟩)
theorem FSt.len0 (h : FSt w0 w c count size K G X) : Calls Try.prog 47 #[.pointer (some ⟨c, 0, none⟩), .int .i64 0] w fun x w' => x = .returned (.int .i64 (((K 0).d.length / size : Nat) : Int)) ∧ w = w' := flen0 h.mem
theorem FSt.open0 (h : FSt w0 w c count size K G X) : Calls Try.prog 48 #[.pointer (some ⟨c, 0, none⟩), .int .i64 0] w fun x w' => x = .returned (.bool (K 0).op) ∧ w = w' := fopen0 h.mem
theorem FSt.shows0 (h : FSt w0 w c count size K G X) : Calls Try.prog 49 #[.pointer (some ⟨c, 0, none⟩), .int .i64 0] w fun x w' => x = .returned (.int .i64 (shF count size (K 0) (K 1) : Nat)) ∧ Turn NoBlock w w' := fshows0 h.mem
theorem FSt.write1 (h : FSt w0 w c count size K G X) {v : Value} {b : List UInt8} (hb : Rk w v b) (hbl : b.length ≤ 1000000000) (hv : ∀ k, Blk v k → k < w0.heap.size ∨ X k) : Calls Try.prog 41 #[.pointer (some ⟨c, 0, none⟩), .int .i64 1, v] w fun x w' => x = .returned (.tuple #[.int .i64 ((wrN count size (K 1) (K 0) b : Nat) : Int), .int .i64 (wrS count size (K 1) (K 0) b)]) ∧ FSt w0 w' c count size (wrK count size K 1 b) G X ∧ Kp X w w' :=
  (fwrite1 h.mem hb (h.off hv (e := 0) (by omega)).1 (h.off hv (e := 0) (by omega)).2 hbl).mono (fun _ _ hh => ⟨hh.1, h.made hh.2.1 hh.2.2⟩)
theorem FSt.read1 (h : FSt w0 w c count size K G X) (n : Int) : Calls Try.prog 43 #[.pointer (some ⟨c, 0, none⟩), .int .i64 1, .int .i64 n] w fun x w' => ∃ v, x = .returned (.tuple #[v, .int .i64 (rdS (K 1) (K 0) n)]) ∧ Byts v (rdB size (K 1) (K 0) n) w' ∧ FSt w0 w' c count size (rdK size K 1 n) G (fun k => X k ∨ Blk v k) ∧ Kp X w w' ∧ ∀ j, Blk v j → w.heap.size ≤ j := by
  refine (fread1 h.mem n).mono ?_
  rintro x w' ⟨⟨v, rfl, v1, v2⟩, hm, ht⟩
  obtain ⟨h1, h2⟩ := h.made hm ht
  refine ⟨v, rfl, v1, ⟨h1.mem, h1.turn, h1.fresh, fun k hk => ?_⟩, h2, v2⟩
  rcases hk with hk | hk
  · exact h1.ap k hk
  · exact ⟨v1.lt hk, fun hf => by have := v2 k hk; have := h.mem.lt hf; omega⟩
theorem FSt.close1 (h : FSt w0 w c count size K G X) : Calls Try.prog 45 #[.pointer (some ⟨c, 0, none⟩), .int .i64 1] w fun x w' => x = .returned (.int .i64 (if (K 1).op = true then 0 else -24)) ∧ FSt w0 w' c count size (clK K 1) G X ∧ Kp X w w' :=
  (fclose1 h.mem).mono (fun _ _ hh => ⟨hh.1, h.made hh.2.1 hh.2.2⟩)
theorem FSt.len1 (h : FSt w0 w c count size K G X) : Calls Try.prog 47 #[.pointer (some ⟨c, 0, none⟩), .int .i64 1] w fun x w' => x = .returned (.int .i64 (((K 1).d.length / size : Nat) : Int)) ∧ w = w' := flen1 h.mem
theorem FSt.open1 (h : FSt w0 w c count size K G X) : Calls Try.prog 48 #[.pointer (some ⟨c, 0, none⟩), .int .i64 1] w fun x w' => x = .returned (.bool (K 1).op) ∧ w = w' := fopen1 h.mem
theorem FSt.shows1 (h : FSt w0 w c count size K G X) : Calls Try.prog 49 #[.pointer (some ⟨c, 0, none⟩), .int .i64 1] w fun x w' => x = .returned (.int .i64 (shF count size (K 1) (K 0) : Nat)) ∧ Turn NoBlock w w' := fshows1 h.mem
theorem FSt.szc (h : FSt w0 w c count size K G X) : Calls Try.prog 46 #[.pointer (some ⟨c, 0, none⟩)] w fun x w' => x = .returned (.int .i64 (size : Int)) ∧ w = w' := fsize h.mem
end
theorem wrE_def (count size : Nat) (s t : Re) (b : List UInt8) (n : Nat) (h1 : wrS count size s t b = 0) (h2 : min (b.length / size) (count - t.d.length / size) = n) : wrN count size s t b = n ∧ wrE count size s t b = { t with d := t.d ++ b.take (n * size) } := by
  unfold wrE wrN
  rw [if_pos h1, if_pos h1, h2]
  exact ⟨rfl, rfl⟩
def abc9 : List UInt8 := [97, 98, 99, 100, 101, 102, 103, 104, 105]
def cells9 : Array Value := #[.int .u8 97, .int .u8 98, .int .u8 99, .int .u8 100, .int .u8 101, .int .u8 102, .int .u8 103, .int .u8 104, .int .u8 105]
theorem conv_abc (w : World) : Sem.run Try.prog (convert 35 35 (.slice (some ⟨w.heap.size, 0, none⟩) 9 9)) (w.alloc (.cells #[.int .u8 97, .int .u8 98, .int .u8 99, .int .u8 100, .int .u8 101, .int .u8 102, .int .u8 103, .int .u8 104, .int .u8 105] 5)) = .ok (.slice (some ⟨w.heap.size, 0, none⟩) 9 9) (w.alloc (.cells #[.int .u8 97, .int .u8 98, .int .u8 99, .int .u8 100, .int .u8 101, .int .u8 102, .int .u8 103, .int .u8 104, .int .u8 105] 5 (9, 10))) :=
  Lib.run_convert_bytes_const w 35 5 cells9 9 9 ch_bytes (by kernel_rfl)
theorem rk_abc (w : World) (f : Nat × Nat) : Rk (w.alloc (.cells #[.int .u8 97, .int .u8 98, .int .u8 99, .int .u8 100, .int .u8 101, .int .u8 102, .int .u8 103, .int .u8 104, .int .u8 105] 5 f)) (.slice (some ⟨w.heap.size, 0, none⟩) 9 9) abc9 := by
  refine ⟨⟨_, 9, rfl, Nat.le_refl _⟩, RdB.rz ⟨rfl, _, 9, rfl, (fun h => by cases h), fun a ha => ?_⟩⟩
  cases ha
  refine ⟨_, 0, rfl, fun j hj => ?_⟩
  rw [Nat.zero_add, World.cell?_alloc_mark]
  have : j = 0 ∨ j = 1 ∨ j = 2 ∨ j = 3 ∨ j = 4 ∨ j = 5 ∨ j = 6 ∨ j = 7 ∨ j = 8 := by simp [abc9] at hj; omega
  rcases this with rfl | rfl | rfl | rfl | rfl | rfl | rfl | rfl | rfl <;> rfl
def aK0 : Nat → Re := fun _ => ⟨true, []⟩
def aK1 : Nat → Re := updN aK0 1 ⟨true, [97, 98, 99, 100, 101, 102]⟩
theorem abc_write {w0 W : World} {c : Nat} {G : Nat → Nat} (h : FSt w0 W c 2 3 aK0 G NoBlock) (o : Obj) (hr : Rk (W.alloc o) (.slice (some ⟨W.heap.size, 0, none⟩) 9 9) abc9) : Calls Try.prog 41 #[.pointer (some ⟨c, 0, none⟩), .int .i64 0, .slice (some ⟨W.heap.size, 0, none⟩) 9 9] (W.alloc o) fun x w' => x = .returned (.tuple #[.int .i64 2, .int .i64 0]) ∧ FSt w0 w' c 2 3 aK1 G NoBlock := by
  have hm : FSt w0 (W.alloc o) c 2 3 aK0 G (fun k => k = W.heap.size) := h.more ((Turn.refl _ W).alloc o) (fun k hk => .inr ⟨by omega, by rw [World.size_alloc]; omega⟩) (fun k hk => hk.elim)
  refine (hm.write0 hr (by decide) (fun k hk => .inr (by simpa [Blk, Value.ownBlock, eq_comm] using hk))).mono (fun _ _ hh => ⟨hh.1, ?_⟩)
  exact hh.2.1.fewer (fun k hk => hk.elim)
theorem abc_read {w0 W : World} {c : Nat} {G : Nat → Nat} (h : FSt w0 W c 2 3 aK1 G NoBlock) : Calls Try.prog 43 #[.pointer (some ⟨c, 0, none⟩), .int .i64 1, .int .i64 1] W fun x w' => ∃ v, x = .returned (.tuple #[v, .int .i64 0]) ∧ FSt w0 w' c 2 3 (rdK 3 aK1 1 1) G NoBlock ∧ Sem.run Try.prog (convert 35 9 v) w' = .ok (.string ⟨#[97, 98, 99]⟩) w' := by
  refine (h.read1 1).mono ?_
  rintro x w' ⟨v, rfl, hv, hk, -, -⟩
  exact ⟨v, rfl, hk.fewer (fun k hk => hk.elim), conv11 (Byts.rd hv)⟩
set_option maxRecDepth 20000 in
set_option maxHeartbeats 1000000 in
theorem awake13 (w : World) : Calls Try.prog 40 #[] w fun e w' => e = .returned (.bool true) ∧ Turn NoBlock w w' := by
  have c1 := fnew_yes 2 3 w (by unfold good; decide)
  rw [show ((2 : Nat) : Int) = 2 from rfl, show ((3 : Nat) : Int) = 3 from rfl] at c1
  have hcv := conv_abc
  go_enter Try.func40, Try.ntmps40
  go_wp2_with (first
    | (go_at_call 46; (with_reducible refine (K3.out.szc).mono ?_); rintro x w4 ⟨rfl, rfl⟩)
    | (go_at_call 43; (with_reducible refine (abc_read K2.out).mono ?_); rintro x w3 ⟨v3, rfl, k3, r3⟩; have K3 := Lib.hid k3; clear k3)
    | (go_at_call 41; (with_reducible refine (abc_write K1.out _ (rk_abc _ _)).mono ?_); rintro x w2 ⟨rfl, k2⟩; have K2 := Lib.hid k2; clear k2)
    | (go_at_call 38; (with_reducible refine c1.mono ?_); rintro x w1 ⟨rfl, G, k1⟩; have K1 := Lib.hid (show FSt w w1 w.heap.size 2 3 aK0 G NoBlock from k1); clear k1))
  go_ret
  exact ⟨rfl, K3.out.turn⟩
end Go.Proofs.Ytocaebcbmfejbaa
