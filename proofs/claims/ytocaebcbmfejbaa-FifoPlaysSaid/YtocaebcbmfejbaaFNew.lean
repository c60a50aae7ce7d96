/-
  Which fifos can be made; a new one. No conditions.
-/
import Derived.Test.YtocaebcbmfejbaaFOps
import Derived.Deep.LoopGhost
import Derived.Deep.RegionLaw
namespace Go.Proofs.Ytocaebcbmfejbaa
open Go.ChangeShapes Go.WideShapes Go.ChangeAt Go.RowKit

/-- Has a number one bit alone? -/
def pow2 (n : Nat) : Bool := [1, 2, 4, 8, 16, 32, 64, 128, 256, 512, 1024].contains n
def good (count size : Int) : Prop := 1 ≤ count ∧ 1 ≤ size ∧ count ≤ 1024 ∧ size ≤ 64 ∧ pow2 count.toNat = true ∧ count * size ≤ 4096
theorem pow2_bits : ∀ n : Fin 1025, 1 ≤ n.val → (bits BinOp.and IntKind.i64 (n.val : Int) ((n.val : Int) - 1) == 0) = pow2 n.val := by decide +kernel
theorem fpow2 (n : Nat) (h1 : 1 ≤ n) (h2 : n ≤ 1024) (w : World) :
    Calls Try.prog 97 #[.int .i64 (n : Int)] w fun x w' => x = .returned (.bool (pow2 n)) ∧ w = w' := by
  have e1 : IntKind.i64.wrap ((n : Int) - 1) = (n : Int) - 1 := wrap_fit _ (by unfold fit; omega)
  have HP := Lib.hid (pow2_bits ⟨n, by omega⟩ h1)
  go_enter Try.func97, Try.ntmps97
  go_wp2
  go_ret
  exact ⟨by rw [← HP.out]; rfl, rfl⟩
theorem min_run (a b : Int) : ∃ m : Int, (m < 1 ↔ (a < 1 ∨ b < 1)) ∧ ∀ (ts : Array TypeId) (t : TypeId) (w : World), (Builtin.min_ ts t #[.int .i64 a, .int .i64 b]).run Try.prog w = .ok (.int .i64 m) w :=
  ⟨if b < a then b else a, by split <;> omega, fun _ _ _ => run_min_int2 _ _ _ _ _ _ _⟩
set_option maxHeartbeats 1000000 in
theorem fpossible (a b : Int) (w : World) :
    Calls Try.prog 80 #[.int .i64 a, .int .i64 b] w fun x w' => (x = .returned (.bool true) ∧ good a b ∨ x = .returned (.bool false) ∧ ¬ good a b) ∧ w = w' := by
  obtain ⟨m, hm, hrun⟩ := min_run a b
  by_cases h0 : a < 1 ∨ b < 1
  · have m1 : m < 1 := hm.2 h0
    have HN := Lib.hid (show ¬ good a b from fun h => by have := h.1; have := h.2.1; omega)
    clear hm h0
    go_enter Try.func80, Try.ntmps80
    go_wp2
    go_ret
    exact ⟨.inr ⟨rfl, HN.out⟩, rfl⟩
  have m1 : 1 ≤ m := by
    have := mt hm.1 h0
    omega
  have hd : decide (m < 1) = false := by simpa using m1
  have h0a : 1 ≤ a := by omega
  have h0b : 1 ≤ b := by omega
  clear hm h0
  by_cases h1 : 1024 < a
  · have HN := Lib.hid (show ¬ good a b from fun h => by have := h.2.2.1; omega)
    go_enter Try.func80, Try.ntmps80
    go_wp2
    go_ret
    exact ⟨.inr ⟨rfl, HN.out⟩, rfl⟩
  by_cases h2 : 64 < b
  · have HN := Lib.hid (show ¬ good a b from fun h => by have := h.2.2.2.1; omega)
    go_enter Try.func80, Try.ntmps80
    go_wp2
    go_ret
    exact ⟨.inr ⟨rfl, HN.out⟩, rfl⟩
  obtain ⟨n, rfl⟩ : ∃ n : Nat, a = n := ⟨a.toNat, by omega⟩
  have hc := fpow2 n (by omega) (by omega) w
  obtain ⟨p, hp⟩ : ∃ p, pow2 n = p := ⟨_, rfl⟩
  rw [hp] at hc
  have HC := Lib.hid hc
  have hpb : (n : Int) * b ≤ 1024 * 64 := Int.mul_le_mul (by omega) (by omega) (by omega) (by omega)
  have hp0 : 0 ≤ (n : Int) * b := Int.mul_nonneg (by omega) (by omega)
  have ew : IntKind.i64.wrap ((n : Int) * b) = (n : Int) * b := wrap_fit _ (by unfold fit; omega)
  have HG := Lib.hid (show good (n : Int) b ↔ p = true ∧ (n : Int) * b ≤ 4096 from ⟨fun h => ⟨hp ▸ h.2.2.2.2.1, h.2.2.2.2.2⟩, fun h => ⟨h0a, h0b, by omega, by omega, hp.trans h.1, h.2⟩⟩)
  clear hc hp hpb hp0
  cases p with
  | false =>
    go_enter Try.func80, Try.ntmps80
    go_wp2_with (go_at_call 97; (with_reducible refine HC.out.mono ?_); rintro x w2 ⟨rfl, rfl⟩)
    go_ret
    exact ⟨.inr ⟨rfl, fun h => by cases (HG.out.1 h).1⟩, rfl⟩
  | true =>
    by_cases h3 : (n : Int) * b ≤ 4096
    · have hd3 : decide ((n : Int) * b ≤ 4096) = true := by simpa using h3
      have H3 := Lib.hid h3
      clear h3
      go_enter Try.func80, Try.ntmps80
      go_wp2_with (go_at_call 97; (with_reducible refine HC.out.mono ?_); rintro x w2 ⟨rfl, rfl⟩)
      go_ret
      exact ⟨.inl ⟨rfl, HG.out.2 (by simpa using H3.out)⟩, rfl⟩
    · have hd3 : decide ((n : Int) * b ≤ 4096) = false := by simpa using h3
      have H3 := Lib.hid h3
      clear h3
      go_enter Try.func80, Try.ntmps80
      go_wp2_with (go_at_call 97; (with_reducible refine HC.out.mono ?_); rintro x w2 ⟨rfl, rfl⟩)
      go_ret
      refine ⟨.inr ⟨rfl, fun h => ?_⟩, rfl⟩
      have h4 : (n : Int) * b ≤ 4096 := by simpa using HG.out.1 h
      have h5 : 4096 < (n : Int) * b := by simpa using H3.out
      exact absurd h4 (Int.not_le.2 h5)
def nrow (size count B : Nat) (a b : Option Nat) : Array Value :=
  let f := fun (o : Option Nat) => match o with
    | some g => [.bool true, .int .i64 (count : Int), .int .i64 (size : Int), .slice (some ⟨g, 0, none⟩) B B, .int .i64 0, .int .i64 0]
    | none => [.bool false, .int .i64 0, .int .i64 0, .slice none 0 0, .int .i64 0, .int .i64 0]
  (.int .i64 (size : Int) :: (f a ++ f b)).toArray
/-- New's loop: some ends are open. -/
structure NInv (w : World) (c count size B : Nat) (a b : Option Nat) (X : World) : Prop where
  row : X.heap[c]? = some (.cells (nrow size count B a b) 136 (0, 0))
  by' : ∀ g, a = some g ∨ b = some g → c < g ∧ Byts (.slice (some ⟨g, 0, none⟩) B B) (List.replicate B 0) X
  ap : a ≠ b ∨ a = none
  turn : Turn NoBlock w X
theorem NInv.next0 {w wr W1 : World} {c count size B gb : Nat} (hwc : w.heap.size ≤ c) (h : NInv w c count size B none none wr) (hcg : c < gb) (t : Turn NoBlock wr W1) (hb : Byts (.slice (some ⟨gb, 0, none⟩) B B) (List.replicate B 0) W1) :
    NInv w c count size B (some gb) none ((((((W1.setCell ⟨c, 1, none⟩ (.bool true)).setCell ⟨c, 2, none⟩ (.int .i64 (count : Int))).setCell ⟨c, 3, none⟩ (.int .i64 (size : Int))).setCell ⟨c, 4, none⟩ (.slice (some ⟨gb, 0, none⟩) B B)).setCell ⟨c, 5, none⟩ (.int .i64 0)).setCell ⟨c, 6, none⟩ (.int .i64 0)) := by
  have h0 := t.heap h.row (fun h => h)
  have h1 := set_at h0 1 (.bool true)
  have h2 := set_at h1 2 (.int .i64 (count : Int))
  have h3 := set_at h2 3 (.int .i64 (size : Int))
  have h4 := set_at h3 4 (.slice (some ⟨gb, 0, none⟩) B B)
  have h5 := set_at h4 5 (.int .i64 0)
  have h6 := set_at h5 6 (.int .i64 0)
  have tc : Turn (fun k => k = c) W1 ((((((W1.setCell ⟨c, 1, none⟩ (.bool true)).setCell ⟨c, 2, none⟩ (.int .i64 (count : Int))).setCell ⟨c, 3, none⟩ (.int .i64 (size : Int))).setCell ⟨c, 4, none⟩ (.slice (some ⟨gb, 0, none⟩) B B)).setCell ⟨c, 5, none⟩ (.int .i64 0)).setCell ⟨c, 6, none⟩ (.int .i64 0)) := (((((((Turn.refl (fun k => k = c) W1).setCell (p := ⟨c, 1, none⟩) (.inl rfl) (.bool true)).setCell (p := ⟨c, 2, none⟩) (.inl rfl) (.int .i64 (count : Int))).setCell (p := ⟨c, 3, none⟩) (.inl rfl) (.int .i64 (size : Int))).setCell (p := ⟨c, 4, none⟩) (.inl rfl) (.slice (some ⟨gb, 0, none⟩) B B)).setCell (p := ⟨c, 5, none⟩) (.inl rfl) (.int .i64 0)).setCell (p := ⟨c, 6, none⟩) (.inl rfl) (.int .i64 0))
  have hbg : ∀ a n k, Blk (.slice (some ⟨a, 0, none⟩) n n) k → a = k := fun a n k hk => by simpa [Blk, Value.ownBlock] using hk
  refine ⟨by simpa [nrow] using h6, fun x hx => ?_, ?_, (h.turn.trans t (fun _ h => .inl h)).trans tc (fun k hk => .inr (by omega))⟩
  · rcases hx with hx | hx
    · cases hx
      exact ⟨hcg, hb.kept tc (fun k hk e => by have := hbg _ _ _ hk; omega)⟩
    · cases hx
  · exact .inl (fun h => by cases h)
theorem NInv.next1 {w wr W1 : World} {c count size B gb g : Nat} (hwc : w.heap.size ≤ c) (h : NInv w c count size B (some g) none wr) (hgb : wr.heap.size = gb) (hcg : c < gb) (t : Turn NoBlock wr W1) (hb : Byts (.slice (some ⟨gb, 0, none⟩) B B) (List.replicate B 0) W1) :
    NInv w c count size B (some g) (some gb) ((((((W1.setCell ⟨c, 7, none⟩ (.bool true)).setCell ⟨c, 8, none⟩ (.int .i64 (count : Int))).setCell ⟨c, 9, none⟩ (.int .i64 (size : Int))).setCell ⟨c, 10, none⟩ (.slice (some ⟨gb, 0, none⟩) B B)).setCell ⟨c, 11, none⟩ (.int .i64 0)).setCell ⟨c, 12, none⟩ (.int .i64 0)) := by
  have h0 := t.heap h.row (fun h => h)
  have h1 := set_at h0 7 (.bool true)
  have h2 := set_at h1 8 (.int .i64 (count : Int))
  have h3 := set_at h2 9 (.int .i64 (size : Int))
  have h4 := set_at h3 10 (.slice (some ⟨gb, 0, none⟩) B B)
  have h5 := set_at h4 11 (.int .i64 0)
  have h6 := set_at h5 12 (.int .i64 0)
  have tc : Turn (fun k => k = c) W1 ((((((W1.setCell ⟨c, 7, none⟩ (.bool true)).setCell ⟨c, 8, none⟩ (.int .i64 (count : Int))).setCell ⟨c, 9, none⟩ (.int .i64 (size : Int))).setCell ⟨c, 10, none⟩ (.slice (some ⟨gb, 0, none⟩) B B)).setCell ⟨c, 11, none⟩ (.int .i64 0)).setCell ⟨c, 12, none⟩ (.int .i64 0)) := (((((((Turn.refl (fun k => k = c) W1).setCell (p := ⟨c, 7, none⟩) (.inl rfl) (.bool true)).setCell (p := ⟨c, 8, none⟩) (.inl rfl) (.int .i64 (count : Int))).setCell (p := ⟨c, 9, none⟩) (.inl rfl) (.int .i64 (size : Int))).setCell (p := ⟨c, 10, none⟩) (.inl rfl) (.slice (some ⟨gb, 0, none⟩) B B)).setCell (p := ⟨c, 11, none⟩) (.inl rfl) (.int .i64 0)).setCell (p := ⟨c, 12, none⟩) (.inl rfl) (.int .i64 0))
  have hbg : ∀ a n k, Blk (.slice (some ⟨a, 0, none⟩) n n) k → a = k := fun a n k hk => by simpa [Blk, Value.ownBlock] using hk
  refine ⟨by simpa [nrow] using h6, fun x hx => ?_, ?_, (h.turn.trans t (fun _ h => .inl h)).trans tc (fun k hk => .inr (by omega))⟩
  · rcases hx with hx | hx
    · cases hx
      obtain ⟨q1, q2⟩ := h.by' g (.inl rfl)
      exact ⟨q1, (q2.past t).kept tc (fun k hk e => by have := hbg _ _ _ hk; omega)⟩
    · cases hx
      exact ⟨hcg, hb.kept tc (fun k hk e => by have := hbg _ _ _ hk; omega)⟩
  · refine .inl (fun e => ?_)
    have := ((h.by' g (.inl rfl)).2.typed (k := g) rfl).lt
    cases e
    omega
theorem ninv_mem {w X : World} {c count size B g1 g2 : Nat} (hwc : w.heap.size ≤ c) (h : NInv w c count size B (some g1) (some g2) X) (hg : good (count : Int) (size : Int)) (hB : count * size = B) :
    FSt w X c count size (fun _ => ⟨true, []⟩) (fun e => if e = 0 then g1 else g2) NoBlock := by
  subst hB
  have hc := fun j => cell_at h.row j
  obtain ⟨q1, q2⟩ := h.by' g1 (.inl rfl)
  obtain ⟨p1, p2⟩ := h.by' g2 (.inr rfl)
  obtain ⟨a1, a2, a3, a4, -, a6⟩ := hg
  rw [← Int.natCast_mul] at a6
  have hap : g1 ≠ g2 := fun e => h.ap.elim (fun h1 => h1 (by rw [e])) (fun h1 => by cases h1)
  refine ⟨⟨⟨_, h.row⟩, hc 0, fun e he => ?_, hap, by omega, by omega, by omega, by omega, by omega, fun e he => ⟨⟨0, by simp, Nat.zero_le _⟩, fun h => by cases h⟩⟩, h.turn, fun k hk => ?_, fun k hk => hk.elim⟩
  · have h2 : e = 0 ∨ e = 1 := by omega
    rcases h2 with rfl | rfl
    · exact ⟨hc 1, q2.typed (k := g1) rfl, fun _ => ⟨0, List.replicate (count * size) 0, ⟨hc 2, hc 3, hc 4, hc 5, by omega⟩, by rw [show (([] : List UInt8).length / size : Nat) = 0 from Nat.zero_div _]; exact hc 6, by simp, q2, fun i hi => by simp at hi⟩⟩
    · exact ⟨hc 7, p2.typed (k := g2) rfl, fun _ => ⟨0, List.replicate (count * size) 0, ⟨hc 8, hc 9, hc 10, hc 11, by omega⟩, by rw [show (([] : List UInt8).length / size : Nat) = 0 from Nat.zero_div _]; exact hc 12, by simp, p2, fun i hi => by simp at hi⟩⟩
  · rcases hk with rfl | hk | hk
    · omega
    · simp at hk; omega
    · simp at hk; omega
theorem fnew_no (a b : Int) (w : World) (h : ¬ good a b) : Calls Try.prog 38 #[.int .i64 a, .int .i64 b] w fun x w' => x = .returned (.pointer none) ∧ w = w' := by
  have CP := Lib.hid (fpossible a b w)
  have HG := Lib.hid h
  clear h
  go_enter Try.func38, Try.ntmps38
  go_wp2_with (go_at_call 80; (with_reducible refine CP.out.mono ?_); rintro x w2 ⟨hx, rfl⟩; obtain rfl : x = .returned (.bool false) := hx.elim (fun h => (HG.out h.2).elim) (fun h => h.1))
  go_ret
  exact ⟨rfl, rfl⟩
set_option maxHeartbeats 4000000 in
set_option maxRecDepth 100000 in
theorem fnew_yes (count size : Nat) (w : World) (h : good (count : Int) (size : Int)) : Calls Try.prog 38 #[.int .i64 (count : Int), .int .i64 (size : Int)] w fun x w' => x = .returned (.pointer (some ⟨w.heap.size, 0, none⟩)) ∧ ∃ G, FSt w w' w.heap.size count size (fun _ => ⟨true, []⟩) G NoBlock := by
  have CP := Lib.hid (fpossible (count : Int) (size : Int) w)
  have HG := Lib.hid h
  obtain ⟨i5, hi5, hz5, hs5, hb5⟩ := info_parts infoB
  obtain ⟨B, hB⟩ : ∃ B, count * size = B := ⟨_, rfl⟩
  have hBl : B ≤ 4096 := by
    have := h.2.2.2.2.2
    rw [← Int.natCast_mul, hB] at this
    omega
  have HI := Lib.hid (And.intro hi5 (And.intro hz5 (And.intro hs5 (And.intro hb5 (And.intro hB hBl)))))
  have ew : IntKind.i64.wrap ((count : Int) * (size : Int)) = (B : Int) := by rw [← Int.natCast_mul, hB]; exact wrap_nat _ (by omega)
  obtain ⟨c, hc⟩ : ∃ c, w.heap.size = c := ⟨_, rfl⟩
  clear hi5 hz5 hs5 hb5 hB h hBl
  go_enter Try.func38, Try.ntmps38
  go_wp2_with (go_at_call 80; (with_reducible refine CP.out.mono ?_); rintro x w2 ⟨hx, rfl⟩; obtain rfl : x = .returned (.bool true) := hx.elim (fun h => h.1) (fun h => (h.2 HG.out).elim))
  have START := Lib.hid (show NInv w c count size B none none (w.alloc (.cells (nrow size count B none none) 136)) from ⟨by rw [← hc]; exact heap_alloc_new w _, (fun g h => by rcases h with h | h <;> cases h), .inr rfl, (Turn.refl _ w).alloc _⟩)
  go_loopg [14] 2 (fun z s14 wr => (s14 = .int .i64 0 ∧ z = 2 ∧ Hid (NInv w c count size B none none wr)) ∨ (s14 = .int .i64 1 ∧ z = 1 ∧ ∃ g, Hid (NInv w c count size B (some g) none wr)) ∨ (s14 = .int .i64 2 ∧ z = 0 ∧ ∃ g h, Hid (NInv w c count size B (some g) (some h) wr)))
  case atStart => exact .inl ⟨rfl, rfl, START⟩
  case round =>
    rcases hrel with ⟨rfl, hz, HN⟩ | ⟨rfl, hz, g, HN⟩ | ⟨rfl, hz, g, g2, HN⟩
    · obtain ⟨W1, hm1, ho1, hg1⟩ := run_make_full (P := Try.prog) wr.drew 0 35 5 i5 _ 1 bytesT HI.out.1 HI.out.2.1 HI.out.2.2.1 .i64 .i64 B (by rw [HI.out.2.2.2.1]; have := HI.out.2.2.2.2.2; omega) (by have := HI.out.2.2.2.2.2; unfold maxLen; omega) (Nat.zero_le _)
      have t1 := TT ((Turn.refl NoBlock wr).drew) (turn_grown hg1)
      have hty := made_bytes ho1
      obtain ⟨gb, hgb⟩ : ∃ gb, wr.heap.size = gb := ⟨_, rfl⟩
      rw [show wr.drew.heap.size = gb from hgb] at hm1 hty
      have hcg : c < gb := by rw [← hgb]; exact lt_of_block HN.out.row
      have hr1 := t1.heap HN.out.row (fun h => h)
      have h0 := fun j => cell_at hr1 j
      have hf := fun j => free_at hr1 j
      have hcl : c < W1.heap.size := lt_of_block hr1
      have HNX := Lib.hid (HN.out.next0 (by omega) hcg t1 hty)
      have k0 := h0 1
      have k1 := h0 2
      have k2 := h0 3
      have k3 := h0 4
      have k4 := h0 5
      have k5 := h0 6
      have f0 := hf 1
      have f1 := hf 2
      have f2 := hf 3
      have f3 := hf 4
      have f4 := hf 5
      have f5 := hf 6
      unfold nrow at k0 k1 k2 k3 k4 k5
      simp at k0 k1 k2 k3 k4 k5
      clear t1 hty hr1 h0 hf ho1 hg1
      go_wp2
      go_region
      go_wp2
      go_roundg 1
      case measure => omega
      case rel => exact .inr (.inl ⟨rfl, rfl, _, HNX⟩)
    · obtain ⟨W1, hm1, ho1, hg1⟩ := run_make_full (P := Try.prog) wr.drew 0 35 5 i5 _ 1 bytesT HI.out.1 HI.out.2.1 HI.out.2.2.1 .i64 .i64 B (by rw [HI.out.2.2.2.1]; have := HI.out.2.2.2.2.2; omega) (by have := HI.out.2.2.2.2.2; unfold maxLen; omega) (Nat.zero_le _)
      have t1 := TT ((Turn.refl NoBlock wr).drew) (turn_grown hg1)
      have hty := made_bytes ho1
      obtain ⟨gb, hgb⟩ : ∃ gb, wr.heap.size = gb := ⟨_, rfl⟩
      rw [show wr.drew.heap.size = gb from hgb] at hm1 hty
      have hcg : c < gb := by rw [← hgb]; exact lt_of_block HN.out.row
      have hr1 := t1.heap HN.out.row (fun h => h)
      have h0 := fun j => cell_at hr1 j
      have hf := fun j => free_at hr1 j
      have hcl : c < W1.heap.size := lt_of_block hr1
      have HNX := Lib.hid (HN.out.next1 (by omega) hgb hcg t1 hty)
      have k0 := h0 7
      have k1 := h0 8
      have k2 := h0 9
      have k3 := h0 10
      have k4 := h0 11
      have k5 := h0 12
      have f0 := hf 7
      have f1 := hf 8
      have f2 := hf 9
      have f3 := hf 10
      have f4 := hf 11
      have f5 := hf 12
      unfold nrow at k0 k1 k2 k3 k4 k5
      simp at k0 k1 k2 k3 k4 k5
      clear t1 hty hr1 h0 hf ho1 hg1
      go_wp2
      go_region
      go_wp2
      go_roundg 0
      case measure => omega
      case rel => exact .inr (.inr ⟨rfl, rfl, _, _, HNX⟩)
    · have HF := Lib.hid (ninv_mem (by omega) HN.out HG.out HI.out.2.2.2.2.1)
      rw [← hc] at HF
      go_wp2
      go_ret
      exact ⟨by rw [hc]; rfl, _, HF.out⟩
end Go.Proofs.Ytocaebcbmfejbaa
