/-
  What Read answers where it is refused at once; a channel made; how many messages wait, is an end open, what does it show, all handles. No conditions but that the channel is one that calls can make.
-/
import Derived.Test.YtcbphfpfdfgehaaCRead
namespace Go.Proofs.Ytcbphfpfdfgehaa
open Go.ChangeShapes Go.WideShapes Go.ChangeAt Go.RowKit

theorem read_bad {w : World} {c : Nat} (e b h : Int) (h0 : e ≠ 0) (h1 : e ≠ 1) :
    Calls Try.prog 37 #[.pointer (some ⟨c, 0, none⟩), .int .i64 e, .int .i64 b, .int .i64 h] w fun x w' => x = .returned (.tuple #[.agg #[.int .i64 0, .slice none 0 0, .slice none 0 0], .int .i64 (-10)]) ∧ Turn NoBlock w w' := by
  have HC := Lib.hid (fun W => right_bad c e W h0 h1)
  clear h0 h1
  go_enter Try.func37, Try.ntmps37
  go_wp2_with (go_at_call 48; (with_reducible refine (HC.out _).mono ?_); rintro x w' ⟨rfl, rfl⟩)
  refine bodyPost_ret (v := .tuple #[.agg #[.int .i64 0, .slice none 0 0, .slice none 0 0], .int .i64 (-10)]) (by rw [results_cc rfl]; go_simp) rfl ⟨rfl, ?_⟩
  exact ((((Turn.refl _ _).alloc _).alloc _).alloc _).alloc _

section
variable {w : World} {c depth N : Nat} {S : Nat → Sd} {V : Nat → SV}
theorem read_shut (hC : CMem w c depth N S V) {e : Nat} (he : e < 2) (ho : (S e).op = false) (b h : Int) :
    Calls Try.prog 37 #[.pointer (some ⟨c, 0, none⟩), .int .i64 (e : Int), .int .i64 b, .int .i64 h] w fun x w' => x = .returned (.tuple #[.agg #[.int .i64 0, .slice none 0 0, .slice none 0 0], .int .i64 (-24)]) ∧ Turn NoBlock w w' := by
  have HC := Lib.hid (fun W (t : Turn NoBlock w W) => right_no (hC.past t) he ho)
  clear hC he ho
  go_enter Try.func37, Try.ntmps37
  go_wp2_with (go_at_call 48; (with_reducible refine (HC.out _ (((((Turn.refl _ _).alloc _).alloc _).alloc _).alloc _)).mono ?_); rintro x w' ⟨rfl, rfl⟩)
  refine bodyPost_ret (v := .tuple #[.agg #[.int .i64 0, .slice none 0 0, .slice none 0 0], .int .i64 (-24)]) (by rw [results_cc rfl]; go_simp) rfl ⟨rfl, ?_⟩
  exact ((((Turn.refl _ _).alloc _).alloc _).alloc _).alloc _
theorem read_neg (hC : CMem w c depth N S V) {e : Nat} (he : e < 2) (ho : (S e).op = true) (b h : Int) (hn : b < 0 ∨ h < 0) :
    Calls Try.prog 37 #[.pointer (some ⟨c, 0, none⟩), .int .i64 (e : Int), .int .i64 b, .int .i64 h] w fun x w' => x = .returned (.tuple #[.agg #[.int .i64 0, .slice none 0 0, .slice none 0 0], .int .i64 (-10)]) ∧ Turn NoBlock w w' := by
  have HC := Lib.hid (fun W (t : Turn NoBlock w W) => right_yes (hC.past t) he ho)
  have hcase : (b ≤ h ∧ b < 0) ∨ (h < b ∧ h < 0) := by omega
  clear hC he ho hn
  rcases hcase with ⟨h1, h2⟩ | ⟨h1, h2⟩
  all_goals
    go_enter Try.func37, Try.ntmps37
    go_wp2_with (go_at_call 48; (with_reducible refine (HC.out _ (((((Turn.refl _ _).alloc _).alloc _).alloc _).alloc _)).mono ?_); rintro x w' ⟨rfl, rfl⟩)
    refine bodyPost_ret (v := .tuple #[.agg #[.int .i64 0, .slice none 0 0, .slice none 0 0], .int .i64 (-10)]) (by rw [results_cc rfl]; go_simp) rfl ⟨rfl, ?_⟩
    exact ((((Turn.refl _ _).alloc _).alloc _).alloc _).alloc _

theorem z0 : ((0 : Nat) : Int) = 0 := rfl
theorem z1 : ((1 : Nat) : Int) = 1 := rfl
def sOpen : Sd := ⟨true, [], [], []⟩
theorem new_no (d : Int) (w : World) (h : d < 1 ∨ 65536 < d) : Calls Try.prog 9 #[.int .i64 d] w fun x w' => x = .returned (.pointer none) ∧ w = w' := by
  have h2 : d < 1 ∨ (¬ d < 1 ∧ 65536 < d) := by omega
  rcases h2 with h1 | ⟨h1, h2⟩
  all_goals
    clear h
    go_enter Try.func9, Try.ntmps9
    go_wp2
    go_ret
    exact ⟨rfl, rfl⟩
theorem new_yes (d : Nat) (w : World) (h1 : 1 ≤ d) (h2 : d ≤ 65536) : Calls Try.prog 9 #[.int .i64 (d : Int)] w fun x w' => x = .returned (.pointer (some ⟨w.heap.size, 0, none⟩)) ∧
    CMem w' w.heap.size d 0 (fun _ => sOpen) (fun _ => SV.cl) ∧ (∀ k, CFoot w.heap.size (fun _ => sOpen) (fun _ => SV.cl) k → w.heap.size ≤ k) ∧ Turn NoBlock w w' := by
  have g1 : ¬ (d : Int) < 1 := by omega
  have g2 : ¬ (65536 : Int) < d := by omega
  have H := Lib.hid (And.intro h1 h2)
  clear h1 h2
  go_enter Try.func9, Try.ntmps9
  go_wp2
  go_ret
  refine ⟨rfl, ?_, fun k hk => ?_, (Turn.refl _ _).alloc _⟩
  · have h0 := heap_alloc_new w (.cells #[.int .i64 d, .bool true, .slice none 0 0, .slice none 0 0, .slice none 0 0, .bool true, .slice none 0 0, .slice none 0 0, .slice none 0 0] 88)
    have hc := fun j => cell_at h0 j
    have hs : ∀ e, e < 2 → SAt (w.alloc (.cells #[.int .i64 d, .bool true, .slice none 0 0, .slice none 0 0, .slice none 0 0, .bool true, .slice none 0 0, .slice none 0 0, .slice none 0 0] 88)) w.heap.size (plc e) sOpen SV.cl := fun e he => by
      have h2 : e = 0 ∨ e = 1 := by omega
      rcases h2 with rfl | rfl
      · exact ⟨⟨_, h0⟩, hc 1, hc 2, hc 3, hc 4, wrow_nil _ _ _, wrow_nil _ _ _, wrow_nil _ _ _, fun k hk => (blk_nil k hk).elim, fun q hq => by simp [sOpen] at hq⟩
      · exact ⟨⟨_, h0⟩, hc 5, hc 6, hc 7, hc 8, wrow_nil _ _ _, wrow_nil _ _ _, wrow_nil _ _ _, fun k hk => (blk_nil k hk).elim, fun q hq => by simp [sOpen] at hq⟩
    exact ⟨hc 0, hs, fun k hk => (hk.elim (fun h => blk_nil k h) (fun h => blk_nil k h)).elim, fun k hk => (blk_nil k hk).elim, by simp [allQ, sOpen], H.out.1, H.out.2, fun e he => by simp [sOpen], fun e he h => by simp [sOpen] at h⟩
  · rcases hk with rfl | ⟨e, he, (hk | hk | hk) | ⟨q, hq, hk⟩⟩
    · exact Nat.le_refl _
    · exact (blk_nil k hk).elim
    · exact (blk_nil k hk).elim
    · exact (blk_nil k hk).elim
    · simp [sOpen] at hq

theorem len_bad (c : Nat) (e : Int) (w : World) (h0 : e ≠ 0) (h1 : e ≠ 1) : Calls Try.prog 14 #[.pointer (some ⟨c, 0, none⟩), .int .i64 e] w fun x w' => x = .returned (.int .i64 0) ∧ w = w' := by
  have cR := right_bad c e w h0 h1
  clear h0 h1
  go_enter Try.func14, Try.ntmps14
  go_wp2_with (go_at_call 48; (with_reducible refine cR.mono ?_); rintro x w' ⟨rfl, rfl⟩)
  go_ret
  exact ⟨rfl, rfl⟩
theorem ms_len {s : Sd} : s.ms.q.length = s.an.length + s.ot.length := by simp [Sd.ms, Sd.q]
theorem ms_cl : Sd.cl.ms = ⟨false, [], []⟩ := rfl
theorem len_any (hC : CMem w c depth N S V) (hN : N ≤ 1000000) {e : Nat} (he : e < 2) : Calls Try.prog 14 #[.pointer (some ⟨c, 0, none⟩), .int .i64 (e : Int)] w fun x w' => x = .returned (.int .i64 ((planeOf S e).q.length : Nat)) ∧ Turn NoBlock w w' := by
  cases ho : (S e).op with
  | false =>
    have cR := right_no hC he ho
    have e1 : (planeOf S e).q.length = 0 := by show (S e).ms.q.length = 0; rw [hC.cl e he ho, ms_cl]; rfl
    rw [e1]
    clear hC he ho e1
    go_enter Try.func14, Try.ntmps14
    go_wp2_with (go_at_call 48; (with_reducible refine cR.mono ?_); rintro x w' ⟨rfl, rfl⟩)
    go_ret
    exact ⟨rfl, Turn.refl _ _⟩
  | true =>
    have cR := right_yes hC he ho
    have hl := hC.len e he
    have cC := count_any (hC.s e he) (by omega) (by omega)
    have e1 : (planeOf S e).q.length = (S e).ms.q.length := rfl
    rw [e1]
    clear hC ho e1 hl
    generalize (S e).ms.q.length = n at *
    have h2 : e = 0 ∨ e = 1 := by omega
    rcases h2 with rfl | rfl
    all_goals
      simp only [plc, Nat.reduceMul, Nat.reduceAdd] at cC
      (first | rw [z0] at cR | rw [z1] at cR)
      go_enter Try.func14, Try.ntmps14
      go_wp2_with (first | (go_at_call 48; (with_reducible refine cR.mono ?_); rintro x w' ⟨rfl, rfl⟩) | (go_at_call 51; (with_reducible refine cC.mono ?_); rintro x w' ⟨rfl, m, rfl⟩))
      go_ret
      exact ⟨rfl, (Turn.refl _ _).drewN _⟩
theorem hsOf_len : ∀ (l : List QM), (∀ q ∈ l, q.m.h.length ≤ 64) → (hsOf l).length ≤ 64 * l.length
  | [], _ => by simp [hsOf]
  | q :: l, h => by
    have h1 := h q (by simp)
    have h2 := hsOf_len l (fun p hp => h p (by simp [hp]))
    have e : hsOf (q :: l) = q.m.h ++ hsOf l := rfl
    rw [e, List.length_append, List.length_cons]
    omega
set_option maxRecDepth 20000 in
theorem handles_any (hC : CMem w c depth N S V) (hN : N ≤ 100000) : Calls Try.prog 20 #[.pointer (some ⟨c, 0, none⟩)] w fun x w' => ∃ u, x = .returned u ∧ Nums u (hsOf (S 0).q ++ hsOf (S 1).q) w' ∧ (∀ k, Blk u k → w.heap.size ≤ k) ∧ Turn NoBlock w w' := by
  have H0 := Lib.hid (fun W (t : Turn NoBlock w W) => show Calls Try.prog 55 #[.pointer (some ⟨c, 1, none⟩)] W _ from shandles_any ((hC.past t).s 0 (by omega)) (by have := (hC.len 0 (by omega)).1; omega) (by have := (hC.len 0 (by omega)).2.1; omega))
  have H1 := Lib.hid (fun W (t : Turn NoBlock w W) => show Calls Try.prog 55 #[.pointer (some ⟨c, 5, none⟩)] W _ from shandles_any ((hC.past t).s 1 (by omega)) (by have := (hC.len 1 (by omega)).1; omega) (by have := (hC.len 1 (by omega)).2.1; omega))
  have cl := (hC.s 0 (by omega)).typ.lt
  have hsl : ∀ e, e < 2 → (hsOf (S e).q).length ≤ 64 * (2 * N) := fun e he => by
    have h1 := hC.len e he
    have h2 := hsOf_len (S e).q (fun q hq => ((hC.s e he).ok q (by unfold Sd.q at hq; simpa using hq)).fits.2)
    have h3 : (S e).q.length = (S e).an.length + (S e).ot.length := by simp [Sd.q]
    omega
  clear hC
  obtain ⟨i3, hi3, hz3, hs3, hb3⟩ := info_parts infoI
  have l0 := hsl 0 (by omega)
  have l1 := hsl 1 (by omega)
  have L := Lib.hid (And.intro (show (hsOf (S 0).q).length + (hsOf (S 1).q).length ≤ maxLen by unfold maxLen; omega) (show ((hsOf (S 0).q).length + (hsOf (S 1).q).length) * 8 ≤ 140737488355328 by omega))
  clear l0 l1
  clear hsl hN
  go_enter Try.func20, Try.ntmps20
  go_wp2_with fail
  go_region_held3 (fun _ => True) (trivial)
    (first
      | (go_at_call 55; (with_reducible refine (H0.out _ (by first | exact T1.out | exact (Turn.refl _ _).drew)).mono ?_); rintro x W0 ⟨u0, rfl, n0, f0, t0⟩; obtain ⟨pa, ca, rfl⟩ := n0.sl; have T0 := Lib.hid (show Turn NoBlock w W0 by first | exact t0 | exact TT (Turn.refl NoBlock w).drew t0 | exact TT T1.out t0 | exact TT T1.out.drew t0); have N0 := Lib.hid (And.intro n0 (And.intro f0 t0)); clear n0 f0 t0)
      | (go_at_call 55; (with_reducible refine (H1.out _ (by first | exact T0.out | exact (Turn.refl _ _).drew)).mono ?_); rintro x W1 ⟨u1, rfl, n1, f1, t1⟩; obtain ⟨pb, cb, rfl⟩ := n1.sl; have T1 := Lib.hid (show Turn NoBlock w W1 by first | exact t1 | exact TT (Turn.refl NoBlock w).drew t1 | exact TT T0.out t1 | exact TT T0.out.drew t1); have N1 := Lib.hid (And.intro n1 (And.intro f1 t1)); clear n1 f1 t1)
      | (refine step_append_w rfl (.tmp 7) (.tmp 12) 36 36 rfl (show WRow _ 3 1 _ (hsOf (S 0).q).length (icells (hsOf (S 0).q)) from by first | exact N0.out.1.past N1.out.2.2 | exact N0.out.1) i3 _ 8 intsT hi3 hz3 hs3 hb3 rfl (by rfl) (by rfl) (Rd.src (Nums.rd (show Nums _ (hsOf (S 1).q) _ from by first | exact N1.out.1 | exact N1.out.1.past N0.out.2.2)) 36 3 intsT (icells_one _)) L.out.1 L.out.2 ?_; intro v2 W2 r2 t2 k2; obtain ⟨p2, c2, rfl⟩ := r2.sl; have R2 := Lib.hid (And.intro r2 (And.intro t2 k2)); clear r2 t2 k2))
  all_goals
    go_wp2
    go_ret
    refine ⟨_, rfl, ?_, fun k hk => ?_, ?_⟩
    · have h1 := R2.out.1
      unfold Nums
      rw [List.length_append]
      unfold icells at h1 ⊢
      rw [List.map_append]
      exact h1
    · rcases R2.out.2.2 k hk with h | h
      · have h2 := N0.out.2.1 k h
        first | exact h2 | (have := T1.out.size; omega)
      · have := T1.out.size
        have := T0.out.size
        omega
    · first
        | exact T1.out.trans R2.out.2.1 (fun k hk => .inr (by have := N0.out.2.1 k hk; first | exact this | (have := T1.out.size; omega)))
        | exact T0.out.trans R2.out.2.1 (fun k hk => .inr (by have := N0.out.2.1 k hk; first | exact this | (have := T1.out.size; omega)))
end
end Go.Proofs.Ytcbphfpfdfgehaa
