/-
  What awake answers. No conditions.
-/
import Derived.Test.YtcbphfpfdfgehaaCTake
import Derived.Laws.IdiomStrings
import Derived.Lib.SlBytesConst
namespace Go.Proofs.Ytcbphfpfdfgehaa
open Go.ChangeShapes Go.WideShapes Go.ChangeAt Go.RowKit

theorem ch_str : Try.prog.underlying 9 = some .string := by kernel_rfl
theorem ch_bytes : Try.prog.underlying 35 = some (.slice 5) := by kernel_rfl
theorem conv_hi (w : World) (x y : Int) : Sem.run Try.prog (convert 35 35 (.slice (some ⟨w.heap.size, 0, none⟩) 2 2)) (w.alloc (.cells #[.int .u8 x, .int .u8 y] 5)) = .ok (.slice (some ⟨w.heap.size, 0, none⟩) 2 2) (w.alloc (.cells #[.int .u8 x, .int .u8 y] 5 (2, 3))) :=
  Lib.run_convert_bytes_const w 35 5 #[.int .u8 x, .int .u8 y] 2 2 ch_bytes (by kernel_rfl)
theorem rd_hi (w : World) : RdB ((w.alloc (.cells #[.int .u8 104, .int .u8 105] 5 (2, 3))).alloc (.cells #[.int .i64 5] 3)) (.slice (some ⟨w.heap.size, 0, none⟩) 2 2) [104, 105] := by
  refine Rd.past ?_ ((Turn.refl NoBlock _).alloc _)
  refine ⟨rfl, _, 2, rfl, (fun h => by cases h), fun a ha => ?_⟩
  cases ha
  refine ⟨_, 0, rfl, fun j hj => ?_⟩
  rw [Nat.zero_add, World.cell?_alloc_mark]
  have : j = 0 ∨ j = 1 := by simp at hj; omega
  rcases this with rfl | rfl <;> rfl
theorem rd_five (w : World) : RdI ((w.alloc (.cells #[.int .u8 104, .int .u8 105] 5 (2, 3))).alloc (.cells #[.int .i64 5] 3)) (.slice (some ⟨w.heap.size + 1, 0, none⟩) 1 1) [5] := by
  have := rd_new (w.alloc (.cells #[.int .u8 104, .int .u8 105] 5 (2, 3))) 3 1 #[.int .i64 5] rfl
  exact (by simpa using this : Rd _ 1 (.slice (some ⟨w.heap.size + 1, 0, none⟩) 1 1) 1 [.int .i64 5])
def hiM : Msg := ⟨7, [104, 105], [5]⟩
def hK0 : Nat → MS := fun _ => ⟨true, [], []⟩
def hK1 : Nat → MS := updN hK0 1 ⟨true, [hiM], []⟩
def hK2 : Nat → MS := updN hK1 1 ⟨true, [], []⟩
theorem back_hi {w : World} {v : Value} (h : Byts v [104, 105] w) : ∃ g o c, v = .slice (some ⟨g, o, none⟩) 2 c ∧ Sem.run Try.prog (convert 35 9 v) w = .ok (.string ⟨#[104, 105]⟩) w := by
  rcases h.form with ⟨-, h0⟩ | ⟨g, o, c, rfl, h1, h2, h3, h4, h5⟩
  · simp at h0
  · refine ⟨g, o, c, rfl, ?_⟩
    exact run_convert_bytes_back w 35 9 5 ⟨g, o, none⟩ c [104, 105] ch_bytes (by kernel_rfl) ch_str (fun j hj => by
      rw [Addr.add_lit]
      have := h4 j (by simpa using hj)
      rw [this]
      have : j = 0 ∨ j = 1 := by simp at hj; omega
      rcases this with rfl | rfl <;> rfl)
theorem hi_write {w0 W : World} {c : Nat} (h : CSt w0 W c 2 0 hK0 NoBlock) (va vb : Value) (hd : RdB W va [104, 105]) (hh : RdI W vb [5]) : Calls Try.prog 36 #[.pointer (some ⟨c, 0, none⟩), .int .i64 0, .agg #[.int .i64 7, va, vb]] W fun x w' => x = .returned (.tuple #[.int .i64 (-1), .int .i64 0]) ∧ CSt w0 w' c 2 1 hK1 NoBlock :=
  (CSt.put0 h (by omega) rfl rfl hiM ⟨by decide, by decide⟩ (fun t ht => by simp [hK0] at ht) (by simp [hK0]) va vb hd hh).mono (fun x w' h => ⟨h.1, h.2.1⟩)
theorem hi_read {w0 W : World} {c : Nat} (h : CSt w0 W c 2 1 hK1 NoBlock) : Calls Try.prog 37 #[.pointer (some ⟨c, 0, none⟩), .int .i64 1, .int .i64 2, .int .i64 1] W fun x w' => ∃ g o ca p cb, x = .returned (.tuple #[.agg #[.int .i64 7, .slice (some ⟨g, o, none⟩) 2 ca, .slice p 1 cb], .int .i64 0]) ∧ CSt w0 w' c 2 1 hK2 NoBlock ∧
    ∀ W', Turn NoBlock w' W' → Sem.run Try.prog (convert 35 9 (.slice (some ⟨g, o, none⟩) 2 ca)) W' = .ok (.string ⟨#[104, 105]⟩) W' :=
  (CSt.take1 h (by omega) rfl 2 1 (by omega) (by omega) hiM [] rfl (by decide) (by decide)).mono (by
    rintro x w' ⟨⟨m, va, vb⟩, rfl, hm, hok, hc, -, -⟩
    dsimp only at hm
    subst hm
    obtain ⟨p, cb, hvb⟩ := hok.h.sl
    obtain ⟨g, o, ca, hva, -⟩ := back_hi hok.d
    dsimp only at hvb hva
    subst hvb hva
    refine ⟨g, o, ca, p, cb, rfl, hc.fewer (fun k hk => hk.elim), fun W' t => ?_⟩
    obtain ⟨g', o', c', he, hr⟩ := back_hi (Byts.past hok.d t)
    exact hr)
theorem hi_shows {w0 W : World} {c : Nat} (h : CSt w0 W c 2 1 hK2 NoBlock) : Calls Try.prog 16 #[.pointer (some ⟨c, 0, none⟩), .int .i64 0] W fun x w' => x = .returned (.int .i64 2) ∧ Turn NoBlock W w' :=
  (CSt.shows0 h (by omega)).mono (fun x w' h => ⟨h.1, h.2⟩)
set_option maxRecDepth 20000 in
set_option maxHeartbeats 1000000 in
theorem awake11 (w : World) : Calls Try.prog 10 #[] w fun e w' => e = .returned (.bool true) ∧ Turn NoBlock w w' := by
  have c1 : Calls Try.prog 9 #[.int .i64 2] w fun x w' => x = .returned (.pointer (some ⟨w.heap.size, 0, none⟩)) ∧ CSt w w' w.heap.size 2 0 hK0 NoBlock := cst_new 2 w (by omega) (by omega)
  have hcv := conv_hi
  go_enter Try.func10, Try.ntmps10
  go_wp2_with (first
    | (go_at_call 16; (with_reducible refine (hi_shows (K3.out.past (by first | exact Turn.refl _ _ | exact (Turn.refl NoBlock _).alloc _))).mono ?_); rintro x w4 ⟨rfl, t4⟩)
    | (go_at_call 37; (with_reducible refine (hi_read K2.out).mono ?_); rintro x w3 ⟨g, o, ca, p, cb, rfl, k3, r3⟩; have r3' := fun cs ty => r3 (w3.alloc (.cells cs ty)) ((Turn.refl NoBlock _).alloc _); have K3 := Lib.hid k3; clear k3 r3)
    | (go_at_call 36; (with_reducible refine (hi_write (K1.out.past (((Turn.refl NoBlock _).alloc _).alloc _)) _ _ (rd_hi _) (rd_five _)).mono ?_); rintro x w2 ⟨rfl, k2⟩; have K2 := Lib.hid k2; clear k2)
    | (go_at_call 9; (with_reducible refine c1.mono ?_); rintro x w1 ⟨rfl, k1⟩; have K1 := Lib.hid k1; clear k1))
  go_ret
  exact ⟨rfl, TT (TT K3.out.turn ((Turn.refl NoBlock _).alloc _)) t4⟩
end Go.Proofs.Ytcbphfpfdfgehaa
