/-
  A copy of bytes; bytes laid over others in a slice of the call's own, of any length. No conditions.
-/
import Derived.Test.YtdhbhigoboamfaaVSnapM
import Derived.Test.YtdhbhigoboamfaaVRead2
namespace Go.Proofs.Ytdhbhigoboamfaa
open Go.ChangeShapes Go.WideShapes Go.ChangeAt Go.RowKit

set_option maxRecDepth 20000 in
theorem copy7_any (w : World) (g c n : Nat) (bs : List UInt8) (hl : bs.length = n) (h0 : 0 < n) (hn : n ≤ 4096) (hs : Byts (.slice (some ⟨g, 0, none⟩) n c) bs w) :
    Calls Try.prog 22 #[.slice (some ⟨g, 0, none⟩) n c] w fun e w' => ∃ g' c', e = .returned (.slice (some ⟨g', 0, none⟩) n c') ∧ Byts (.slice (some ⟨g', 0, none⟩) n c') bs w' ∧ w.heap.size ≤ g' ∧ Turn NoBlock w w' := by
  obtain ⟨iv, hi5, hz0, hz1, hz2⟩ := info_parts info5
  obtain ⟨g0, c0, hv, -, hnews⟩ := byts_news hs hl h0
  simp only [Value.slice.injEq, Option.some.injEq, Addr.mk.injEq, true_and, and_true] at hv
  obtain ⟨rfl, rfl⟩ := hv
  have HN := Lib.hid hnews
  have q1 : 0 + n ≤ maxLen := by unfold maxLen; omega
  have q2 : (0 + n) * 1 ≤ 140737488355328 := by omega
  have HQ := Lib.hid (And.intro q1 q2)
  have HL := Lib.hid hl
  have H0 := Lib.hid h0
  clear hs hl hnews hn q1 q2 h0
  go_enter Try.func22, Try.ntmps22
  go_wp2_with (at_builtin; refine wpList_append_lies _ rfl (.tmp 4) (.tmp 5) 22 rfl 0 5 iv _ 1 1 bytes31 hi5 hz0 hz1 hz2 rfl (by decide) (.slice none 0 0) 0 [] rfl (World.ownsRow_nil _ _ _ _) ⟨g, 0, none⟩ n c (bcells bs) rfl (by rw [bcells_len, HL.out, Nat.mul_one]) HN.out (bcells_one _) H0.out HQ.out.1 HQ.out.2 (Nat.zero_le _) _ rfl ?_; intro g6 c6 w6 hown hgrow hat hlt6; rw [Nat.zero_add] at hown ⊢; have K6 := Lib.hid (And.intro hown (And.intro hgrow hat)); clear hown hgrow hat hlt6)
  go_ret
  obtain ⟨k1, k2, k3⟩ := K6.out
  refine ⟨g6, c6, rfl, ?_, ?_, (Turn.refl NoBlock w).grown k2 (fun k e => by cases e)⟩
  · unfold Byts
    rw [HL.out]
    simpa using k1
  · rcases k3 with k3 | k3
    · cases k3
    · omega

theorem byts_cap {w : World} {g n c : Nat} {bs : List UInt8} (h : Byts (.slice (some ⟨g, 0, none⟩) n c) bs w) (hl : bs.length = n) : n ≤ c := by
  unfold Byts at h
  rw [hl] at h
  rcases h.2 with ⟨h1, _⟩ | ⟨g', cap, cur, h1, h2⟩
  · cases h1
  · simp only [Value.slice.injEq, Option.some.injEq, Addr.mk.injEq, true_and, and_true] at h1
    obtain ⟨rfl, rfl⟩ := h1
    omega

/-- Bytes laid over others, in a slice of the call's own. -/
theorem copy_in8 (w : World) (gw o m n sc dc N c : Nat) (D sp : Option Addr) (xs bs : List UInt8) (hD : 0 < n → D = some ⟨gw, o, none⟩) (hm : n ≤ m) (hb : o + n ≤ N) (hx : xs.length = N) (hbl : bs.length = n) (hv : Src w (.slice sp n sc) bs)
    (hown : Byts (.slice (some ⟨gw, 0, none⟩) N c) xs w) :
    ∃ W, (∀ ty, (Builtin.copy_ #[22, 22] ty #[.slice D m dc, .slice sp n sc]).run Try.prog w = .ok (goInt n) W) ∧ Byts (.slice (some ⟨gw, 0, none⟩) N c) (putB xs o bs) W ∧ Turn (fun j => j = gw) w W := by
  have hl : (putB xs o bs).length = N := by rw [putB_len (by omega), hx]
  unfold Byts at hown ⊢
  rw [hx] at hown
  have hput := own_putAt (bcells bs) o w (bcells xs) hown (by rw [bcells_len, bcells_len, hx, hbl]; omega)
  have e : putAt (bcells xs) o (bcells bs) = bcells (putB xs o bs) := by
    unfold putAt putB
    rw [bcells_len]
    simp [bcells]
  rw [e] at hput
  rw [hl]
  refine ⟨w.setCells gw o (bcells bs), fun ty => ?_, hput, turn_setCells (F := fun j => j = gw) rfl _ _ _ _ (Turn.refl _ _)⟩
  by_cases h0 : n = 0
  · subst h0
    obtain rfl : bs = [] := List.eq_nil_of_length_eq_zero hbl
    exact run_copy_none (P := Try.prog) w 22 22 ty 5 D sp m dc 0 sc bytes31 elem5 (Nat.zero_min _)
  · rw [hD (by omega)]
    rcases hv with ⟨h1, h2⟩ | ⟨g', off, c, h1, h2⟩
    · subst h2; simp at hbl; omega
    · simp only [Value.slice.injEq] at h1
      obtain ⟨rfl, -, rfl⟩ := h1
      have := run_copy_cells (P := Try.prog) w 22 22 ty 5 gw o m dc ⟨g', off, none⟩ n sc (bcells bs) bytes31 elem5 (by rw [bcells_len, hbl]; exact (Nat.min_eq_left (by omega)).symm) (fun j v hj => ?_) (fun j hj => ?_) (fun j _ => hown.frozenAt _) (bcells_one bs)
      · rw [bcells_len, hbl] at this
        exact this
      · have hlt : j < bs.length := by
          have := (List.getElem?_eq_some_iff.1 hj).1
          rwa [bcells_len] at this
        rw [Addr.add_mid, h2 j hlt, ← hj]
        simp [bcells, List.getD, List.getElem?_eq_getElem hlt]
      · rw [bcells_len, hbl] at hj
        rw [hown.cellAt (o + j) (by omega), List.getElem?_eq_getElem (by rw [bcells_len]; omega)]; rfl
theorem win_from8 (g b N c : Nat) (hb : b < N) (hN : N ≤ c) : ∀ w, Sem.run Try.prog (Instr.slice 22 (.slice (some ⟨g, 0, none⟩) N c) (some (.int .i64 (b : Int))) none none) w = .ok (.slice (some ⟨g, b, none⟩) (N - b) (c - b)) w := fun w => by
  have ht : Try.prog.underlying 22 = some (.slice (Try.prog.elem 22)) := by kernel_rfl
  have hsz : (sizeOf (Try.prog.elem 22)).run Try.prog w = .ok 1 w := by kernel_rfl
  have := run_slice_l (P := Try.prog) w 22 (some ⟨g, 0, none⟩) N c ht .i64 (b : Int) (by omega) (by omega)
  rw [hsz] at this
  simp only [Result.andThen, Int.toNat_natCast] at this
  rw [this]
  have h0 : ¬ c = b := by omega
  simp [sliced, h0, Addr.add]
  try omega
/-- Bytes of the call's own and what a call does to others. -/
theorem Byts.beside8 {w w' : World} {g n c : Nat} {F : Nat → Prop} {bs : List UInt8} (h : Byts (.slice (some ⟨g, 0, none⟩) n c) bs w) (t : Turn F w w') (hn : ¬ F g) : Byts (.slice (some ⟨g, 0, none⟩) n c) bs w' :=
  (own_byts _ bs).kept _ _ _ h t (fun j hj e => by
    simp [Blk, Value.ownBlock] at hj
    subst hj; exact hn e)
theorem src_from {w : World} {g b n c : Nat} {bs : List UInt8} (h : Byts (.slice (some ⟨g, 0, none⟩) n c) bs w) (hl : bs.length = n) (hb : b < n) (c' : Nat) : Src w (.slice (some ⟨g, b, none⟩) (n - b) c') (bs.drop b) := by
  obtain ⟨g0, c0, hv, -, hnews⟩ := byts_news h hl (by omega)
  simp only [Value.slice.injEq, Option.some.injEq, Addr.mk.injEq, true_and, and_true] at hv
  obtain ⟨rfl, rfl⟩ := hv
  refine .inr ⟨g, b, c', by rw [List.length_drop, hl], fun j hj => ?_⟩
  rw [List.length_drop] at hj
  have h2 := hnews (b + j) (.int .u8 ((bs.getD (b + j) 0).toNat : Int)) (by
    unfold bcells
    rw [List.getElem?_map, List.getElem?_eq_getElem (by omega)]
    simp [List.getD, List.getElem?_eq_getElem (show b + j < bs.length by omega)])
  rw [add_plain] at h2
  rw [← show b + j = b + j from rfl]
  have e : (bs.drop b).getD j 0 = bs.getD (b + j) 0 := by simp [List.getD, List.getElem?_drop]
  rw [e]
  simpa using h2
end Go.Proofs.Ytdhbhigoboamfaa
