/-
  A task with nothing alive below it becomes dead: end. Conditions: the tree lies in memory.
-/
import Derived.Test.YtabakjimlndhcaaTkFind
namespace Go.Proofs.Ytabakjimlndhcaa
open Go.ChangeShapes Go.WideShapes Go.ChangeAt Go.RowKit

section
variable {w w' : World} {c n p q j i : Nat} {most code : Int} {T T' : Nat → Tk} {sv : Value} {B : Nat → Nat} {V : Nat → Value} {G G' : Nat → Nat}
def endW (w : World) (c : Nat) (l : Int) (b : Nat) (code : Int) : World := ((w.setCell ⟨b, 2, none⟩ (.int .i64 2)).setCell ⟨b, 3, none⟩ (.int .i64 code)).setCell ⟨c, 1, none⟩ (.int .i64 l)
theorem endW_turn (_h : KMem w c most n T sv B V G) (hp : p < n) (l : Int) : Turn (KCore c n B) w (endW w c l (B p) code) :=
  (((Turn.refl _ w).setCell (.inl (.inr ⟨p, hp, rfl⟩)) _).setCell (.inl (.inr ⟨p, hp, rfl⟩)) _).setCell (.inl (.inl rfl)) _
theorem endW_heap (h : KMem w c most n T sv B V G) (hp : p < n) (l code : Int) :
    (endW w c l (B p) code).heap[c]? = some (.cells #[.int .i64 most, .int .i64 l, sv] 125 (0, 0)) ∧ (endW w c l (B p) code).heap[B p]? = some (.cells (tkc ((T p).dead code) (V p) (G p) (liveK T n p)) 136 (0, 0)) ∧
    ∀ j, j < n → j ≠ p → (endW w c l (B p) code).heap[B j]? = some (.cells (tkc (T j) (V j) (G j) (liveK T n j)) 136 (0, 0)) := by
  have hbc : B p ≠ c := ((h.bt hp).unlike h.ct (by decide))
  unfold endW
  refine ⟨?_, ?_, fun j hj hne => ?_⟩
  · have h1 := set_past (p := ⟨B p, 3, none⟩) (set_past (p := ⟨B p, 2, none⟩) h.head (fun e => hbc e.symm) (.int .i64 2)) (fun e => hbc e.symm) (.int .i64 code)
    simpa using set_at h1 1 (.int .i64 l)
  · have h1 := set_at (set_at (h.obj p hp) 2 (.int .i64 2)) 3 (.int .i64 code)
    have h2 := set_past (p := ⟨c, 1, none⟩) h1 hbc (.int .i64 l)
    simpa [tkc, Tk.dead] using h2
  · have hne' : B j ≠ B p := fun e => hne (h.inj j p hj hp e)
    have hjc : B j ≠ c := ((h.bt hj).unlike h.ct (by decide))
    exact set_past (p := ⟨c, 1, none⟩) (set_past (p := ⟨B p, 3, none⟩) (set_past (p := ⟨B p, 2, none⟩) (h.obj j hj) hne' (.int .i64 2)) hne' (.int .i64 code)) hjc (.int .i64 l)
theorem end_gone (h : KMem w c most n T sv B V G) (p : Nat) (code : Int) : ∀ j, j < n → G j ≤ (kidL T n j).length ∧ ∀ (i q : Nat), i < G j → (kidL T n j)[i]? = some q → (endT T code p q).st = 2 :=
  fun j hj => ⟨(h.gone j hj).1, fun i q hi hq => (endT_dead T code p q).2 (.inr ((h.gone j hj).2 i q hi hq))⟩
theorem not_kid (h : (T p).par ≠ (j : Int) + 1) : p ∉ kidL T n j := fun hm => h (mem_kidL.1 hm).2
theorem endT_at (T : Nat → Tk) (code : Int) (p j : Nat) : endT T code p j = if j = p then (T p).dead code else T j := rfl
/-- Behind the stores, where nothing stands above it. -/
theorem KMem.end0 (h : KMem w c most n T sv B V G) (hp : p < n) (ha : (T p).st ≠ 2) (h0 : (T p).par = 0) (code : Int) : KMem (endW w c ((liveN T n : Int) - 1) (B p) code) c most n (endT T code p) sv B V G := by
  obtain ⟨e1, e2, e3⟩ := endW_heap h hp ((liveN T n : Int) - 1) code
  have hl := live_end hp ha code
  refine h.turned (endW_turn h hp _) (fun j => (endT_par T code p j).1) ?_ (fun j hj => ?_) (end_gone h p code)
  · rw [e1, show ((liveN T n : Int) - 1) = (liveN (endT T code p) n : Int) by omega]
  · rw [live_kid_other (not_kid (by omega))]
    by_cases hjp : j = p
    · subst hjp; rw [endT_same]; exact e2
    · rw [endT_other _ _ hjp]; exact e3 j hj hjp
/-- And where something does. -/
theorem KMem.end1 (h : KMem w c most n T sv B V G) (hp : p < n) (ha : (T p).st ≠ 2) (hi : i < n) (hip : i ≠ p) (h0 : (T p).par = (i : Int) + 1) (code : Int) :
    KMem ((endW w c ((liveN T n : Int) - 1) (B p) code).setCell ⟨B i, 8, none⟩ (.int .i64 ((liveK T n i : Int) - 1))) c most n (endT T code p) sv B V G := by
  obtain ⟨e1, e2, e3⟩ := endW_heap h hp ((liveN T n : Int) - 1) code
  have hl := live_end hp ha code
  have hk := live_kid_end (q := i) (mem_kidL.2 ⟨hp, h0⟩) ha code
  have hci : c ≠ B i := fun e => ((h.bt hi).unlike h.ct (by decide)) e.symm
  refine h.turned ((endW_turn h hp _).setCell (.inl (.inr ⟨i, hi, rfl⟩)) _) (fun j => (endT_par T code p j).1) ?_ (fun j hj => ?_) (end_gone h p code)
  · refine (set_past (p := ⟨B i, 8, none⟩) e1 hci _).trans ?_
    rw [show ((liveN T n : Int) - 1) = (liveN (endT T code p) n : Int) by omega]
  · by_cases hji : j = i
    · subst hji
      rw [endT_other _ _ hip]
      refine (set_at (e3 j hj hip) 8 _).trans ?_
      rw [show ((liveK T n j : Int) - 1) = (liveK (endT T code p) n j : Int) by omega]
      simp [tkc]
    · have hne : B j ≠ B i := fun e => hji (h.inj j i hj hi e)
      rw [live_kid_other (not_kid (fun e => hji (by omega)))]
      by_cases hjp : j = p
      · subst hjp; rw [endT_same]; exact set_past (p := ⟨B i, 8, none⟩) e2 hne _
      · rw [endT_other _ _ hjp]; exact set_past (p := ⟨B i, 8, none⟩) (e3 j hj hjp) hne _
theorem end_any (h : KMem w c most n T sv B V G) (hd : DOK n T) (hn : n ≤ 1000000) (hp : p < n) (ha : (T p).st ≠ 2) (code : Int) (hpos : 0 < liveN T n) :
    Calls Try.prog 91 #[tp c, tp (B p), .int .i64 code] w fun x w' => x = .returned (.tuple #[]) ∧ KMem w' c most n (endT T code p) sv B V G ∧ Turn (KCore c n B) w w' := by
  have hpar := hd.par p hp
  have hle : liveN T n ≤ 1000000 := by
    have : liveN T n ≤ (List.range n).length := List.countP_le_length
    rw [List.length_range] at this
    omega
  obtain ⟨e1, e2, e3⟩ := endW_heap h hp ((liveN T n : Int) - 1) code
  have t1 := endW_turn (code := code) h hp ((liveN T n : Int) - 1)
  have g2 := free_at (h.obj p hp) 2
  have g3 := free_at (h.obj p hp) 3
  have gc := free_at h.head 1
  have o2 := h.o2 hp
  have o3 := h.o3 hp
  have c1 := h.c1
  have hbc : B p ≠ c := ((h.bt hp).unlike h.ct (by decide))
  have hcb : c ≠ B p := fun e => hbc e.symm
  have o1 : (endW w c ((liveN T n : Int) - 1) (B p) code).cell? ⟨B p, 1, none⟩ = some (.int .i64 (T p).par) := by simpa [tkc, Tk.dead] using cell_at e2 1
  have fm : FMem (endW w c ((liveN T n : Int) - 1) (B p) code) c n sv B := by
    refine ⟨by simpa using cell_at e1 2, h.row.kept t1 ?_⟩
    rintro k hk (rfl | ⟨i, hi, rfl⟩)
    · exact blk_typed h.row h.ct (by decide) hk
    · exact blk_typed h.row (h.bt hi) (by decide) hk
  by_cases h0 : (T p).par = 0
  · have C := Lib.hid (find_no fm (T p).par (by rw [h0]; simp [inN]))
    have M := Lib.hid (h.end0 hp ha h0 code)
    have TU1 := Lib.hid t1
    unfold endW tp at *
    generalize (T p).par = par at *
    clear h fm e1 e2 e3 t1 hd
    generalize liveN T n = L at *
    subst h0
    go_enter Try.func91, Try.ntmps91
    go_wp2_with (go_at_call 70; (with_reducible refine C.out.mono ?_); rintro e w2 ⟨rfl, rfl⟩)
    go_end0
    exact ⟨rfl, M.out, TU1.out⟩
  · obtain ⟨i, hi⟩ : ∃ i : Nat, (T p).par = (i : Int) + 1 := ⟨((T p).par - 1).toNat, by omega⟩
    have hin : i < n := by omega
    have hip : i ≠ p := by omega
    have C := Lib.hid (find_yes fm hn hin)
    rw [← hi] at C
    have M := Lib.hid (h.end1 hp ha hin hip hi code)
    have o8 : (endW w c ((liveN T n : Int) - 1) (B p) code).cell? ⟨B i, 8, none⟩ = some (.int .i64 (liveK T n i : Int)) := by simpa [tkc] using cell_at (e3 i hin hip) 8
    have g8 := free_at (e3 i hin hip) 8
    have TU1 := Lib.hid (t1.setCell (p := ⟨B i, 8, none⟩) (.inl (.inr ⟨i, hin, rfl⟩)) (.int .i64 ((liveK T n i : Int) - 1)))
    have hk := live_kid_end (q := i) (mem_kidL.2 ⟨hp, hi⟩) ha code
    have hkl : liveK T n i ≤ 1000000 := by
      have h1 : liveK T n i ≤ (kidL T n i).length := List.countP_le_length
      have h2 : (kidL T n i).length ≤ (List.range n).length := List.length_filter_le _ _
      rw [List.length_range] at h2
      omega
    have hk1 : 1 ≤ liveK T n i := by omega
    unfold endW tp at *
    generalize (T p).par = par at *
    clear h fm e1 e2 e3 t1 hd hk
    generalize liveN T n = L at *
    generalize liveK T n i = K at *
    subst hi
    go_enter Try.func91, Try.ntmps91
    go_wp2_with (go_at_call 70; (with_reducible refine C.out.mono ?_); rintro e w2 ⟨rfl, rfl⟩)
    go_end0
    exact ⟨rfl, M.out, TU1.out⟩
end
end Go.Proofs.Ytabakjimlndhcaa
