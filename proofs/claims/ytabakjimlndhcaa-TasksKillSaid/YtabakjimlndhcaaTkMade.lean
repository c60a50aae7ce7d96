/-
  A tree with one more task in memory; a law's state: a tree in blocks of its own. No walk, no conditions.
-/
import Derived.Test.YtabakjimlndhcaaTkAdd
import Derived.Test.YtabakjimlndhcaaTkSpec
namespace Go.Proofs.Ytabakjimlndhcaa
open Go.ChangeShapes Go.WideShapes Go.ChangeAt Go.RowKit

section
variable {w w' w5 w6 W7 : World} {c n p q j i b : Nat} {most code : Int} {T T' : Nat → Tk} {sv sv' vp : Value} {B B' : Nat → Nat} {V V' : Nat → Value} {G G' : Nat → Nat} {t : Tk} {X Y : Nat → Prop}
theorem KMem.made (h : KMem w5 c most n T sv B V G) (hd : DOK n T) (hp : p < n) (hA : AddM w5 w6 c most (liveN T n : Int) n sv sv' B b t) (htp : t.par = (p : Int) + 1) (hts : t.st ≠ 2)
    (hN : Nums vp (numL (kidL T n p) ++ [(n : Int) + 1]) W7) (tP : Turn (Blk (V p)) w6 W7) (hB : ∀ k, Blk vp k → Blk (V p) k ∨ w6.heap.size ≤ k) :
    KMem ((W7.setCell ⟨B p, 6, none⟩ vp).setCell ⟨B p, 8, none⟩ (.int .i64 ((liveK T n p : Int) + 1))) c most (n + 1) (setT T n t) sv' (updN B n b) (updN (updN V n (.slice none 0 0)) p vp) (updN G n 0) ∧
    Turn (KFoot c n sv B V) w5 ((W7.setCell ⟨B p, 6, none⟩ vp).setCell ⟨B p, 8, none⟩ (.int .i64 ((liveK T n p : Int) + 1))) ∧
    ∀ k, KFoot c (n + 1) sv' (updN B n b) (updN (updN V n (.slice none 0 0)) p vp) k → KFoot c n sv B V k ∨ w5.heap.size ≤ k := by
  have hsz := hA.turn.size
  have hs7 := tP.size
  have hnew := hA.new
  have tF : Turn (KFoot c n sv B V) w5 w6 := hA.turn.mono (fun k hk => .inl (hk.elim .inl (fun e => .inr (.inl e))))
  have hct := h.ct
  have hbt : ∀ {j : Nat}, j < n → TBlk w5 (B j) 136 := fun hj => h.bt hj
  -- what is apart from what add turned
  have a1 : ∀ {k : Nat} {e : TypeId}, TBlk w5 k e → e ≠ 125 → e ≠ 132 → ¬ (k = c ∨ Blk sv k) := fun {k e} hk h1 h2 hh => by
    rcases hh with rfl | hh
    · exact (hk.unlike hct h1) rfl
    · exact (hk.unlike (h.row.typed hh) h2) rfl
  have o6 : ∀ j, j < n → w6.heap[B j]? = some (.cells (tkc (T j) (V j) (G j) (liveK T n j)) 136 (0, 0)) := fun j hj => hA.turn.heap (h.obj j hj) (a1 (hbt hj) (by decide) (by decide))
  have k6 : ∀ j, j < n → Nums (V j) (numL (kidL T n j)) w6 := fun j hj => (h.kid j hj).kept hA.turn (fun k hk => a1 (WRow.typed (h.kid j hj) hk) (by decide) (by decide))
  have vt : ∀ {j : Nat} {k : Nat}, j < n → Blk (V j) k → TBlk w6 k 3 := fun hj hk => WRow.typed (k6 _ hj) hk
  have ct6 : TBlk w6 c 125 := ⟨_, hA.head⟩
  have bt6 : TBlk w6 b 136 := ⟨_, hA.obj⟩
  have b7 : ∀ {k : Nat} {e : TypeId}, TBlk w6 k e → e ≠ 3 → ¬ Blk (V p) k := fun hk he hb => (hk.unlike (vt hp hb) he) rfl
  have c7 := tP.heap hA.head (b7 ct6 (by decide))
  have n7 := tP.heap hA.obj (b7 bt6 (by decide))
  have o7 : ∀ j, j < n → W7.heap[B j]? = some (.cells (tkc (T j) (V j) (G j) (liveK T n j)) 136 (0, 0)) := fun j hj => tP.heap (o6 j hj) (b7 ⟨_, o6 j hj⟩ (by decide))
  have r7 := hA.row.kept tP (fun k hk => b7 (hA.row.typed hk) (by decide))
  have k7 : ∀ j, j < n → j ≠ p → Nums (V j) (numL (kidL T n j)) W7 := fun j hj hne => (k6 j hj).kept tP (fun k hk hk2 => h.vs j p hj hp hne k hk hk2)
  have t9 : Turn (fun k => k = B p) W7 ((W7.setCell ⟨B p, 6, none⟩ vp).setCell ⟨B p, 8, none⟩ (.int .i64 ((liveK T n p : Int) + 1))) :=
    ((Turn.refl (fun k => k = B p) W7).setCell (p := ⟨B p, 6, none⟩) (.inl rfl) _).setCell (p := ⟨B p, 8, none⟩) (.inl rfl) _
  have hbp : TBlk W7 (B p) 136 := ⟨_, o7 p hp⟩
  have hne : b ≠ B p := by have := (hbt hp).lt; omega
  have hbj : ∀ {j : Nat}, j < n → B j ≠ b := fun hj => by have := (hbt hj).lt; omega
  have hlp := liveK_new hd t hts (show p ≤ n by omega)
  rw [if_pos htp] at hlp
  have hko : ∀ {j : Nat}, j ≤ n → j ≠ p → t.par ≠ (j : Int) + 1 := fun _ hne e => hne (by omega)
  have hvb : ∀ {k : Nat}, Blk vp k → Blk (V p) k ∨ w6.heap.size ≤ k := fun hk => hB _ hk
  have row9 : ∀ {v : Value} {xs : List Int}, Nums v xs W7 → Nums v xs ((W7.setCell ⟨B p, 6, none⟩ vp).setCell ⟨B p, 8, none⟩ (.int .i64 ((liveK T n p : Int) + 1))) := fun {v xs} hv => hv.kept t9 (fun k hk e => by
    subst e
    exact (hbp.unlike (WRow.typed hv hk) (by decide)) rfl)
  refine ⟨⟨?_, ?_, fun j hj => ?_, fun j hj => ?_, fun i j hi hj he => ?_, fun i j hi hj hij k hk hk2 => ?_, fun j hj => ?_⟩, ?_, ?_⟩
  · rw [live_new t hts]
    have := t9.heap c7 (fun e => by subst e; exact ((show TBlk w6 (B p) 136 from ⟨_, o6 p hp⟩).unlike ct6 (by decide)) rfl)
    rw [this]
    simp
  · exact r7.kept t9 (fun k hk e => by subst e; exact (hbp.unlike (r7.typed hk) (by decide)) rfl)
  · by_cases e : j = n
    · subst e
      rw [updN_same, setT_same, updN_other _ _ (show j ≠ p by omega), updN_same, updN_same, liveK_new hd t hts (Nat.le_refl _), if_neg (hko (Nat.le_refl _) (by omega))]
      rw [show liveK T j j = 0 by unfold liveK; rw [kidL_end hd]; rfl]
      exact t9.heap n7 hne
    · have hj' : j < n := by omega
      rw [updN_other _ _ e, setT_other _ _ e, updN_other G _ e, liveK_new hd t hts (by omega)]
      by_cases ep : j = p
      · subst ep
        rw [updN_same, if_pos htp]
        refine (set_at (set_at (o7 j hj') 6 vp) 8 _).trans ?_
        simp [tkc]
      · rw [updN_other _ _ ep, updN_other _ _ e, if_neg (hko (by omega) ep)]
        exact t9.heap (o7 j hj') (fun e2 => ep (h.inj j p hj' hp e2))
  · by_cases e : j = n
    · subst e
      rw [updN_other _ _ (show j ≠ p by omega), updN_same, kidL_new hd t (Nat.le_refl _), if_neg (hko (Nat.le_refl _) (by omega)), kidL_end hd]
      exact wrow_nil _ _ _
    · have hj' : j < n := by omega
      rw [kidL_new hd t (by omega)]
      by_cases ep : j = p
      · subst ep
        rw [updN_same, if_pos htp, numL_app]
        exact row9 hN
      · rw [updN_other _ _ ep, updN_other _ _ e, if_neg (hko (by omega) ep), List.append_nil]
        exact row9 (k7 j hj' ep)
  · by_cases ei : i = n
    · subst ei
      rw [updN_same] at he
      by_cases ej : j = i
      · exact ej.symm
      · rw [updN_other _ _ ej] at he
        exact absurd he.symm (hbj (by omega))
    · rw [updN_other _ _ ei] at he
      by_cases ej : j = n
      · subst ej
        rw [updN_same] at he
        exact absurd he (hbj (by omega))
      · rw [updN_other _ _ ej] at he
        exact h.inj i j (by omega) (by omega) he
  · have old : ∀ {a : Nat}, a < n + 1 → a ≠ p → ∀ {k : Nat}, Blk (updN (updN V n (.slice none 0 0)) p vp a) k → a < n ∧ Blk (V a) k := fun {a} ha hap {k} hk => by
      rw [updN_other _ _ hap] at hk
      by_cases ea : a = n
      · subst ea
        rw [updN_same] at hk
        exact (blk_nil k hk).elim
      · rw [updN_other _ _ ea] at hk
        exact ⟨by omega, hk⟩
    have mix : ∀ {a : Nat}, a < n + 1 → a ≠ p → ∀ {k : Nat}, Blk (updN (updN V n (.slice none 0 0)) p vp a) k → Blk vp k → False := fun {a} ha hap {k} hk hv => by
      obtain ⟨h1, h2⟩ := old ha hap hk
      rcases hvb hv with h3 | h3
      · exact h.vs a p h1 hp hap k h2 h3
      · have := WRow.lt (k6 a h1) h2
        omega
    by_cases ei : i = p
    · subst ei
      rw [updN_same] at hk
      exact mix hj (fun e => hij e.symm) hk2 hk
    · by_cases ej : j = p
      · subst ej
        rw [updN_same] at hk2
        exact mix hi ei hk hk2
      · obtain ⟨h1, h2⟩ := old hi ei hk
        obtain ⟨h3, h4⟩ := old hj ej hk2
        exact h.vs i j h1 h3 hij k h2 h4
  · by_cases e : j = n
    · subst e
      rw [updN_same]
      exact ⟨Nat.zero_le _, fun i q hi => absurd hi (Nat.not_lt_zero _)⟩
    · have hj' : j < n := by omega
      rw [updN_other _ _ e, kidL_new hd t (by omega)]
      obtain ⟨h1, h2⟩ := h.gone j hj'
      refine ⟨by rw [List.length_append]; omega, fun i q hi hq => ?_⟩
      rw [List.getElem?_append_left (by omega)] at hq
      have h3 := h2 i q hi hq
      have h4 := (mem_kidL.1 (List.mem_of_getElem? hq)).1
      rw [setT_other _ _ (show q ≠ n by omega)]
      exact h3
  · refine (tF.trans (tP.mono (G := KFoot c n sv B V) (fun k hk => .inl (.inr (.inr ⟨p, hp, .inr hk⟩)))) (fun k hk => .inl hk)).trans t9 (fun k hk => .inl (.inr (.inr ⟨p, hp, .inl hk⟩)))
  · rintro k (rfl | hk | ⟨j, hj, hk⟩)
    · exact .inl (.inl rfl)
    · exact (hA.blk k hk).imp (fun h => .inr (.inl h)) id
    · by_cases e : j = n
      · subst e
        rw [updN_same, updN_other _ _ (show j ≠ p by omega), updN_same] at hk
        rcases hk with rfl | hk
        · exact .inr hnew
        · exact (blk_nil k hk).elim
      · have hj' : j < n := by omega
        rw [updN_other _ _ e] at hk
        rcases hk with rfl | hk
        · exact .inl (.inr (.inr ⟨j, hj', .inl rfl⟩))
        · by_cases ep : j = p
          · subst ep
            rw [updN_same] at hk
            rcases hvb hk with h1 | h1
            · exact .inl (.inr (.inr ⟨j, hj', .inr h1⟩))
            · exact .inr (by omega)
          · rw [updN_other _ _ ep, updN_other _ _ e] at hk
            exact .inl (.inr (.inr ⟨j, hj', .inr hk⟩))
/-- The blocks of X are as they were. -/
def Kp (X : Nat → Prop) (w w' : World) : Prop := ∃ F, Turn F w w' ∧ ∀ k, X k → ¬ F k
theorem Kp.row {e size n : Nat} {v : Value} {xs : List Value} (h : Kp X w w') (hr : WRow w e size v n xs) (hv : ∀ k, Blk v k → X k) : WRow w' e size v n xs := by
  obtain ⟨F, t, hF⟩ := h
  exact hr.kept t (fun k hk => hF k (hv k hk))
theorem Kp.heap {k : Nat} {o : Obj} (h : Kp X w w') (hk : w.heap[k]? = some o) (hx : X k) : w'.heap[k]? = some o := by
  obtain ⟨F, t, hF⟩ := h
  exact t.heap hk (hF k hx)
theorem Kp.size (h : Kp X w w') : w.heap.size ≤ w'.heap.size := by
  obtain ⟨F, t, _⟩ := h
  exact t.size
theorem Kp.of_past (t : Turn NoBlock w w') : Kp X w w' := ⟨_, t, fun _ _ h => h⟩
theorem Kp.trans {a b c : World} (h : Kp X a b) (k : Kp X b c) (hX : ∀ i, X i → i < a.heap.size) : Kp X a c := by
  obtain ⟨F, t, hF⟩ := h
  obtain ⟨F', t', hF'⟩ := k
  refine ⟨fun i => F i ∨ F' i ∨ a.heap.size ≤ i, (t.mono (fun i hi => .inl (.inl hi))).trans t' (fun i hi => .inl (.inr (.inl hi))), fun i hi h => ?_⟩
  rcases h with h | h | h
  · exact hF i hi h
  · exact hF' i hi h
  · have := hX i hi; omega
theorem Kp.mono (h : Kp X w w') (hY : ∀ k, Y k → X k) : Kp Y w w' := by
  obtain ⟨F, t, hF⟩ := h
  exact ⟨F, t, fun k hk => hF k (hY k hk)⟩
structure KSt (w0 w : World) (c : Nat) (most : Int) (n : Nat) (T : Nat → Tk) (X : Nat → Prop) : Prop where
  ex : ∃ sv B V G, KMem w c most n T sv B V G ∧ (∀ k, KFoot c n sv B V k → w0.heap.size ≤ k) ∧ ∀ k, X k → k < w.heap.size ∧ ¬ KFoot c n sv B V k
  ok : TOK most n T
  turn : Turn NoBlock w0 w
variable {w0 : World}
theorem KSt.past (h : KSt w0 w c most n T X) (t : Turn NoBlock w w') : KSt w0 w' c most n T X := by
  obtain ⟨sv, B, V, G, h1, h4, h5⟩ := h.ex
  exact ⟨⟨sv, B, V, G, h1.past t, h4, fun k hk => ⟨Nat.lt_of_lt_of_le (h5 k hk).1 t.size, (h5 k hk).2⟩⟩, h.ok, h.turn.trans t (fun _ h => .inl h)⟩
theorem KSt.fewer (h : KSt w0 w c most n T X) (hY : ∀ k, Y k → X k) : KSt w0 w c most n T Y := by
  obtain ⟨sv, B, V, G, h1, h4, h5⟩ := h.ex
  exact ⟨⟨sv, B, V, G, h1, h4, fun k hk => h5 k (hY k hk)⟩, h.ok, h.turn⟩
theorem KSt.more (h : KSt w0 w c most n T X) (t : Turn X w w') (hY : ∀ k, Y k → X k ∨ (w.heap.size ≤ k ∧ k < w'.heap.size)) (hX : ∀ k, X k → w0.heap.size ≤ k) : KSt w0 w' c most n T Y := by
  obtain ⟨sv, B, V, G, h1, h4, h5⟩ := h.ex
  refine ⟨⟨sv, B, V, G, h1.kept t (fun k hk hx => (h5 k hx).2 hk), h4, fun k hk => ?_⟩, h.ok, h.turn.trans t (fun k hk => .inr (hX k hk))⟩
  rcases hY k hk with h6 | h6
  · exact ⟨Nat.lt_of_lt_of_le (h5 k h6).1 t.size, (h5 k h6).2⟩
  · exact ⟨h6.2, fun hh => by have := h1.lt hh; omega⟩
/-- What a call has made. -/
theorem kst_made {n' : Nat} (h : KSt w0 w c most n T X) (h4 : ∀ k, KFoot c n sv B V k → w0.heap.size ≤ k) (h5 : ∀ k, X k → k < w.heap.size ∧ ¬ KFoot c n sv B V k)
    (m : KMem w' c most n' T' sv' B' V' G') (ok : TOK most n' T') (hb : ∀ k, KFoot c n' sv' B' V' k → KFoot c n sv B V k ∨ w.heap.size ≤ k) (t : Turn (KFoot c n sv B V) w w') : KSt w0 w' c most n' T' X ∧ Kp X w w' := by
  refine ⟨⟨⟨sv', B', V', G', m, fun k hk => ?_, fun k hk => ⟨Nat.lt_of_lt_of_le (h5 k hk).1 t.size, fun hf => ?_⟩⟩, ok, h.turn.trans t (fun k hk => .inr (h4 k hk))⟩, _, t, fun k hk => (h5 k hk).2⟩
  · rcases hb k hk with h7 | h7
    · exact h4 k h7
    · exact Nat.le_trans h.turn.size h7
  · rcases hb k hf with h7 | h7
    · exact (h5 k hk).2 h7
    · have := (h5 k hk).1; omega
end
end Go.Proofs.Ytabakjimlndhcaa
