/-
  A round of wake's: the next of the line, whether it is woken or not. No walk, no conditions.
-/
import Derived.Test.YtabakjimlndhcaaBWake0
namespace Go.Proofs.Ytabakjimlndhcaa
open Go.ChangeShapes Go.WideShapes Go.ChangeAt Go.RowKit Go.Shelf

theorem keeps_low {F : Nat → Prop} {X Y : World} {B : Nat} (t : Turn F X Y) (hF : ∀ k, F k → k < B ∨ ∃ e, TBlk X k e) : KeepsAll B X Y :=
  ⟨t.size, fun k o h1 h2 h3 => (t.block k (Array.getElem?_eq_some_iff.1 h2).1 (fun hf => by
    rcases hF k hf with h4 | ⟨e, cur, h4⟩
    · omega
    · rw [h4] at h2
      cases h2
      cases h3)).trans h2⟩
theorem fit_next {P : Int → Bool} {o : Int} {its : List It} {j : Nat} {i : It} (hi : its[j]? = some i) (hno : ∀ k y, k < j → its[k]? = some y → (y.o == o && P y.m) = false) (hy : (i.o == o && P i.m) = true) : fitI P o its = some j := by
  unfold fitI
  obtain ⟨hlt, he⟩ := List.getElem?_eq_some_iff.1 hi
  rw [List.findIdx?_eq_some_iff_getElem]
  refine ⟨hlt, by rw [he]; exact hy, fun k hk => ?_⟩
  have := hno k _ hk (List.getElem?_eq_getElem (by omega))
  rw [this]
  simp
theorem fit_none {P : Int → Bool} {o : Int} {its : List It} (hno : ∀ k y, k < its.length → its[k]? = some y → (y.o == o && P y.m) = false) : fitI P o its = none := by
  unfold fitI
  rw [List.findIdx?_eq_none_iff]
  intro x hx
  obtain ⟨k, hk, rfl⟩ := List.getElem_of_mem hx
  exact hno k _ hk (List.getElem?_eq_getElem hk)
section
variable {w X Y : World} {E c tm lm : Nat} {most o s f : Int} {G A B B1 B2 : List Gw} {r : Int → Nat} {K K' : List Int} {P : Int → Bool} {fv : Value} {pre : List (Nat × Nat)} {g : Gw}
/-- Where the next of the line stands. -/
structure WNext (w : World) (E c : Nat) (most : Int) (tm lm : Nat) (G : List Gw) (r : Int → Nat) (K : List Int) (P : Int → Bool) (o : Int) (fv : Value) (s f : Int) (pre : List (Nat × Nat)) (A B1 : List Gw) (g : Gw) (B2 : List Gw) (K' : List Int) (v : Value) (X : World) : Prop where
  hG : G = A ++ (B1 ++ g :: B2)
  hA : stdP A o = pre
  hB1 : stdP B1 o = []
  sub : ∀ n ∈ K', n ∈ K
  mem : WM X c most tm lm ((A.filter (keepG P o) ++ B1) ++ g :: B2) r K'
  vb : X.heap[E + 4]? = some (.cells #[v] 42 (0, 0))
  row : KRow v (A.filterMap (wkG P o s f)) X
  fr : ∀ k, Blk v k → E + 7 ≤ k
  bx : WB X E c o fv s f
  turn : Turn (GFoot c tm lm G r K) w X
theorem WInv.next (h : WInv w E c most tm lm G r K P o fv s f pre X) {x : Nat × Nat} (hx : (stdP G o)[pre.length]? = some x) : ∃ A B1 g B2 K' v, WNext w E c most tm lm G r K P o fv s f pre A B1 g B2 K' v X ∧ g.at o = some x.1 ∧ g.x = x.2 := by
  obtain ⟨A, B, K', h1, h2, h3, h4, v, h5, h6, h7⟩ := h.ex
  rw [h1, stdP_app, ← h2, List.getElem?_append_right (Nat.le_refl _), Nat.sub_self] at hx
  obtain ⟨B1, g, B2, rfl, e2, e3, e4⟩ := stdP_next B o x hx
  exact ⟨A, B1, g, B2, K', v, ⟨h1, h2, e2, h3, by rw [List.append_assoc]; exact h4, h5, h6, h7, h.bx, h.turn⟩, e3, e4⟩
variable {v : Value}
theorem WNext.past (h : WNext w E c most tm lm G r K P o fv s f pre A B1 g B2 K' v X) (t : Turn NoBlock X Y) : WNext w E c most tm lm G r K P o fv s f pre A B1 g B2 K' v Y :=
  ⟨h.hG, h.hA, h.hB1, h.sub, h.mem.past t, t.heap h.vb (fun h => h), h.row.past t, h.fr, h.bx.kept t (fun _ _ _ h => h), h.turn.trans t (fun _ h => h.elim)⟩
theorem WNext.ob (h : WNext w E c most tm lm G r K P o fv s f pre A B1 g B2 K' v X) : ObM X g ∧ GOk g := ⟨h.mem.mem.obj g (by simp), h.mem.ok g (by simp)⟩
theorem WNext.b1keep (h : WNext w E c most tm lm G r K P o fv s f pre A B1 g B2 K' v X) (h0 : WM w c most tm lm G r K) : B1.filter (keepG P o) = B1 ∧ B1.filterMap (wkG P o s f) = [] :=
  keep_all (fun y hy => h0.ok y (by rw [h.hG]; simp [hy])) h.hB1
/-- It is not woken. -/
theorem WNext.miss (h : WNext w E c most tm lm G r K P o fv s f pre A B1 g B2 K' v X) (h0 : WM w c most tm lm G r K) (hn : fitI P o g.a.its = none) {x : Nat × Nat} (hx : g.at o = some x.1) (hx2 : g.x = x.2) : WInv w E c most tm lm G r K P o fv s f (pre ++ [x]) X := by
  obtain ⟨k1, k2⟩ := h.b1keep h0
  have hk : keepG P o g = true := by unfold keepG; rw [hn]; rfl
  refine ⟨⟨A ++ (B1 ++ [g]), B2, K', by rw [h.hG]; simp, ?_, h.sub, ?_, v, h.vb, ?_, h.fr⟩, h.bx, h.turn⟩
  · rw [stdP_app, stdP_app, h.hA, h.hB1, stdP_cons, hx, hx2]
    simp [stdP]
  · have e : (A ++ (B1 ++ [g])).filter (keepG P o) ++ B2 = (A.filter (keepG P o) ++ B1) ++ g :: B2 := by
      rw [List.filter_append, List.filter_append, k1]
      simp [hk]
    rw [e]
    exact h.mem
  · have e : (A ++ (B1 ++ [g])).filterMap (wkG P o s f) = A.filterMap (wkG P o s f) := by
      rw [List.filterMap_append, List.filterMap_append, k2]
      simp [wk_of_keep hk]
    rw [e]
    exact h.row
/-- It is woken: what is laid down of it. -/
theorem WNext.hit (h : WNext w E c most tm lm G r K P o fv s f pre A B1 g B2 K' v X) (h0 : WM w c most tm lm G r K) (hE : w.heap.size = E) {k : Nat} (hn : fitI P o g.a.its = some k) {x : Nat × Nat} (hx : g.at o = some x.1) (hx2 : g.x = x.2) :
    ∃ p n cap p' cap' W9, v = .slice p n cap ∧ X.cell? ⟨E + 4, 0, none⟩ = some (.slice p n cap) ∧
      (∃ a b : Int, X.cell? ⟨E + 3, 0, none⟩ = some (.int .i64 a) ∧ X.cell? ⟨E + 3, 1, none⟩ = some (.int .i64 b)) ∧ X.cell? ⟨E + 3, 2, none⟩ = some (.int .i64 s) ∧ X.cell? ⟨E + 3, 3, none⟩ = some (.int .i64 f) ∧ X.frozen? ⟨E + 3, 0, none⟩ = false ∧ X.frozen? ⟨E + 3, 1, none⟩ = false ∧
      (∀ ty, (Builtin.append_ #[42, 42] ty #[.slice p n cap, .slice (some ⟨X.heap.size, 0, none⟩) 1 1]).run Try.prog (((X.setCell ⟨E + 3, 0, none⟩ (.int .i64 g.a.t)).setCell ⟨E + 3, 1, none⟩ (.int .i64 (k : Int))).alloc (.cells #[.int .i64 g.a.t, .int .i64 (k : Int), .int .i64 s, .int .i64 f] 61)) = .ok (.slice p' (n + 1) cap') W9) ∧
      W9.cell? ⟨E + 4, 0, none⟩ = some (.slice p n cap) ∧ W9.frozen? ⟨E + 4, 0, none⟩ = false ∧ (W9.setCell ⟨E + 4, 0, none⟩ (.slice p' (n + 1) cap')).cell? ⟨E, 0, none⟩ = some (.pointer (some ⟨c, 0, none⟩)) ∧
      Hid (Calls Try.prog 61 #[.pointer (some ⟨c, 0, none⟩), .pointer (some ⟨g.x, 0, none⟩)] (W9.setCell ⟨E + 4, 0, none⟩ (.slice p' (n + 1) cap')) fun e Y => e = .returned (.tuple #[]) ∧ WInv w E c most tm lm G r K P o fv s f (pre ++ [x]) Y ∧ KeepsAll (E + 7) X Y) := by
  obtain ⟨k1, k2⟩ := h.b1keep h0
  obtain ⟨a3, b3, hb3⟩ := h.bx.b3
  have hrow := h.row
  obtain ⟨p, cap, hv⟩ := WRow.sl hrow
  obtain ⟨n, hnl⟩ : ∃ n, (A.filterMap (wkG P o s f)).length = n := ⟨_, rfl⟩
  have hnn : n ≤ 65536 := by
    have h1 := h0.len
    have h2 : (A.filterMap (wkG P o s f)).length ≤ A.length := List.length_filterMap_le _ _
    have h3 : A.length ≤ G.length := by rw [h.hG, List.length_append]; omega
    omega
  rw [hnl] at hv
  subst hv
  obtain ⟨W8, hW8⟩ : ∃ W, (X.setCell ⟨E + 3, 0, none⟩ (.int .i64 g.a.t)).setCell ⟨E + 3, 1, none⟩ (.int .i64 (k : Int)) = W := ⟨_, rfl⟩
  have t8 : Turn (fun j => j = E + 3) X W8 := by rw [← hW8]; exact ((Turn.refl (fun j => j = E + 3) X).setCell (p := ⟨E + 3, 0, none⟩) (.inl rfl) _).setCell (p := ⟨E + 3, 1, none⟩) (.inl rfl) _
  have hb8 : W8.heap[E + 3]? = some (.cells #[.int .i64 g.a.t, .int .i64 (k : Int), .int .i64 s, .int .i64 f] 61 (0, 0)) := by
    rw [← hW8]
    exact set_at (set_at hb3 0 _) 1 _
  obtain ⟨WA, hWA⟩ : ∃ W, W8.alloc (.cells #[.int .i64 g.a.t, .int .i64 (k : Int), .int .i64 s, .int .i64 f] 61) = W := ⟨_, rfl⟩
  have tA : Turn NoBlock W8 WA := by rw [← hWA]; exact (Turn.refl _ W8).alloc _
  have s8 : W8.heap.size = X.heap.size := by rw [← hW8]; simp [World.setCell]
  have hrd : Rd WA 4 (.slice (some ⟨X.heap.size, 0, none⟩) 1 1) 1 (wkcells [⟨g.a.t, (k : Int), s, f⟩]) := by
    rw [← hWA, ← s8]
    exact rd_new W8 61 4 #[.int .i64 g.a.t, .int .i64 (k : Int), .int .i64 s, .int .i64 f] rfl
  have rowA : KRow (.slice p n cap) (A.filterMap (wkG P o s f)) WA := (hrow.kept t8 (fun j hj e => by have := h.fr j hj; omega)).past tA
  obtain ⟨iK, hiK, hzK, hsK, hbK⟩ := info_parts infoWk
  unfold KRow at rowA
  obtain ⟨v', W9, hap, w9, t9, k9⟩ := WRow.append rowA 42 42 iK _ 32 wokensT hiK hzK hsK hbK rfl (hrd.src 42 61 wokensT (wkcells_one _)) (by unfold maxLen; omega) (by omega)
  obtain ⟨p', cap', rfl⟩ := w9.sl
  rw [hnl] at w9 hap k9
  have row9 : KRow (.slice p' (n + 1) cap') (A.filterMap (wkG P o s f) ++ [⟨g.a.t, (k : Int), s, f⟩]) W9 := by
    unfold KRow wkcells
    rw [List.length_append, fl_app, hnl]
    exact w9
  have hcells : ∀ j, X.cell? ⟨E + 3, j, none⟩ = (#[.int .i64 a3, .int .i64 b3, .int .i64 s, .int .i64 f] : Array Value)[j]? := fun j => cell_at hb3 j
  have fb : ∀ j, E ≤ j → j < E + 7 → ¬ Blk (.slice p n cap) j := fun j _ h2 hj => by have := h.fr j hj; omega
  have v8 := t8.heap h.vb (show ¬ E + 4 = E + 3 by omega)
  have vA := tA.heap v8 (fun h => h)
  have v9 := t9.heap vA (fb _ (by omega) (by omega))
  obtain ⟨W10, hW10⟩ : ∃ W, W9.setCell ⟨E + 4, 0, none⟩ (.slice p' (n + 1) cap') = W := ⟨_, rfl⟩
  have t10 : Turn (fun j => j = E + 4) W9 W10 := by rw [← hW10]; exact (Turn.refl (fun j => j = E + 4) W9).setCell (p := ⟨E + 4, 0, none⟩) (.inl rfl) _
  have tX : Turn (fun j => j = E + 3 ∨ j = E + 4 ∨ Blk (.slice p n cap) j) X W10 :=
    ((t8.mono (G := fun j => j = E + 3 ∨ j = E + 4 ∨ Blk (.slice p n cap) j) (fun j hj => .inl (.inl hj))).trans ((TU tA).trans t9 (fun _ h => .inl h)) (fun j hj => .inl (.inr (.inr hj)))).trans t10 (fun j hj => .inl (.inr (.inl hj)))
  have hXlt : E + 4 < X.heap.size := lt_of_block h.vb
  have hfoot : ∀ j, GFoot c tm lm ((A.filter (keepG P o) ++ B1) ++ g :: B2) r K' j → GFoot c tm lm G r K j ∧ j < E := fun j hj => by
    have h1 := foot_lt h0.mem (fun y hy => ?_) h.sub hj
    · exact ⟨h1.1, by have := h1.2; omega⟩
    · rw [h.hG]
      rcases List.mem_append.1 hy with h2 | h2
      · rcases List.mem_append.1 h2 with h3 | h3
        · exact List.mem_append_left _ (List.mem_filter.1 h3).1
        · exact List.mem_append_right _ (List.mem_append_left _ h3)
      · exact List.mem_append_right _ (List.mem_append_right _ h2)
  have hnot : ∀ j, GFoot c tm lm ((A.filter (keepG P o) ++ B1) ++ g :: B2) r K' j → ¬ (j = E + 3 ∨ j = E + 4 ∨ Blk (.slice p n cap) j) := fun j hj hh => by
    have := (hfoot j hj).2
    rcases hh with hh | hh | hh
    · omega
    · omega
    · have := h.fr j hh; omega
  have m10 := h.mem.kept tX hnot
  have bx10 : WB W10 E c o fv s f := by
    obtain ⟨a0, a1, a2, -, a5, a6⟩ := h.bx
    have hn2 : ∀ j, E ≤ j → j < E + 7 → j ≠ E + 3 → j ≠ E + 4 → ¬ (j = E + 3 ∨ j = E + 4 ∨ Blk (.slice p n cap) j) := fun j h1 h2 h3 h4 hh => by
      rcases hh with hh | hh | hh
      · exact h3 hh
      · exact h4 hh
      · exact fb j h1 h2 hh
    refine ⟨tX.heap a0 (hn2 _ (by omega) (by omega) (by omega) (by omega)), tX.heap a1 (hn2 _ (by omega) (by omega) (by omega) (by omega)), tX.heap a2 (hn2 _ (by omega) (by omega) (by omega) (by omega)), ⟨_, _, t10.heap (t9.heap (tA.heap hb8 (fun h => h)) (fb _ (by omega) (by omega))) (show ¬ E + 3 = E + 4 by omega)⟩, tX.heap a5 (hn2 _ (by omega) (by omega) (by omega) (by omega)), tX.heap a6 (hn2 _ (by omega) (by omega) (by omega) (by omega))⟩
  have vb10 : W10.heap[E + 4]? = some (.cells #[.slice p' (n + 1) cap'] 42 (0, 0)) := by rw [← hW10]; exact set_at v9 0 _
  have row10 : KRow (.slice p' (n + 1) cap') (A.filterMap (wkG P o s f) ++ [⟨g.a.t, (k : Int), s, f⟩]) W10 := row9.kept t10 (fun j hj e => by
    rcases k9 j hj with h1 | h1
    · have := h.fr j h1; omega
    · have := tA.size; omega)
  have fr10 : ∀ j, Blk (.slice p' (n + 1) cap') j → E + 7 ≤ j := fun j hj => by
    rcases k9 j hj with h1 | h1
    · exact h.fr j h1
    · have hb6 := lt_of_block h.bx.b6
      have := tA.size; omega
  refine ⟨p, n, cap, p', cap', W9, rfl, by rw [cell_at h.vb]; rfl, ⟨a3, b3, by rw [hcells]; rfl, by rw [hcells]; rfl⟩, by rw [hcells]; rfl, by rw [hcells]; rfl, free_at hb3 0, free_at hb3 1, fun ty => by rw [hW8, hWA]; exact hap ty, by rw [cell_at v9]; rfl, free_at v9 0, by rw [hW10, cell_at bx10.b0]; rfl, Lib.hid ?_⟩
  rw [hW10]
  refine m10.drop.mono ?_
  rintro e Y ⟨rfl, ⟨K2, hs2, m2⟩, tY⟩
  have hYn : ∀ j, E ≤ j → ¬ GFoot c tm lm ((A.filter (keepG P o) ++ B1) ++ g :: B2) r K' j := fun j hj hh => by have := (hfoot j hh).2; omega
  have hwk : wkG P o s f g = some ⟨g.a.t, (k : Int), s, f⟩ := by unfold wkG wkA; rw [hn]; rfl
  have hkp : keepG P o g = false := by unfold keepG; rw [hn]; rfl
  refine ⟨rfl, ⟨⟨A ++ (B1 ++ [g]), B2, K2, by rw [h.hG]; simp, ?_, fun m hm => h.sub m (hs2 m hm), ?_, _, tY.heap vb10 (hYn _ (by omega)), ?_, fr10⟩, bx10.kept tY (fun j h1 h2 => hYn j h1), (h.turn.trans tX (fun j hj => .inr ?_)).trans tY (fun j hj => .inl (hfoot j hj).1)⟩, ?_⟩
  · rw [stdP_app, stdP_app, h.hA, h.hB1, stdP_cons, hx, hx2]
    simp [stdP]
  · have e : (A ++ (B1 ++ [g])).filter (keepG P o) ++ B2 = (A.filter (keepG P o) ++ B1) ++ B2 := by
      rw [List.filter_append, List.filter_append, k1]
      simp [hkp]
    rw [e]
    exact m2
  · have e : (A ++ (B1 ++ [g])).filterMap (wkG P o s f) = A.filterMap (wkG P o s f) ++ [⟨g.a.t, (k : Int), s, f⟩] := by
      rw [List.filterMap_append, List.filterMap_append, k2]
      simp [hwk]
    rw [e]
    exact row10.kept tY (fun j hj => hYn j (by have := fr10 j hj; omega))
  · rcases hj with hh | hh | hh
    · omega
    · omega
    · have := h.fr j hh; omega
  · refine (keeps_low tX (fun j hj => ?_)).trans (keeps_low tY (fun j hj => .inl (by have := (hfoot j hj).2; omega)))
    rcases hj with hh | hh | hh
    · exact .inl (by omega)
    · exact .inl (by omega)
    · exact .inr ⟨_, WRow.typed hrow hh⟩
end
end Go.Proofs.Ytabakjimlndhcaa
