/-
  Expire: what holds ahead of each round. No walk, no conditions.
-/
import Derived.Test.YtabakjimlndhcaaBTh0
import Derived.Test.YtabakjimlndhcaaBSort
namespace Go.Proofs.Ytabakjimlndhcaa
open Go.ChangeShapes Go.WideShapes Go.ChangeAt Go.RowKit Go.Shelf

/-- Whose deadline has come. -/
def dueB (now : Int) (g : Gw) : Bool := decide (g.a.d ≤ now)
theorem keep_one {L : List Gw} (hn : (L.map Gw.x).Nodup) {g : Gw} (hg : g ∈ L) : ∃ A B, L = A ++ g :: B ∧ L.filter (fun y => y.x != g.x) = A ++ B := by
  obtain ⟨A, B, rfl⟩ := List.append_of_mem hg
  refine ⟨A, B, rfl, ?_⟩
  rw [List.map_append, List.map_cons] at hn
  obtain ⟨n1, n2, n3⟩ := List.nodup_append.1 hn
  have n4 := (List.nodup_cons.1 n2).1
  have hA : A.filter (fun y => y.x != g.x) = A := List.filter_eq_self.2 (fun y hy => by simpa using n3 y.x (List.mem_map.2 ⟨y, hy, rfl⟩) g.x List.mem_cons_self)
  have hB : B.filter (fun y => y.x != g.x) = B := List.filter_eq_self.2 (fun y hy => by
    have : y.x ≠ g.x := fun e => n4 (List.mem_map.2 ⟨y, hy, e⟩)
    simpa using this)
  rw [List.filter_append, hA]
  simp [hB]
section
variable {w X Y : World} {c tm lm : Nat} {most : Int} {G L : List Gw} {r : Int → Nat} {K : List Int} {g : Gw}
theorem WM.dropAt (h : WM w c most tm lm L r K) (hg : g ∈ L) : Calls Try.prog 61 #[.pointer (some ⟨c, 0, none⟩), .pointer (some ⟨g.x, 0, none⟩)] w fun e w' => e = .returned (.tuple #[]) ∧ (∃ K', (∀ n ∈ K', n ∈ K) ∧ WM w' c most tm lm (L.filter (fun y => y.x != g.x)) r K') ∧ Turn (GFoot c tm lm L r K) w w' := by
  obtain ⟨A, B, hL, hf⟩ := keep_one h.mem.xs hg
  rw [hf]
  rw [hL] at h ⊢
  exact h.drop
/-- Behind the first i of those that are let go. -/
def restX (G : List Gw) (D : List Nat) : List Gw := G.filter (fun g => !(D.contains g.x))
theorem rest_nil (G : List Gw) : restX G [] = G := by
  unfold restX
  exact List.filter_eq_self.2 (fun _ _ => by simp)
theorem rest_snoc (G : List Gw) (D : List Nat) (x : Nat) : restX G (D ++ [x]) = (restX G D).filter (fun y => y.x != x) := by
  unfold restX
  rw [List.filter_filter]
  congr 1
  funext g
  by_cases h : g.x = x
  · simp [h]
  · have : (g.x == x) = false := by simpa using h
    simp [this, bne]
    exact fun _ => h
theorem rest_sub (G : List Gw) (D : List Nat) : ∀ g ∈ restX G D, g ∈ G := fun _ hg => (List.mem_filter.1 hg).1
/-- What holds ahead of a round of the search. -/
structure ExInv (w : World) (E c : Nat) (most : Int) (tm lm : Nat) (G : List Gw) (r : Int → Nat) (K : List Int) (now : Int) (pre : List (Nat × Nat)) (X : World) : Prop where
  le : pre.length ≤ G.length
  mem : WM X c most tm lm G r K
  b0 : X.heap[E]? = some (.cells #[.int .i64 now] 3 (0, 0))
  ex : ∃ v, X.heap[E + 1]? = some (.cells #[v] 114 (0, 0)) ∧ DRow v (((G.take pre.length).filter (dueB now)).map Gw.x) X ∧ ∀ k, Blk v k → E + 4 ≤ k
  b2 : X.heap[E + 2]? = some (.cells #[.pointer (some ⟨c, 0, none⟩)] 23 (0, 0))
  b3 : X.heap[E + 3]? = some (.cells #[.int .i64 0] 3 (0, 0))
  turn : Turn NoBlock w X
theorem exinv_own {E : Nat} {now : Int} (h0 : WM w c most tm lm G r K) (hE : w.heap.size = E) {B : Nat} (hB : E + 4 ≤ B) : OwnFrom B (fun (pre : List (Nat × Nat)) X => ExInv w E c most tm lm G r K now pre X) := by
  intro pre X Y row hs hgr hr
  have tg := turn_of_grown hgr
  have hlo : ∀ k, row = some k → E + 4 ≤ k := fun k hk => by have := (hr k hk).1; omega
  obtain ⟨v, h1, h2, h3⟩ := hs.ex
  refine ⟨hs.le, hs.mem.kept tg (fun k hk e => by have := hlo k e; have h4 := h0.mem.lt hk; omega), tg.heap hs.b0 (fun e => by have := hlo _ e; omega), ⟨v, tg.heap h1 (fun e => by have := hlo _ e; omega), h2.kept tg (fun k hk e => ?_), h3⟩, tg.heap hs.b2 (fun e => by have := hlo _ e; omega), tg.heap hs.b3 (fun e => by have := hlo _ e; omega), hs.turn.trans tg (fun k e => .inr (by have := hlo k e; omega))⟩
  obtain ⟨cur, hc⟩ := WRow.typed h2 hk
  obtain ⟨ob, h5, h6⟩ := (hr k e).2
  rw [hc] at h5
  cases h5
  cases h6
theorem take_due {now : Int} {pre : Nat} (hg : G[pre]? = some g) : (G.take (pre + 1)).filter (dueB now) = (G.take pre).filter (dueB now) ++ (if dueB now g then [g] else []) := by
  rw [List.take_add_one, hg, List.filter_append]
  by_cases h : dueB now g = true <;> simp [h]
theorem ExInv.miss {E : Nat} {now : Int} {pre : List (Nat × Nat)} (h : ExInv w E c most tm lm G r K now pre X) {x : Nat × Nat} (hg : G[pre.length]? = some g) (hd : dueB now g = false) : ExInv w E c most tm lm G r K now (pre ++ [x]) X := by
  have hlt := (List.getElem?_eq_some_iff.1 hg).1
  have hl : (pre ++ [x]).length = pre.length + 1 := by simp
  obtain ⟨v, h1, h2, h3⟩ := h.ex
  refine ⟨by rw [hl]; omega, h.mem, h.b0, ⟨v, h1, ?_, h3⟩, h.b2, h.b3, h.turn⟩
  rw [hl, take_due hg, hd]
  simpa using h2
theorem ExInv.drew {E : Nat} {now : Int} {pre : List (Nat × Nat)} (h : ExInv w E c most tm lm G r K now pre X) : ExInv w E c most tm lm G r K now pre X.drew := by
  have t : Turn NoBlock X X.drew := (Turn.refl _ X).drew
  obtain ⟨v, h1, h2, h3⟩ := h.ex
  exact ⟨h.le, h.mem.past t, t.heap h.b0 (fun h => h), ⟨v, t.heap h1 (fun h => h), h2.past t, h3⟩, t.heap h.b2 (fun h => h), t.heap h.b3 (fun h => h), h.turn.trans t (fun _ h => .inl h)⟩
/-- A round: one more is due. -/
theorem ExInv.hit {E : Nat} {now : Int} {pre : List (Nat × Nat)} (h : ExInv w E c most tm lm G r K now pre X) (h0 : WM w c most tm lm G r K) (hE : w.heap.size = E) {x : Nat × Nat} (hg : G[pre.length]? = some g) (hd : dueB now g = true) :
    ∃ p n cap p' cap' W9, X.cell? ⟨E + 1, 0, none⟩ = some (.slice p n cap) ∧
      (∀ ty, (Builtin.append_ #[114, 114] ty #[.slice p n cap, .slice (some ⟨X.heap.size, 0, none⟩) 1 1]).run Try.prog (X.alloc (.cells #[.pointer (some ⟨g.x, 0, none⟩)] 102)) = .ok (.slice p' (n + 1) cap') W9) ∧
      W9.cell? ⟨E + 1, 0, none⟩ = some (.slice p n cap) ∧ W9.frozen? ⟨E + 1, 0, none⟩ = false ∧
      Hid (ExInv w E c most tm lm G r K now (pre ++ [x]) (W9.setCell ⟨E + 1, 0, none⟩ (.slice p' (n + 1) cap')) ∧ KeepsAll (E + 4) X (W9.setCell ⟨E + 1, 0, none⟩ (.slice p' (n + 1) cap'))) := by
  have hlt := (List.getElem?_eq_some_iff.1 hg).1
  have hl : (pre ++ [x]).length = pre.length + 1 := by simp
  obtain ⟨v, h1, h2, h3⟩ := h.ex
  obtain ⟨D, hD⟩ : ∃ D, ((G.take pre.length).filter (dueB now)).map Gw.x = D := ⟨_, rfl⟩
  rw [hD] at h2
  obtain ⟨p, cap, hv⟩ := WRow.sl h2
  obtain ⟨n, hn⟩ : ∃ n, D.length = n := ⟨_, rfl⟩
  have hnn : n ≤ 65536 := by
    have e1 : D.length ≤ (G.take pre.length).length := by rw [← hD, List.length_map]; exact List.length_filter_le _ _
    have e2 := h0.len
    rw [List.length_take] at e1
    omega
  rw [hn] at hv
  subst hv
  obtain ⟨WA, hWA⟩ : ∃ W, X.alloc (.cells #[.pointer (some ⟨g.x, 0, none⟩)] 102) = W := ⟨_, rfl⟩
  have tA : Turn NoBlock X WA := by rw [← hWA]; exact (Turn.refl _ X).alloc _
  have hrd : Rd WA 1 (.slice (some ⟨X.heap.size, 0, none⟩) 1 1) 1 (pcells [g.x]) := by rw [← hWA]; exact rd_new X 102 1 #[.pointer (some ⟨g.x, 0, none⟩)] rfl
  obtain ⟨iK, hiK, hzK, hsK, hbK⟩ := info_parts infoPw
  have rowA := h2.past tA
  unfold DRow at rowA
  obtain ⟨v', W9, hap, w9, t9, k9⟩ := WRow.append rowA 114 114 iK _ 8 duesT hiK hzK hsK hbK rfl (hrd.src 114 102 duesT (pcells_one _)) (by unfold maxLen; omega) (by omega)
  obtain ⟨p', cap', rfl⟩ := w9.sl
  rw [hn] at w9 hap k9
  have row9 : DRow (.slice p' (n + 1) cap') (D ++ [g.x]) W9 := by
    unfold DRow pcells
    rw [List.length_append, List.map_append, hn]
    exact w9
  have hEn : ¬ Blk (.slice p n cap) (E + 1) := fun hk => by have := h3 _ hk; omega
  have vA := tA.heap h1 (fun h => h)
  have v9 := t9.heap vA hEn
  have tt : Turn (fun k => Blk (.slice p n cap) k ∨ k = E + 1) X (W9.setCell ⟨E + 1, 0, none⟩ (.slice p' (n + 1) cap')) := ((TU tA).trans (t9.mono (G := fun k => Blk (.slice p n cap) k ∨ k = E + 1) (fun k hk => .inl (.inl hk))) (fun _ h => .inl h)).trans ((Turn.refl (fun k => k = E + 1) W9).setCell (p := ⟨E + 1, 0, none⟩) (.inl rfl) _) (fun k hk => .inl (.inr hk))
  have hlow : ∀ k, Blk (.slice p n cap) k ∨ k = E + 1 → k = E + 1 ∨ E + 4 ≤ k := fun k hk => by
    rcases hk with hk | hk
    · exact .inr (h3 k hk)
    · exact .inl hk
  have hE1 := lt_of_block h1
  have hE3 := lt_of_block h.b3
  have hk9 : ∀ k, Blk (.slice p' (n + 1) cap') k → E + 4 ≤ k := fun k hk => by
    rcases k9 k hk with h4 | h4
    · exact h3 k h4
    · have := tA.size; omega
  refine ⟨p, n, cap, p', cap', W9, cell_at h1 0, fun ty => by rw [hWA]; exact hap ty, cell_at v9 0, free_at v9 0, Lib.hid ⟨⟨by rw [hl]; omega, h.mem.kept tt (fun k hk e => ?_), tt.heap h.b0 (fun e => by have := hlow _ e; omega), ⟨_, set_at v9 0 _, ?_, hk9⟩, tt.heap h.b2 (fun e => by have := hlow _ e; omega), tt.heap h.b3 (fun e => by have := hlow _ e; omega), h.turn.trans tt (fun k e => .inr (by have := hlow _ e; omega))⟩, keeps_low tt (fun k hk => ?_)⟩⟩
  · have h4 := h0.mem.lt hk
    have := hlow _ e; omega
  · rw [hl, take_due hg, hd, List.map_append, hD]
    exact row9.kept ((Turn.refl (fun k => k = E + 1) W9).setCell (p := ⟨E + 1, 0, none⟩) (.inl rfl) _) (fun k hk e => by have := hk9 k hk; omega)
  · rcases hk with hk | hk
    · exact .inr ⟨_, WRow.typed h2 hk⟩
    · exact .inl (by omega)
/-- Who is due, as elements of G. -/
def dueL (G : List Gw) (now : Int) : List { g : Gw // g ∈ G } := G.attach.filter (fun y => dueB now y.1)
theorem dueL_ptrs (G : List Gw) (now : Int) : ptrs (dueL G now) = (G.filter (dueB now)).map Gw.x := by
  unfold ptrs dueL
  have : (G.attach.filter (fun y => dueB now y.1)).map Subtype.val = G.filter (dueB now) := by
    have := List.filter_map (f := Subtype.val) (p := dueB now) (l := G.attach)
    rw [List.attach_map_subtype_val] at this
    exact this.symm
  rw [← this, List.map_map]
  rfl
theorem dueL_len (G : List Gw) (now : Int) : (dueL G now).length ≤ G.length := by
  unfold dueL
  exact Nat.le_trans (List.length_filter_le _ _) (by simp)
theorem dueL_nodup {G : List Gw} {now : Int} (h : (G.map Gw.x).Nodup) : (ptrs (dueL G now)).Nodup := by
  rw [dueL_ptrs]
  exact h.sublist (List.Sublist.map _ List.filter_sublist)
theorem rest_due {G : List Gw} {now : Int} {D : List { g : Gw // g ∈ G }} (h : D.Perm (dueL G now)) (hn : (G.map Gw.x).Nodup) : restX G (ptrs D) = G.filter (fun g => !dueB now g) := by
  unfold restX
  apply List.filter_congr
  intro g hg
  have e : (ptrs D).contains g.x = dueB now g := by
    rw [Bool.eq_iff_iff, List.contains_iff_mem]
    have hm : g.x ∈ ptrs D ↔ g.x ∈ ptrs (dueL G now) := (h.map _).mem_iff
    rw [hm, dueL_ptrs, List.mem_map]
    constructor
    · rintro ⟨y, hy, he⟩
      obtain ⟨h1, h2⟩ := List.mem_filter.1 hy
      rw [← same_x hn h1 hg he]
      exact h2
    · intro h2
      exact ⟨g, List.mem_filter.2 ⟨hg, h2⟩, rfl⟩
  rw [e]
def woke (a : Wt) : Wk := ⟨a.t, -1, -21, 0⟩
/-- What holds ahead of a round of the letting go. -/
structure ExLoop (w : World) (E c : Nat) (most : Int) (tm lm : Nat) (G : List Gw) (r : Int → Nat) (K : List Int) (D : List { g : Gw // g ∈ G }) (vD : Value) (B : Nat) (i : Nat) (v : Value) (X : World) : Prop where
  mem : ∃ K', (∀ n ∈ K', n ∈ K) ∧ WM X c most tm lm (restX G (ptrs (D.take i))) r K'
  rowD : DRow vD (ptrs D) X
  rowK : KRow v ((D.take i).map (fun y => woke y.1.a)) X
  frD : ∀ k, Blk vD k → E + 4 ≤ k
  frK : ∀ k, Blk v k → E + 4 ≤ k
  dk : X.heap[B]? = some (.deferred (some [])) ∧ E + 4 ≤ B
  turn : Turn (GFoot c tm lm G r K) w X
theorem ExLoop.next {E B : Nat} {D : List { g : Gw // g ∈ G }} {vD v : Value} {i : Nat} (h : ExLoop w E c most tm lm G r K D vD B i v X) (h0 : WM w c most tm lm G r K) (hE : w.heap.size = E) (hn : (ptrs D).Nodup) (hDl : D.length ≤ 65536) {y : { g : Gw // g ∈ G }} (hy : D[i]? = some y) :
    ∃ p n cap p' cap' W9, v = .slice p n cap ∧ X.cell? ⟨y.1.x, 0, none⟩ = some (.int .i64 y.1.a.t) ∧
      (∀ ty, (Builtin.append_ #[42, 42] ty #[.slice p n cap, .slice (some ⟨X.heap.size, 0, none⟩) 1 1]).run Try.prog (X.alloc (.cells #[.int .i64 y.1.a.t, .int .i64 (-1), .int .i64 (-21), .int .i64 0] 61)) = .ok (.slice p' (n + 1) cap') W9) ∧
      Hid (Calls Try.prog 61 #[.pointer (some ⟨c, 0, none⟩), .pointer (some ⟨y.1.x, 0, none⟩)] W9 fun e Y => e = .returned (.tuple #[]) ∧ ExLoop w E c most tm lm G r K D vD B (i + 1) (.slice p' (n + 1) cap') Y) := by
  have hil := (List.getElem?_eq_some_iff.1 hy).1
  obtain ⟨K1, hs1, m1⟩ := h.mem
  have htk : D.take (i + 1) = D.take i ++ [y] := by rw [List.take_add_one, hy]; rfl
  have hpt : ptrs (D.take (i + 1)) = ptrs (D.take i) ++ [y.1.x] := by rw [htk]; simp [ptrs]
  have hyr : y.1 ∈ restX G (ptrs (D.take i)) := by
    refine List.mem_filter.2 ⟨y.2, ?_⟩
    have hc : y.1.x ∉ ptrs (D.take i) := fun hm => by
      have e : D = D.take i ++ y :: D.drop (i + 1) := by
        have := List.take_append_drop (i + 1) D
        rw [htk] at this
        rw [List.append_assoc] at this
        exact this.symm
      rw [e] at hn
      simp only [ptrs, List.map_append, List.map_cons] at hn
      exact (List.nodup_append.1 hn).2.2 y.1.x hm y.1.x List.mem_cons_self rfl
    simpa using hc
  have x0 := (m1.mem.obj y.1 hyr).x0
  have hk := h.rowK
  obtain ⟨p, cap, hv⟩ := WRow.sl hk
  obtain ⟨n, hnn⟩ : ∃ n, ((D.take i).map (fun y => woke y.1.a)).length = n := ⟨_, rfl⟩
  have hn6 : n ≤ 65536 := by rw [← hnn, List.length_map, List.length_take]; omega
  rw [hnn] at hv
  subst hv
  obtain ⟨WA, hWA⟩ : ∃ W, X.alloc (.cells #[.int .i64 y.1.a.t, .int .i64 (-1), .int .i64 (-21), .int .i64 0] 61) = W := ⟨_, rfl⟩
  have tA : Turn NoBlock X WA := by rw [← hWA]; exact (Turn.refl _ X).alloc _
  have hrd : Rd WA 4 (.slice (some ⟨X.heap.size, 0, none⟩) 1 1) 1 (wkcells [woke y.1.a]) := by rw [← hWA]; exact rd_new X 61 4 #[.int .i64 y.1.a.t, .int .i64 (-1), .int .i64 (-21), .int .i64 0] rfl
  obtain ⟨iK, hiK, hzK, hsK, hbK⟩ := info_parts infoWk
  have rowA := hk.past tA
  unfold KRow at rowA
  obtain ⟨v', W9, hap, w9, t9, k9⟩ := WRow.append rowA 42 42 iK _ 32 wokensT hiK hzK hsK hbK rfl (hrd.src 42 61 wokensT (wkcells_one _)) (by unfold maxLen; omega) (by omega)
  obtain ⟨p', cap', rfl⟩ := w9.sl
  rw [hnn] at w9 hap k9
  have row9 : KRow (.slice p' (n + 1) cap') ((D.take (i + 1)).map (fun y => woke y.1.a)) W9 := by
    unfold KRow wkcells
    rw [htk, List.map_append, List.length_append, fl_app, hnn]
    exact w9
  have tX : Turn (Blk (.slice p n cap)) X W9 := (TU tA).trans t9 (fun _ h => .inl h)
  have hXE : E + 4 ≤ X.heap.size := by have := lt_of_block h.dk.1; have := h.dk.2; omega
  have hfoot : ∀ j, GFoot c tm lm (restX G (ptrs (D.take i))) r K1 j → GFoot c tm lm G r K j ∧ j < E := fun j hj => by
    have h1 := foot_lt h0.mem (rest_sub G _) hs1 hj
    exact ⟨h1.1, by have := h1.2; omega⟩
  have m9 := m1.kept tX (fun j hj hb => by have := (hfoot j hj).2; have := h.frK j hb; omega)
  have frK9 : ∀ k, Blk (.slice p' (n + 1) cap') k → E + 4 ≤ k := fun k hk => by
    rcases k9 k hk with h4 | h4
    · exact h.frK k h4
    · have := tA.size; omega
  refine ⟨p, n, cap, p', cap', W9, rfl, x0, fun ty => by rw [hWA]; exact hap ty, Lib.hid ?_⟩
  refine (m9.dropAt hyr).mono ?_
  rintro e Y ⟨rfl, ⟨K2, hs2, m2⟩, tY⟩
  have hlow : ∀ j, E + 4 ≤ j → ¬ GFoot c tm lm (restX G (ptrs (D.take i))) r K1 j := fun j hj hf => by have := (hfoot j hf).2; omega
  refine ⟨rfl, ⟨⟨K2, fun n hn => hs1 n (hs2 n hn), by rw [hpt, rest_snoc]; exact m2⟩, ?_, row9.kept tY (fun j hj => hlow j (frK9 j hj)), h.frD, frK9, ⟨tY.heap (tX.heap h.dk.1 (fun hb => ?_)) (hlow _ h.dk.2), h.dk.2⟩, (h.turn.trans tX (fun j hj => .inr (by have := h.frK j hj; omega))).trans tY (fun j hj => .inl (hfoot j hj).1)⟩⟩
  · exact (h.rowD.kept tX (fun j hj hj2 => blks_typed h.rowD hk (by decide) j hj hj2)).kept tY (fun j hj => hlow j (h.frD j hj))
  · obtain ⟨cur, hc⟩ := WRow.typed hk hb
    have := h.dk.1
    rw [hc] at this
    cases this
end
end Go.Proofs.Ytabakjimlndhcaa
