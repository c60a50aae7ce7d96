/-
  What split answers. No conditions but that the pieces rise and lie in the region, and the range too.
-/
import Derived.Test.YtdddmjdlikjedaaGReg3
import Derived.Test.YtdddmjdlikjedaaGReg5
import Derived.Test.YtdddmjdlikjedaaGReg8
namespace Go.Proofs.Ytdddmjdlikjedaa
open Go.ChangeShapes Go.WideShapes Go.ChangeAt Go.RowKit Go.Shelf

attribute [local go_sem] Oper.semAt_some

theorem wpIn_then {F : Fence} {n : Nat} {P : Program} {c : Code} {Q : Exit → Act → World → Prop} {a : Act} {w : World} (h : c.wpIn F n P (Exit.then (fun a w => Q .normal a w) Q) a w) : c.wpIn F n P Q a w :=
  wpIn_mono h (fun e a w h => by cases e <;> exact h)

/-- The parts of a piece that lie outside a range. -/
def outP (x n : Int) (p : Pc) : List Pc := (if p.at' < x then [partP p p.at' (x - p.at')] else []) ++ (if x + n < p.fin then [partP p (x + n) (p.fin - (x + n))] else [])
def seg (l : List Pc) (k b : Nat) : List Pc := (l.take b).drop k
section
variable {l : List Pc} {x n : Int} {k b : Nat}
def ins (pre : List (Sg l x n k b)) : List Pc := pre.map (fun y => partP y.1.2 x n)
def outs (pre : List (Sg l x n k b)) : List Pc := pre.flatMap (fun y => outP x n y.1.2)
theorem ins_snoc (pre : List (Sg l x n k b)) (y : Sg l x n k b) : ins (pre ++ [y]) = ins pre ++ [partP y.1.2 x n] := by simp [ins]
theorem outs_snoc (pre : List (Sg l x n k b)) (y : Sg l x n k b) : outs (pre ++ [y]) = outs pre ++ outP x n y.1.2 := by simp [outs]
theorem seg_all {ys : List (Sg l x n k b)} (h : IsSeg ys (b - k)) (_hb : b ≤ l.length) (hk : k ≤ b) : ys.map (fun y => y.1.2) = seg l k b := by
  apply List.ext_getElem?
  intro i
  unfold seg
  rw [List.getElem?_map, List.getElem?_drop, List.getElem?_take]
  by_cases hi : i < b - k
  · obtain ⟨y, hy⟩ := gget_some (show i < ys.length by rw [h.1]; exact hi)
    have h1 := h.2 i y hy
    have h2 := y.2.2.2.1
    rw [hy, if_pos (by omega), ← h1, h2]
    rfl
  · rw [List.getElem?_eq_none (by rw [h.1]; omega), if_neg (by omega)]
    rfl
end
/-- What split's results hold on the way. -/
structure SpI (C : Nat) (x n : Int) (li lo : List Pc) (W : World) : Prop where
  bx : Boxed W C 3 (.int .i64 x)
  bn : Boxed W (C + 1) 3 (.int .i64 n)
  rows : ∃ vi vo, Boxed W (C + 2) 65 vi ∧ Boxed W (C + 3) 65 vo ∧ PRow vi li W ∧ PRow vo lo W ∧ (∀ j, Blk vi j → C + 7 ≤ j) ∧ (∀ j, Blk vo j → C + 7 ≤ j) ∧ (∀ j, Blk vi j → ¬ Blk vo j)
theorem prow_from (B : Nat) {W W' : World} {v : Value} {l : List Pc} {row : Option Nat} (h : PRow v l W) (hg : W.grownBy W' row) (hr : ∀ k, row = some k → B ≤ k ∧ ∃ o, W.heap[k]? = some o ∧ o.isCells = false) : PRow v l W' := by
  refine (own_prow v l).kept W W' (fun k => row = some k) h ((Turn.refl _ W).grown hg (fun k hk => .inl hk)) (fun k hk e => ?_)
  obtain ⟨cur, hc⟩ := own_block h hk
  obtain ⟨-, ob, ho, hn⟩ := hr k e
  rw [hc] at ho
  cases ho
  cases hn
theorem spi_own {β : Type} (B C : Nat) (x n : Int) (f g : β → List Pc) : OwnFrom B (fun (s : β) W => SpI C x n (f s) (g s) W) := by
  intro s W W' row hs hg hr
  obtain ⟨h1, h2, vi, vo, h3, h4, h5, h6, h7⟩ := hs
  exact ⟨own_boxed _ _ _ B s W W' row h1 hg hr, own_boxed _ _ _ B s W W' row h2 hg hr, vi, vo, own_boxed _ _ _ B s W W' row h3 hg hr, own_boxed _ _ _ B s W W' row h4 hg hr, prow_from B h5 hg (fun k hk => by obtain ⟨q1, q2, q3, q4⟩ := hr k hk; exact ⟨q1, q2, q3, q4⟩), prow_from B h6 hg (fun k hk => by obtain ⟨q1, q2, q3, q4⟩ := hr k hk; exact ⟨q1, q2, q3, q4⟩), h7⟩
theorem boxed_one {W : World} {B : Nat} {t : TypeId} {u v : Value} (h : Boxed W B t u) (h' : Boxed W B t v) : u = v := by
  have h1 : W.heap[B]? = some (.cells #[u] t (0, 0)) := h
  have h2 : W.heap[B]? = some (.cells #[v] t (0, 0)) := h'
  rw [h1] at h2
  simpa using h2

/-- The two results. -/
structure Two (C : Nat) (vi vo : Value) (W : World) : Prop where
  a : Boxed W (C + 2) 65 vi
  b : Boxed W (C + 3) 65 vo
theorem Two.drew {C : Nat} {vi vo : Value} {W : World} (h : Two C vi vo W) : Two C vi vo W.drew := ⟨h.a, h.b⟩
theorem Two.setA {C : Nat} {vi vo : Value} {W : World} (h : Two C vi vo W) : Two C vi vo (W.setCell ⟨C + 2, 0, none⟩ vi) := ⟨h.a.set _, h.b.other (by omega) _⟩
theorem Two.setB {C : Nat} {vi vo : Value} {W : World} (h : Two C vi vo W) : Two C vi vo (W.setCell ⟨C + 3, 0, none⟩ vo) := ⟨h.a.other (by omega) _, h.b.set _⟩
theorem Two.cells {C : Nat} {vi vo : Value} {W : World} (h : Two C vi vo W) : W.cell? ⟨C + 2, 0, none⟩ = some vi ∧ W.cell? ⟨C + 3, 0, none⟩ = some vo := ⟨h.a.cell, h.b.cell⟩
theorem sres_run {C : Nat} {vi vo : Value} {W : World} (h : Two C vi vo W) (tmps : Array Value) (h6 : tmps.getD 6 undef = .pointer (some ⟨C + 2, 0, none⟩)) (h7 : tmps.getD 7 undef = .pointer (some ⟨C + 3, 0, none⟩)) :
    (results Try.f72 tmps).run Try.prog W = .ok (.tuple #[vi, vo]) W := by
  have s0 := h.a.cell
  have s1 := h.b.cell
  rw [results_cc rfl, h6, h7]
  go_simp
/-- A round's state. -/
structure RS (C Bx : Nat) (p : Pc) (x n : Int) (vi vo : Value) (li lo : List Pc) (W : World) : Prop where
  bx : Boxed W C 3 (.int .i64 x)
  bn : Boxed W (C + 1) 3 (.int .i64 n)
  bi : Boxed W (C + 2) 65 vi
  bo : Boxed W (C + 3) 65 vo
  ri : PRow vi li W
  ro : PRow vo lo W
  fi : ∀ j, Blk vi j → C + 7 ≤ j
  fo : ∀ j, Blk vo j → C + 7 ≤ j
  fio : ∀ j, Blk vi j → ¬ Blk vo j
  b9 : W.heap[Bx]? = some (.cells #[.int .i64 p.at', .int .i64 p.len, .int .i64 p.vmo, .int .i64 p.from', .int .i64 p.prot] 61 (0, 0))
  ni : ¬ Blk vi Bx
  no : ¬ Blk vo Bx
  hBx : C + 6 < Bx
  hsz : C + 7 ≤ W.heap.size
section
variable {C Bx a : Nat} {p q : Pc} {x n size most : Int} {vi vo v' v : Value} {li lo l : List Pc} {W W' W'' : World}
theorem RS.inside (h : RS C Bx p x n vi vo li lo W) (g1 : Boxed W' (C + 2) 65 v') (g2 : PRow v' (li ++ [q]) W') (g3 : ∀ j, Blk v' j → Blk vi j ∨ W.heap.size ≤ j) (t : Turn (fun j => j = C + 2 ∨ Blk vi j) W W') : RS C Bx p x n v' vo (li ++ [q]) lo W' := by
  have hz := h.hsz
  have hB := h.hBx
  have nf : ∀ j, j < C + 7 → j ≠ C + 2 → ¬ (j = C + 2 ∨ Blk vi j) := fun j h1 h2 h3 => h3.elim h2 (fun h4 => by have := h.fi j h4; omega)
  refine ⟨t.heap h.bx (nf _ (by omega) (by omega)), t.heap h.bn (nf _ (by omega) (by omega)), g1, t.heap h.bo (nf _ (by omega) (by omega)), g2, (own_prow vo _).kept _ _ _ h.ro t (fun j hj e => ?_), fun j hj => ?_, h.fo, fun j hj ho => ?_, t.heap h.b9 (fun e => ?_), fun e => ?_, h.no, hB, Nat.le_trans hz t.size⟩
  · rcases e with e | e
    · have := h.fo j hj; omega
    · exact h.fio j e hj
  · rcases g3 j hj with e | e
    · exact h.fi j e
    · omega
  · rcases g3 j hj with e | e
    · exact h.fio j e ho
    · have := (own_prow vo _).lt W h.ro j ho; omega
  · rcases e with e | e
    · omega
    · exact h.ni e
  · rcases g3 Bx e with e | e
    · exact h.ni e
    · have := lt_of_block h.b9; omega
theorem RS.outside (h : RS C Bx p x n vi vo li lo W) (g1 : Boxed W' (C + 3) 65 v') (g2 : PRow v' (lo ++ [q]) W') (g3 : ∀ j, Blk v' j → Blk vo j ∨ W.heap.size ≤ j) (t : Turn (fun j => j = C + 3 ∨ Blk vo j) W W') : RS C Bx p x n vi v' li (lo ++ [q]) W' := by
  have hz := h.hsz
  have hB := h.hBx
  have nf : ∀ j, j < C + 7 → j ≠ C + 3 → ¬ (j = C + 3 ∨ Blk vo j) := fun j h1 h2 h3 => h3.elim h2 (fun h4 => by have := h.fo j h4; omega)
  refine ⟨t.heap h.bx (nf _ (by omega) (by omega)), t.heap h.bn (nf _ (by omega) (by omega)), t.heap h.bi (nf _ (by omega) (by omega)), g1, (own_prow vi _).kept _ _ _ h.ri t (fun j hj e => ?_), g2, h.fi, fun j hj => ?_, fun j hj ho => ?_, t.heap h.b9 (fun e => ?_), h.ni, fun e => ?_, hB, Nat.le_trans hz t.size⟩
  · rcases e with e | e
    · have := h.fi j hj; omega
    · exact h.fio j hj e
  · rcases g3 j hj with e | e
    · exact h.fo j e
    · omega
  · rcases g3 j ho with e | e
    · exact h.fio j hj e
    · have := (own_prow vi _).lt W h.ri j hj; omega
  · rcases e with e | e
    · omega
    · exact h.no e
  · rcases g3 Bx e with e | e
    · exact h.no e
    · have := lt_of_block h.b9; omega
theorem RS.past (h : RS C Bx p x n vi vo li lo W) (t : Turn NoBlock W W') : RS C Bx p x n vi vo li lo W' :=
  ⟨t.heap h.bx id, t.heap h.bn id, t.heap h.bi id, t.heap h.bo id, h.ri.past t, h.ro.past t, h.fi, h.fo, h.fio, t.heap h.b9 id, h.ni, h.no, h.hBx, Nat.le_trans h.hsz t.size⟩
/-- What a round's steps keep. -/
structure GRd (C a : Nat) (size most : Int) (v : Value) (l : List Pc) (x n : Int) (W W' : World) : Prop where
  os : KpO (C + 4) (C + 5) (C + 6) a size most v l x n W W'
  bel : Below C W W'
  kf : KeepsFrom (C + 7) W W'
theorem GRd.trans (h : GRd C a size most v l x n W W') (k : GRd C a size most v l x n W' W'') : GRd C a size most v l x n W W'' :=
  ⟨KpO.trans h.os k.os, h.bel.trans k.bel, ⟨Nat.le_trans h.kf.1 k.kf.1, fun j o hj ho hn => k.kf.2 j o hj (h.kf.2 j o hj ho hn) hn⟩⟩
theorem GRd.of (F : Nat → Prop) (t : Turn F W W') (hv : ∀ j, GFoot a v j → j < C) (hz : C + 7 ≤ W.heap.size) (hF : ∀ j, F j → j = C + 2 ∨ j = C + 3 ∨ (C + 7 ≤ j ∧ ∃ c t f, W.heap[j]? = some (.cells c t f))) : GRd C a size most v l x n W W' := by
  refine ⟨fun s => s.kept t (fun j hj e => ?_), ⟨t.os, t.tape, t.output, t.size, fun j hj => t.block j (by omega) (fun e => by rcases hF j e with h | h | h <;> omega)⟩, ⟨t.size, fun j o hj ho hn => t.heap ho (fun e => ?_)⟩⟩
  · rcases hF j e with h | h | h
    · rcases hj with g | g | g | g
      · omega
      · omega
      · omega
      · have := hv j g; omega
    · rcases hj with g | g | g | g
      · omega
      · omega
      · omega
      · have := hv j g; omega
    · rcases hj with g | g | g | g
      · omega
      · omega
      · omega
      · have := hv j g; omega
  · rcases hF j e with h | h | ⟨-, c, t, f, h⟩
    · omega
    · omega
    · rw [ho] at h
      cases h
      cases hn
theorem RS.rdI (h : RS C Bx p x n vi vo li lo W) (t : Turn (fun j => j = C + 2 ∨ Blk vi j) W W') (hv : ∀ j, GFoot a v j → j < C) : GRd C a size most v l x n W W' :=
  GRd.of _ t hv h.hsz (fun j e => e.elim .inl (fun e => .inr (.inr ⟨h.fi j e, by obtain ⟨c, hc⟩ := own_block h.ri e; exact ⟨_, _, _, hc⟩⟩)))
theorem RS.rdO (h : RS C Bx p x n vi vo li lo W) (t : Turn (fun j => j = C + 3 ∨ Blk vo j) W W') (hv : ∀ j, GFoot a v j → j < C) : GRd C a size most v l x n W W' :=
  GRd.of _ t hv h.hsz (fun j e => e.elim (fun e => .inr (.inl e)) (fun e => .inr (.inr ⟨h.fo j e, by obtain ⟨c, hc⟩ := own_block h.ro e; exact ⟨_, _, _, hc⟩⟩)))
theorem RS.rdN (h : RS C Bx p x n vi vo li lo W) (t : Turn NoBlock W W') (hv : ∀ j, GFoot a v j → j < C) : GRd C a size most v l x n W W' :=
  GRd.of _ t hv h.hsz (fun _ e => e.elim)
theorem RS.spi (h : RS C Bx p x n vi vo li lo W) : SpI C x n li lo W := ⟨h.bx, h.bn, vi, vo, h.bi, h.bo, h.ri, h.ro, h.fi, h.fo, h.fio⟩
end
theorem outs_len {l : List Pc} {x n : Int} {k b : Nat} (pre : List (Sg l x n k b)) : (outs pre).length ≤ 2 * pre.length := by
  induction pre with
  | nil => simp [outs]
  | cons y l ih =>
    have h1 : (outP x n y.1.2).length ≤ 2 := by unfold outP; split <;> split <;> simp
    have h2 : outs (y :: l) = outP x n y.1.2 ++ outs l := rfl
    rw [h2, List.length_append, List.length_cons]
    omega

set_option maxRecDepth 100000 in
set_option maxHeartbeats 4000000 in
theorem split_in (m : Nat) (hm : 4 ≤ m) {w : World} {a : Nat} {size most : Int} {v : Value} {l : List Pc} (h : GMem w a size most v l) (ok : GOK size l) (hll : l.length ≤ 65536) (x n : Int) (hx : 0 ≤ x) (hn : 0 ≤ n) (hxn : x + n ≤ size) (k b : Nat) (hs : SegIs l x n k b) :
    CallsIn Fence.wide m Try.prog 72 #[.pointer (some ⟨a, 0, none⟩), .int .i64 x, .int .i64 n] w fun e W' =>
      ∃ vi vo, e = .returned (.tuple #[vi, vo]) ∧ PRow vi ((seg l k b).map (fun p => partP p x n)) W' ∧ PRow vo ((seg l k b).flatMap (outP x n)) W' ∧ (∀ j, Blk vi j → w.heap.size ≤ j) ∧ (∀ j, Blk vo j → w.heap.size ≤ j) ∧ (∀ j, Blk vi j → ¬ Blk vo j) ∧ Turn NoBlock w W' := by
  have h1 : 1 ≤ m := by omega
  obtain ⟨C, hC⟩ : ∃ C, w.heap.size = C := ⟨_, rfl⟩
  have htop := ok.top
  have fx : fit x := by unfold fit; omega
  have fn : fit n := by unfold fit; omega
  obtain ⟨W4, hW4⟩ : ∃ W4, W4 = (((w.alloc (.cells #[.int .i64 x] 3)).alloc (.cells #[.int .i64 n] 3)).alloc (.cells #[.slice none 0 0] 65)).alloc (.cells #[.slice none 0 0] 65) := ⟨_, rfl⟩
  have hT4 : Turn NoBlock w W4 := by rw [hW4]; exact ((((Turn.refl _ w).alloc _).alloc _).alloc _).alloc _
  have hz4 : W4.heap.size = C + 4 := by rw [hW4, ← hC]; simp
  have bA : Boxed W4 C 3 (.int .i64 x) := by rw [hW4, ← hC]; exact (((Boxed.new w 3 _).alloc _).alloc _).alloc _
  have bB : Boxed W4 (C + 1) 3 (.int .i64 n) := by
    rw [hW4, ← hC]
    have := Boxed.new (w.alloc (.cells #[.int .i64 x] 3)) 3 (.int .i64 n)
    rw [World.size_alloc] at this
    exact (this.alloc _).alloc _
  have bC : Boxed W4 (C + 2) 65 (.slice none 0 0) := by
    rw [hW4, ← hC]
    have := Boxed.new ((w.alloc (.cells #[.int .i64 x] 3)).alloc (.cells #[.int .i64 n] 3)) 65 (.slice none 0 0)
    rw [World.size_alloc, World.size_alloc] at this
    exact this.alloc _
  have bD : Boxed W4 (C + 3) 65 (.slice none 0 0) := by
    rw [hW4, ← hC]
    have := Boxed.new (((w.alloc (.cells #[.int .i64 x] 3)).alloc (.cells #[.int .i64 n] 3)).alloc (.cells #[.slice none 0 0] 65)) 65 (.slice none 0 0)
    rw [World.size_alloc, World.size_alloc, World.size_alloc] at this
    exact this
  have hO := osees_new (x := x) (n := n) (h.past hT4)
  rw [hz4] at hO
  have hft : ∀ j, GFoot a v j → j < C := fun j hj => by rw [← hC]; exact h.lt hj
  have hst := over_stops ok hll fx fn hs (m - 1) (by omega) (C + 4) (C + 4 + 1) (C + 4 + 2) _ hO
  have HG := Lib.hid (And.intro ok (And.intro hs hT4))
  clear h ok hs hT4
  refine callsIn_of_wp_marks Try.func72 rfl trivial ?_ rfl
  simp only [Try.ntmps72, List.size_toArray, List.length_cons, List.length_nil, Nat.reduceAdd, Nat.reduceSub, Array.replicate_succ, Array.replicate_zero, List.push_toArray, List.append_toArray, List.nil_append, List.cons_append]
  have e4 := bA.cell
  have e5 := bB.cell
  gi_wp2_with (refine ⟨trivial, ?_⟩; gi_at_call 69; refine (over_in Fence.wide (m - 1) trivial rfl a x n _).mono ?_; rintro e w' ⟨rfl, rfl⟩)
  rw [← hW4]
  simp only [Nat.add_assoc, Nat.reduceAdd]
  simp only [Nat.add_assoc, Nat.reduceAdd] at hst hO
  obtain ⟨W5, hW5⟩ : ∃ W5, W5 = ((W4.alloc (.cells #[.pointer (some ⟨a, 0, none⟩)] 57)).alloc (.cells #[.int .i64 x] 3)).alloc (.cells #[.int .i64 n] 3) := ⟨_, rfl⟩
  rw [← hW5] at hst hO ⊢
  have hz5 : W5.heap.size = C + 7 := by rw [hW5]; simp [hz4]
  have hT5 : Turn NoBlock W4 W5 := by rw [hW5]; exact (((Turn.refl _ _).alloc _).alloc _).alloc _
  have hBel : Below C w W5 := by rw [← hC]; exact (HG.out.2.2.trans hT5 (fun _ h => .inl h)).below (fun _ h => h.elim) (Nat.le_refl _)
  have hSp : SpI C x n (ins ([] : List (Sg l x n k b))) (outs ([] : List (Sg l x n k b))) W5 := ⟨hT5.heap bA (fun h => h), hT5.heap bB (fun h => h), _, _, hT5.heap bC (fun h => h), hT5.heap bD (fun h => h), prow_nil _, prow_nil _, (fun j h => by cases h), (fun j h => by cases h), (fun j h => by cases h)⟩
  clear hW5 hW4 bA bB bC bD e4 e5 hT5
  refine wpIn_rangeFunc_ownH (F := Fence.wide) rfl h1 (gf := 90) (lb := #[.pointer (some ⟨C + 4, 0, none⟩), .pointer (some ⟨C + 5, 0, none⟩), .pointer (some ⟨C + 6, 0, none⟩)]) rfl trivial (enters_of Try.func90 (by kernel_rfl) rfl)
    hst (fun h k => KpO.trans h k) (KpO.put (by omega) (by omega) (by omega) (fun j hj => by have := hft j hj; omega)) (Below.refl _ _) (fun _ => rfl)
    (fun pre W => OSees (C + 4) (C + 5) (C + 6) a size most v l x n W ∧ SpI C x n (ins pre) (outs pre) W ∧ Below C w W)
    (fun _ _ _ => False)
    (OwnFrom.and (ownFrom_of osees_own osees_cells _) (OwnFrom.and (spi_own _ _ _ _ ins outs) (ownFrom_below (by omega) (by omega))))
    (fun _ _ _ _ _ hs _ _ => hs)
    ⟨hO, hSp, hBel⟩
    (fun y a' W => ∃ (Bx : Nat) (vi vo : Value), C + 6 < Bx ∧ W.heap[Bx]? = some (.cells #[.int .i64 y.1.2.at', .int .i64 y.1.2.len, .int .i64 y.1.2.vmo, .int .i64 y.1.2.from', .int .i64 y.1.2.prot] 61 (0, 0)) ∧ Boxed W (C + 2) 65 vi ∧ Boxed W (C + 3) 65 vo ∧ ¬ Blk vi Bx ∧ ¬ Blk vo Bx ∧ a' = { tmps := #[.pointer (some ⟨a, 0, none⟩), .int .i64 x, .int .i64 n, undef, .pointer (some ⟨C, 0, none⟩), .pointer (some ⟨C + 1, 0, none⟩), .pointer (some ⟨C + 2, 0, none⟩), .pointer (some ⟨C + 3, 0, none⟩), undef, .pointer (some ⟨Bx, 0, none⟩), undef, .pointer (some ⟨a, 0, none⟩), .int .i64 x, .int .i64 n, .func (.func 90) #[] #[.pointer (some ⟨C + 4, 0, none⟩), .pointer (some ⟨C + 5, 0, none⟩), .pointer (some ⟨C + 6, 0, none⟩)], .int .i64 ((y.1.1 : Nat) : Int), y.1.2.agg, undef, undef, undef, undef, undef, undef, undef, undef, undef, undef, undef, undef, undef, undef, undef, undef, undef, undef, undef, undef, undef, undef, undef, undef, undef, undef, undef, undef, undef, undef, undef, undef, undef, undef, undef, undef, undef, undef, undef, undef, undef], defers := [] })
    (fun y a' _ X Y row hs hg hr => by
      obtain ⟨Bx, vi, vo, g1, g2, g3, g4, g5⟩ := hs
      exact ⟨Bx, vi, vo, g1, ownFrom_cells (β := Unit) _ _ _ _ () X Y row g2 hg hr, own_boxed (β := Unit) _ _ _ _ () X Y row g3 hg hr, own_boxed (β := Unit) _ _ _ _ () X Y row g4 hg hr, g5⟩)
    ?assign ?body ?done ?stop
  case assign =>
    rintro i pre y W K ⟨hO, hS, hB⟩ hK
    unfold Sg.enc Pc.agg at *
    have hsz := hO.b2.lt
    gi_wp2
    have tA : Turn NoBlock W (W.alloc (.cells #[.int .i64 y.1.2.at', .int .i64 y.1.2.len, .int .i64 y.1.2.vmo, .int .i64 y.1.2.from', .int .i64 y.1.2.prot] 61)) := (Turn.refl _ _).alloc _
    have hS0 := hS
    obtain ⟨s1, s2, vi, vo, s3, s4, s5, s6, s7, s8, s9⟩ := hS
    exact hK _ _ ((KeepsOthers.alloc _ _).from _) (fun s => s.past tA) ⟨hO.past tA, ⟨tA.heap s1 id, tA.heap s2 id, vi, vo, tA.heap s3 id, tA.heap s4 id, s5.past tA, s6.past tA, s7, s8, s9⟩, hB.alloc (by have := hB.size; omega) _⟩ ⟨W.heap.size, vi, vo, by omega, heap_alloc_new W _, tA.heap s3 id, tA.heap s4 id, fun e => by have := (own_prow vi _).lt W s5 _ e; omega, fun e => by have := (own_prow vo _).lt W s6 _ e; omega, rfl⟩
  case body =>
    rintro i pre y a' W hl' ⟨r, hr⟩ ⟨hO, ⟨bx, bn, vi', vo', bi', bo', ri, ro, fi, fo, fio⟩, hB⟩ ⟨Bx, vi, vo, hBx, b9, bi, bo, nbi, nbo, rfl⟩ hlt
    obtain rfl : vi = vi' := boxed_one bi bi'
    obtain rfl : vo = vo' := boxed_one bo bo'
    clear bi' bo' hr
    have hE := HG.out.1.each y.1.2 (List.mem_of_getElem? y.2.2.2.1)
    have hov := y.2.2.2.2
    unfold Ov at hov
    have hb1 : 0 ≤ y.1.2.at' ∧ 0 ≤ y.1.2.len ∧ y.1.2.fin ≤ 4294967296 := by omega
    have hb3 : 0 ≤ y.1.2.from' ∧ y.1.2.from' ≤ 8589934592 := by unfold Pc.fin at *; omega
    have hbk := HG.out.2.1.hi
    have hli : (ins pre).length ≤ 262144 := by unfold ins; rw [List.length_map]; omega
    have hlo := outs_len pre
    have hw6 : IntKind.i64.wrap (x + n) = x + n := wrap_fit (by unfold fit; omega)
    have cE := fun W => gend_any y.1.2 W (by unfold fit; omega)
    unfold Pc.agg at cE
    have S0 : RS C Bx y.1.2 x n vi vo (ins pre) (outs pre) W := ⟨bx, bn, bi, bo, ri, ro, fi, fo, fio, b9, nbi, nbo, hBx, by have := hO.b2.lt; omega⟩
    have HO := Lib.hid (And.intro hO hB)
    clear bx bn bi bo ri ro fi fo fio b9 nbi nbo hO hB
    have hd1 : 1 ≤ m - 1 - 1 := by omega
    have h12 : C ≠ C + 2 ∧ C + 1 ≠ C + 2 ∧ C ≠ C + 3 ∧ C + 1 ≠ C + 3 := by omega
    gi_wp2
    refine reg3 i _ C (C + 1) (C + 2) (C + 3) Bx y.1.2 _ x n vi _ W _ _ _ _ _ _ _ _ _ _ _ _ _ _ _ _ _ _ _ _ _ _ _ _ _ _ _ _ _ _ _ _ _ _ _ _ _ _ _ _ _ _ _ _ _ _ _ _ _ _ _ _ _ _ _ (by rintro ⟨a, w, h⟩; exact h) (by intro c a w h; exact h) S0.b9 S0.bx S0.bn S0.bi S0.ri hli ⟨by omega, by omega, by omega⟩ (fun j hj => by have := S0.fi j hj; have := S0.ni; refine ⟨fun e => ?_, by omega, by omega, by omega⟩; subst e; exact S0.ni hj) rfl hb1 hb3 (by omega) ?_
    intro blk3 v3 W3 g1 g2 g3 t3
    have S3 := S0.inside g1 g2 g3 t3
    have R3 := S0.rdI (a := a) (size := size) (most := most) (v := v) (l := l) t3 hft
    have HR := Lib.hid (And.intro S3 R3)
    have x0 := cell_at S3.b9 0
    have y0 := S3.bx.cell
    simp at x0
    clear S3 R3 g1 g2 g3 t3 x0 y0
    have x0 := cell_at (HR.out.1).b9 0
    have x1 := cell_at (HR.out.1).b9 1
    have x2 := cell_at (HR.out.1).b9 2
    have x3 := cell_at (HR.out.1).b9 3
    have x4 := cell_at (HR.out.1).b9 4
    have y0 := (HR.out.1).bx.cell
    have y1 := (HR.out.1).bn.cell
    simp at x0 x1 x2 x3 x4
    by_cases h5 : y.1.2.at' < x
    · gi_wp2
      refine reg5 i _ C (C + 1) (C + 2) (C + 3) Bx y.1.2 _ x n vo _ W3 _ _ _ _ _ _ _ _ _ _ _ _ _ _ _ _ _ _ _ _ _ _ _ _ _ _ _ _ _ _ _ _ _ _ _ _ _ _ _ _ _ _ _ _ _ _ _ _ _ _ _ _ _ _ _ (by rintro ⟨a, w, h⟩; exact h) (by intro c a w h; exact h) HR.out.1.b9 HR.out.1.bx HR.out.1.bn HR.out.1.bo HR.out.1.ro (by omega) ⟨by omega, by omega, by omega⟩ (fun j hj => by have := HR.out.1.fo j hj; refine ⟨fun e => ?_, by omega, by omega, by omega⟩; subst e; exact HR.out.1.no hj) rfl hb1 hb3 ⟨hx, by omega, h5⟩ ?_
      intro blk5 v5 W6 k1 k2 k3 t6
      have HQ := Lib.hid (And.intro (HR.out.1.outside k1 k2 k3 t6) (HR.out.2.trans (HR.out.1.rdO (a := a) (size := size) (most := most) (v := v) (l := l) t6 hft)))
      clear x0 x1 x2 x3 x4 y0 y1 k1 k2 k3 t6
      have x0 := cell_at (HQ.out.1).b9 0
      have x1 := cell_at (HQ.out.1).b9 1
      have x2 := cell_at (HQ.out.1).b9 2
      have x3 := cell_at (HQ.out.1).b9 3
      have x4 := cell_at (HQ.out.1).b9 4
      have y0 := (HQ.out.1).bx.cell
      have y1 := (HQ.out.1).bn.cell
      simp at x0 x1 x2 x3 x4
      by_cases h8 : x + n < y.1.2.fin
      · gi_wp2_with (refine ⟨trivial, ?_⟩; gi_at_call 75; refine (CallsIn.inRound i (callsIn_wide.2 (cE _))).mono ?_; rintro e w5 ⟨rfl, t5⟩)
        have S6 := HQ.out.1.past t5
        have R6 := HQ.out.2.trans (HQ.out.1.rdN (a := a) (size := size) (most := most) (v := v) (l := l) t5 hft)
        refine wpIn_then ?_
        refine reg8 i _ C (C + 1) (C + 2) (C + 3) Bx y.1.2 _ x n (x + n) v5 (outs pre ++ [partP y.1.2 y.1.2.at' (x - y.1.2.at')]) w5 _ _ _ _ _ _ _ _ _ _ _ _ _ _ _ _ _ _ _ _ _ _ _ _ _ _ _ _ _ _ _ _ _ _ _ _ _ _ _ _ _ _ _ _ _ _ _ _ _ _ _ _ _ _ (by rintro ⟨a, w, h⟩; exact h) (by intro c a w h; exact h) S6.b9 S6.bx S6.bn S6.bo S6.ro (by (try simp); omega) ⟨by omega, by omega, by omega⟩ (fun j hj => by have := S6.fo j hj; refine ⟨fun e => ?_, by omega, by omega, by omega⟩; subst e; exact S6.no hj) rfl hb1 hb3 ⟨by omega, by omega, h8⟩ ?_
        intro blk8 v8 W8 k1 k2 k3 t8
        have S8 := S6.outside k1 k2 k3 t8
        have R8 := R6.trans (S6.rdO (a := a) (size := size) (most := most) (v := v) (l := l) t8 hft)
        gi_wp2
        refine ⟨by rw [hz5]; exact R8.kf, R8.os, R8.os HO.out.1, ?_, HO.out.2.trans R8.bel⟩
        rw [ins_snoc, outs_snoc]
        have hs8 := S8.spi
        unfold outP
        rw [if_pos (by omega), if_pos (by omega)]
        simpa using hs8
      · gi_wp2_with (refine ⟨trivial, ?_⟩; gi_at_call 75; refine (CallsIn.inRound i (callsIn_wide.2 (cE _))).mono ?_; rintro e w5 ⟨rfl, t5⟩)
        have S6 := HQ.out.1.past t5
        have R6 := HQ.out.2.trans (HQ.out.1.rdN (a := a) (size := size) (most := most) (v := v) (l := l) t5 hft)
        have S8 := S6
        have R8 := R6
        refine ⟨by rw [hz5]; exact R8.kf, R8.os, R8.os HO.out.1, ?_, HO.out.2.trans R8.bel⟩
        rw [ins_snoc, outs_snoc]
        have hs8 := S8.spi
        unfold outP
        rw [if_pos (by omega), if_neg (by omega)]
        simpa using hs8
    · have HQ := HR
      by_cases h8 : x + n < y.1.2.fin
      · gi_wp2_with (refine ⟨trivial, ?_⟩; gi_at_call 75; refine (CallsIn.inRound i (callsIn_wide.2 (cE _))).mono ?_; rintro e w5 ⟨rfl, t5⟩)
        have S6 := HQ.out.1.past t5
        have R6 := HQ.out.2.trans (HQ.out.1.rdN (a := a) (size := size) (most := most) (v := v) (l := l) t5 hft)
        refine wpIn_then ?_
        refine reg8 i _ C (C + 1) (C + 2) (C + 3) Bx y.1.2 _ x n (x + n) vo (outs pre) w5 _ _ _ _ _ _ _ _ _ _ _ _ _ _ _ _ _ _ _ _ _ _ _ _ _ _ _ _ _ _ _ _ _ _ _ _ _ _ _ _ _ _ _ _ _ _ _ _ _ _ _ _ _ _ (by rintro ⟨a, w, h⟩; exact h) (by intro c a w h; exact h) S6.b9 S6.bx S6.bn S6.bo S6.ro (by (try simp); omega) ⟨by omega, by omega, by omega⟩ (fun j hj => by have := S6.fo j hj; refine ⟨fun e => ?_, by omega, by omega, by omega⟩; subst e; exact S6.no hj) rfl hb1 hb3 ⟨by omega, by omega, h8⟩ ?_
        intro blk8 v8 W8 k1 k2 k3 t8
        have S8 := S6.outside k1 k2 k3 t8
        have R8 := R6.trans (S6.rdO (a := a) (size := size) (most := most) (v := v) (l := l) t8 hft)
        gi_wp2
        refine ⟨by rw [hz5]; exact R8.kf, R8.os, R8.os HO.out.1, ?_, HO.out.2.trans R8.bel⟩
        rw [ins_snoc, outs_snoc]
        have hs8 := S8.spi
        unfold outP
        rw [if_neg (by omega), if_pos (by omega)]
        simpa using hs8
      · gi_wp2_with (refine ⟨trivial, ?_⟩; gi_at_call 75; refine (CallsIn.inRound i (callsIn_wide.2 (cE _))).mono ?_; rintro e w5 ⟨rfl, t5⟩)
        have S6 := HQ.out.1.past t5
        have R6 := HQ.out.2.trans (HQ.out.1.rdN (a := a) (size := size) (most := most) (v := v) (l := l) t5 hft)
        have S8 := S6
        have R8 := R6
        refine ⟨by rw [hz5]; exact R8.kf, R8.os, R8.os HO.out.1, ?_, HO.out.2.trans R8.bel⟩
        rw [ins_snoc, outs_snoc]
        have hs8 := S8.spi
        unfold outP
        rw [if_neg (by omega), if_neg (by omega)]
        simpa using hs8
  case stop =>
    rintro D c pre W _ _ h _
    exact h.elim
  case done =>
    rintro D ys W hD hI ⟨hO, ⟨bx, bn, vi, vo, bi, bo, ri, ro, fi, fo, fio⟩, hB⟩ hK
    have hseg := seg_all hI HG.out.2.1.hi HG.out.2.1.lo
    obtain ⟨ki, hki⟩ : ∃ ki, (ins ys).length = ki := ⟨_, rfl⟩
    obtain ⟨ko, hko⟩ : ∃ ko, (outs ys).length = ko := ⟨_, rfl⟩
    obtain ⟨pi, ci, hvi⟩ := ri.slice
    obtain ⟨po, co, hvo⟩ := ro.slice
    rw [hki] at hvi
    rw [hko] at hvo
    subst hvi hvo
    have HS := Lib.hid (And.intro hO (And.intro bi (And.intro bo (And.intro ri (And.intro ro (And.intro fi (And.intro fo (And.intro fio (And.intro hB (And.intro hK hseg))))))))))
    have e6 := bi.cell
    have e7 := bo.cell
    have f6 := bi.frozen
    have f7 := bo.frozen
    have b0 : Two C (.slice pi ki ci) (.slice po ko co) W := ⟨bi, bo⟩
    have P0 := b0.drew.cells
    have P1 := b0.setA.drew.cells
    have P2 := b0.setB.drew.cells
    have P3 := b0.setA.setB.drew.cells
    have P4 := b0.setB.setA.drew.cells
    have Q3 := b0.setA.setB.drew
    have Q4 := b0.setB.setA.drew
    have v3 : Turn (fun j => j = C + 2 ∨ j = C + 3) W ((W.setCell ⟨C + 2, 0, none⟩ (.slice pi ki ci)).setCell ⟨C + 3, 0, none⟩ (.slice po ko co)).drew := (((Turn.refl (fun j => j = C + 2 ∨ j = C + 3) W).setCell (p := ⟨C + 2, 0, none⟩) (.inl (.inl rfl)) _).setCell (p := ⟨C + 3, 0, none⟩) (.inl (.inr rfl)) _).drew
    have v4 : Turn (fun j => j = C + 2 ∨ j = C + 3) W ((W.setCell ⟨C + 3, 0, none⟩ (.slice po ko co)).setCell ⟨C + 2, 0, none⟩ (.slice pi ki ci)).drew := (((Turn.refl (fun j => j = C + 2 ∨ j = C + 3) W).setCell (p := ⟨C + 3, 0, none⟩) (.inl (.inr rfl)) _).setCell (p := ⟨C + 2, 0, none⟩) (.inl (.inl rfl)) _).drew
    have hins : ins ys = (seg l k b).map (fun p => partP p x n) := by rw [← hseg, List.map_map]; rfl
    have houts : outs ys = (seg l k b).flatMap (outP x n) := by rw [← hseg, List.flatMap_map]; rfl
    have hfin : ∀ (Wf : World) (_ : Two C (.slice pi ki ci) (.slice po ko co) Wf) (_ : Turn (fun j => j = C + 2 ∨ j = C + 3) W Wf) (tmps : Array Value) (_ : tmps.getD 6 undef = .pointer (some ⟨C + 2, 0, none⟩)) (_ : tmps.getD 7 undef = .pointer (some ⟨C + 3, 0, none⟩)),
        bodyPostM Fence.wide m Try.prog Try.f72 (fun e W' => ∃ vi vo, e = .returned (.tuple #[vi, vo]) ∧ PRow vi ((seg l k b).map (fun p => partP p x n)) W' ∧ PRow vo ((seg l k b).flatMap (outP x n)) W' ∧ (∀ j, Blk vi j → w.heap.size ≤ j) ∧ (∀ j, Blk vo j → w.heap.size ≤ j) ∧ (∀ j, Blk vi j → ¬ Blk vo j) ∧ Turn NoBlock w W')
          Exit.ret { tmps := tmps, defers := [{ target := .collected D, args := #[] }] } Wf := by
      intro Wf h2 t tmps h6 h7
      have kf := t.heap hK (by omega)
      refine ⟨by simp, .inl ⟨_, _, rfl, run_takeDeferred kf, ?_⟩⟩
      have tp := turn_putObj Wf D (.deferred none)
      have hnd : ∀ (u : Value) (li : List Pc), PRow u li W → (∀ j, Blk u j → C + 7 ≤ j) → PRow u li (Wf.putObj D (.deferred none)) := fun u li hu hf => by
        have h3 : PRow u li Wf := (own_prow u li).kept _ _ _ hu t (fun j hj e => by have := hf j hj; omega)
        refine (own_prow u li).kept _ _ _ h3 tp (fun j hj e => ?_)
        subst e
        obtain ⟨cur, hc⟩ := own_block h3 hj
        rw [kf] at hc
        cases hc
      have r1 := hnd _ _ ri fi
      have r2 := hnd _ _ ro fo
      rw [hins] at r1
      rw [houts] at r2
      refine ⟨_, sres_run ⟨tp.heap h2.a (by omega), tp.heap h2.b (by omega)⟩ _ h6 h7, _, _, rfl, r1, r2, fun j hj => by have := fi j hj; omega, fun j hj => by have := fo j hj; omega, fio, ?_⟩
      have tW : Turn NoBlock w W := turn_of_below (by rw [hC]; exact hB)
      exact (tW.trans t (fun j hj => .inr (by omega))).trans tp (fun j hj => .inr (by subst hj; omega))
    have HF := Lib.hid hfin
    clear b0 hins houts hfin
    clear hO bx bn bi bo ri ro fi fo fio hB hK hseg hki hko
    gi_wp2
    refine wpIn_wide.2 ?_
    refine wp_calm ?_
    go_region_held3 (fun w' => w'.cell? ⟨C + 2, 0, none⟩ = some (.slice pi ki ci) ∧ w'.cell? ⟨C + 3, 0, none⟩ = some (.slice po ko co)) ((first | exact P0 | exact P1 | exact P2 | exact P3 | exact P4)) (fail)
    all_goals dsimp only
    all_goals gi_wp2
    all_goals first
      | exact HF.out _ Q3 v3 _ rfl rfl
      | exact HF.out _ Q4 v4 _ rfl rfl
end Go.Proofs.Ytdddmjdlikjedaa
