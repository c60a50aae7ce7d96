/-
  How deep a task stands, and below whom: depth and Under. Conditions: the tree lies in memory.
-/
import Derived.Test.YtabakjimlndhcaaTkUp
namespace Go.Proofs.Ytabakjimlndhcaa
open Go.ChangeShapes Go.WideShapes Go.ChangeAt Go.RowKit Go.Shelf

attribute [local go_sem] Oper.semAt_some

theorem turn_of_grown {X Y : World} {row : Option Nat} (hg : X.grownBy Y row) : Turn (fun k => row = some k) X Y := ⟨hg.os, hg.tape, hg.output, hg.size, fun k hk hn => hg.block k hk (fun e => hn e.symm)⟩
theorem turn_putObj (W : World) (l : Nat) (o : Obj) : Turn (fun k => k = l) W (W.putObj l o) := by
  have h1 := grownBy_putObj' W l o
  exact ⟨h1.os, h1.tape, h1.output, h1.size, fun k hk hn => h1.block k hk (fun e => hn (by cases e; rfl))⟩
theorem results_c1 {fn : Func} {p : Tmp} {ty : TypeId} (h : fn.results = #[.cell p ty]) (tmps : Array Value) (P : Program) (w : World) :
    (results fn tmps).run P w = ((asAddr (tmps.getD p undef)).run P w).andThen fun a w₁ => (loadVar ty a).run P w₁ := by
  simp only [results, h]
  simp [Sem.run_bind, Result.andThen]
theorem up_any (c : Nat) (id : Int) (W : World) : Calls Try.prog 71 #[.pointer (some ⟨c, 0, none⟩), .int .i64 id] W fun e w' => e = .returned (.func (.func 90) #[] #[.pointer (some ⟨W.heap.size, 0, none⟩), .pointer (some ⟨W.heap.size + 1, 0, none⟩)]) ∧
    w' = (W.alloc (.cells #[.pointer (some ⟨c, 0, none⟩)] 65)).alloc (.cells #[.int .i64 id] 3) := by
  go_enter Try.func71, Try.ntmps71
  go_wp2
  go_ret
  exact ⟨rfl, rfl⟩
section
variable {w w' X : World} {c n p q j i Ba Bb : Nat} {most : Int} {T T' : Nat → Tk} {sv : Value} {B : Nat → Nat} {V : Nat → Value} {G G' : Nat → Nat} {ch : List Nat}
structure UpI (w X : World) (Ba Bb c : Nat) (most : Int) (n : Nat) (T : Nat → Tk) (sv : Value) (B : Nat → Nat) (V : Nat → Value) (G : Nat → Nat) : Prop where
  mem : KMem X c most n T sv B V G
  ba : X.heap[Ba]? = some (.cells #[.pointer (some ⟨c, 0, none⟩)] 65 (0, 0))
  bb : ∃ v, X.heap[Bb]? = some (.cells #[v] 3 (0, 0))
  turn : Turn NoBlock w X
theorem UpI.own (h0 : KMem w c most n T sv B V G) {D : Nat} (hw : w.heap.size ≤ D) (ha : Ba < D) (hb : Bb < D) : OwnFrom D (fun (_ : List Nat) X => UpI w X Ba Bb c most n T sv B V G) := by
  intro pre X Y row hs hgr hr
  have tg := turn_of_grown hgr
  have hlo : ∀ k, row = some k → D ≤ k := fun k hk => (hr k hk).1
  obtain ⟨v, hv⟩ := hs.bb
  exact ⟨hs.mem.kept tg (fun k hk e => by have := hlo k e; have h4 := h0.lt hk; omega), tg.heap hs.ba (fun e => by have := hlo _ e; omega), ⟨v, tg.heap hv (fun e => by have := hlo _ e; omega)⟩, hs.turn.trans tg (fun k e => .inr (by have := hlo k e; omega))⟩
theorem cell_own {α : Type} (f : α → Option Obj) {E D : Nat} (hE : E < D) (hf : ∀ s, ∃ o, f s = some o) : OwnFrom D (fun (s : α) (X : World) => X.heap[E]? = f s) := by
  intro s X Y row hs hgr hr
  obtain ⟨o, ho⟩ := hf s
  rw [ho] at hs ⊢
  exact (turn_of_grown hgr).heap hs (fun e => by have := (hr E e).1; omega)
theorem UpI.see (h : UpI w X Ba Bb c most n T sv B V G) (h0 : KMem w c most n T sv B V G) (hb : w.heap.size ≤ Bb) (hab : Ba ≠ Bb) (hch : ∀ q, q ∈ ch → q < n) : RSee Ba Bb c n sv B T ch X :=
  ⟨h.mem.fm, fun q hq => h.mem.o1 (hch q hq), fun q hq e => by have := (h0.bt (hch q hq)).lt; omega, h.ba, h.bb, fun e => by have := h0.ct.lt; omega, hab⟩
theorem UpI.setB (h : UpI w X Ba Bb c most n T sv B V G) (h0 : KMem w c most n T sv B V G) (hb : w.heap.size ≤ Bb) (hab : Ba ≠ Bb) (u : Value) : UpI w (X.setCell ⟨Bb, 0, none⟩ u) Ba Bb c most n T sv B V G := by
  have t : Turn (fun k => k = Bb) X (X.setCell ⟨Bb, 0, none⟩ u) := (Turn.refl (fun k => k = Bb) X).setCell (p := ⟨Bb, 0, none⟩) (.inl rfl) _
  obtain ⟨v, hv⟩ := h.bb
  exact ⟨h.mem.kept t (fun k hk e => by have := h0.lt hk; omega), t.heap h.ba hab, ⟨u, by simpa using set_at hv 0 u⟩, h.turn.trans t (fun k e => .inr (by omega))⟩
/-- What the way up starts from. -/
def wayOf (n : Nat) (T : Nat → Tk) (id : Int) : List Nat := if inN n id = true then chain T (plc id) else []
theorem wayOf_way (hd : DOK n T) (id : Int) : Way n T (wayOf n T id) := by
  unfold wayOf
  by_cases h : inN n id = true
  · rw [if_pos h]; exact chain_way hd _ _ (plc_lt h) (Nat.lt_succ_self _)
  · rw [if_neg h]
    exact ⟨fun q hq => (List.not_mem_nil hq).elim, fun j q r h1 _ => by simp at h1, fun j q h1 _ => by simp at h1⟩
theorem wayOf_hid (hd : DOK n T) (id : Int) : ∀ q : Nat, (wayOf n T id)[0]? = some q → id = (q : Int) + 1 := by
  intro q hq
  unfold wayOf at hq
  by_cases h : inN n id = true
  · rw [if_pos h, chain_head hd (plc_lt h)] at hq
    cases hq
    exact plc_id h
  · rw [if_neg h] at hq
    simp at hq
theorem wayOf_no (hd : DOK n T) (id : Int) (he : wayOf n T id = []) : inN n id = false := by
  unfold wayOf at he
  by_cases h : inN n id = true
  · rw [if_pos h, chain_eq hd (plc_lt h)] at he
    cases he
  · simpa using h
theorem underB_any (n : Nat) (T : Nat → Tk) (id top : Int) : underB n T id top = (wayOf n T id).any (fun q => decide ((q : Int) + 1 = top)) := by
  unfold underB wayOf
  by_cases h : inN n id = true
  · rw [if_pos h, h]; rfl
  · rw [if_neg h, show inN n id = false by simpa using h]; rfl
theorem up_new (w1 : World) (c E : Nat) (id : Int) (hs : w1.heap.size = E) : ∃ W, (w1.alloc (.cells #[.pointer (some ⟨c, 0, none⟩)] 65)).alloc (.cells #[.int .i64 id] 3) = W ∧
    W.heap[E]? = some (.cells #[.pointer (some ⟨c, 0, none⟩)] 65 (0, 0)) ∧ W.heap[E + 1]? = some (.cells #[.int .i64 id] 3 (0, 0)) ∧ W.heap.size = E + 2 ∧ Turn NoBlock w1 W := by
  obtain ⟨W2, h2⟩ : ∃ W2, w1.alloc (.cells #[.pointer (some ⟨c, 0, none⟩)] 65) = W2 := ⟨_, rfl⟩
  obtain ⟨W3, h3⟩ : ∃ W3, W2.alloc (.cells #[.int .i64 id] 3) = W3 := ⟨_, rfl⟩
  have s2 : W2.heap.size = E + 1 := by rw [← h2]; simp [hs]
  have s3 : W3.heap.size = E + 2 := by rw [← h3]; simp [s2]
  have t2 : Turn NoBlock w1 W2 := by rw [← h2]; exact (Turn.refl _ _).alloc _
  have t3 : Turn NoBlock W2 W3 := by rw [← h3]; exact (Turn.refl _ _).alloc _
  have n2 := heap_alloc_new w1 (.cells #[.pointer (some ⟨c, 0, none⟩)] 65)
  have n3 := heap_alloc_new W2 (.cells #[.int .i64 id] 3)
  rw [h2, hs] at n2
  rw [h3, s2] at n3
  exact ⟨W3, by rw [h2, h3], t3.heap n2 (fun h => h), n3, s3, TT t2 t3⟩
set_option linter.unusedSimpArgs false in
set_option linter.unusedVariables false in
set_option maxRecDepth 100000 in
set_option maxHeartbeats 4000000 in
theorem depth_any (h : KMem w c most n T sv B V G) (hd : DOK n T) (hn : n ≤ 1000000) (hp : p < n) : Calls Try.prog 76 #[tp c, .int .i64 ((p : Int) + 1)] w fun e w' => e = .returned (.int .i64 (dep T p : Int)) ∧ Turn NoBlock w w' := by
  obtain ⟨E, hE⟩ : ∃ E, w.heap.size = E := ⟨_, rfl⟩
  obtain ⟨w1, hw1⟩ : ∃ w1, w.alloc (.cells #[.int .i64 0] 3) = w1 := ⟨_, rfl⟩
  have hb1 : w1.heap[E]? = some (.cells #[.int .i64 0] 3 (0, 0)) := by
    rw [← hw1, ← hE]
    exact heap_alloc_new w (.cells #[.int .i64 0] 3)
  have hs1 : w1.heap.size = E + 1 := by rw [← hw1, World.size_alloc, hE]
  have t1 : Turn NoBlock w w1 := by rw [← hw1]; exact (Turn.refl NoBlock w).alloc _
  obtain ⟨W0, hW0, hb2, hb3, hsz, hT⟩ := up_new w1 c (E + 1) ((p : Int) + 1) hs1
  have hin : inN n ((p : Int) + 1) = true := inN_iff.2 ⟨by omega, by omega⟩
  have hway : wayOf n T ((p : Int) + 1) = chain T p := by unfold wayOf plc; rw [if_pos hin, show ((p : Int) + 1 - 1).toNat = p by omega]
  have hw := wayOf_way hd ((p : Int) + 1)
  have hI0 : UpI w W0 (E + 1) (E + 2) c most n T sv B V G ∧ W0.heap[E]? = some (.cells #[.int .i64 0] 3 (0, 0)) := ⟨⟨h.past (TT t1 hT), hb2, ⟨_, hb3⟩, TT t1 hT⟩, hT.heap hb1 (fun h => h)⟩
  have hll : (chain T p).length ≤ 1000000 := by
    have key : ∀ (m p : Nat), p < n → p < m → (chain T p).length ≤ p + 1 := by
      intro m
      induction m with
      | zero => exact fun p _ h => absurd h (Nat.not_lt_zero _)
      | succ m ih =>
        intro p hp hm
        rw [chain_eq hd hp]
        by_cases h0 : (T p).par = 0
        · rw [if_pos h0]; simp
        · rw [if_neg h0]
          have := par_lt hd hp h0
          have := ih _ (show (T p).par.toNat - 1 < n by omega) (by omega)
          simp only [List.length_cons]
          omega
    have := key (p + 1) p hp (Nat.lt_succ_self _)
    omega
  have HM := Lib.hid h
  have HE := Lib.hid hE
  have HW := Lib.hid hw
  have HD := Lib.hid hd
  have HZ := Lib.hid (And.intro hsz hb3)
  have HL := Lib.hid (And.intro hway hll)
  have HA := Lib.hid (And.intro hw1 hW0)
  unfold tp
  clear h hd hb1 t1 hb2 hT hin hway hw hll hb3 hw1 hW0
  refine (callsIn_wide (n := 6)).1 ?_
  refine callsIn_of_wp_marks (F := Fence.wide) Try.func76 rfl trivial ?_ rfl
  simp only [Try.ntmps76, List.size_toArray, List.length_cons, List.length_nil, Nat.reduceAdd, Nat.reduceSub, Array.replicate_succ, Array.replicate_zero, List.push_toArray, List.append_toArray, List.nil_append, List.cons_append]
  gi_wp2_with (refine ⟨trivial, ?_⟩; gi_at_call 71; refine (callsIn_wide.2 (up_any c _ _)).mono ?_; rintro e w' ⟨rfl, rfl⟩)
  rw [HA.out.1, HA.out.2]
  simp only [Nat.add_assoc, Nat.reduceAdd]
  refine range3 (Bb := E + 2) (gf := 90) (lb := #[.pointer (some ⟨E + 1, 0, none⟩), .pointer (some ⟨E + 2, 0, none⟩)]) rfl (enters_of Try.func90 (by kernel_rfl) rfl)
    (up_gives (E + 1) (E + 2) c n sv B T (wayOf n T ((p : Int) + 1)) ((p : Int) + 1) hn HW.out (wayOf_hid HD.out _) (wayOf_no HD.out _)) (by have := HZ.out.1; omega) (fun W hWb => by simpa using cell_at (hWb.trans HZ.out.2) 0) (fun _ => rfl)
    (fun pre X => UpI w X (E + 1) (E + 2) c most n T sv B V G ∧ X.heap[E]? = some (.cells #[.int .i64 (pre.length : Int)] 3 (0, 0)))
    (fun _ _ _ => False) ?hI ?hIx (fun pre W h => h.1.see HM.out (by have := HE.out; omega) (by omega) HW.out.lt) (fun pre W v h => ⟨h.1.setB HM.out (by have := HE.out; omega) (by omega) v, set_past (p := ⟨E + 2, 0, none⟩) h.2 (by show E ≠ E + 2; omega) v⟩) hI0
    (fun x a' X => a' = { tmps := #[.pointer (some ⟨c, 0, none⟩), .int .i64 ((p : Int) + 1), undef, undef, .int .i64 0, .pointer (some ⟨E, 0, none⟩), .pointer (some ⟨c, 0, none⟩), .int .i64 ((p : Int) + 1), .func (.func 90) #[] #[.pointer (some ⟨E + 1, 0, none⟩), .pointer (some ⟨E + 2, 0, none⟩)], .int .i64 ((x : Int) + 1), undef, undef, undef], defers := [] }) ?hAx ?assign ?body ?done ?stop
  case hI => exact (UpI.own HM.out (by have := HE.out; have := HZ.out.1; omega) (by have := HZ.out.1; omega) (by have := HZ.out.1; omega)).and (cell_own (fun pre : List Nat => some (.cells #[.int .i64 (pre.length : Int)] 3 (0, 0))) (by have := HZ.out.1; omega) (fun s => ⟨_, rfl⟩))
  case hIx => exact fun cc pre X Y row h => h.elim
  case hAx => exact fun x a' pre X Y row h _ _ => h
  case stop => exact fun D cc pre X _ _ h => h.elim
  case assign =>
    rintro l pre q X K' hi hok hX hK
    have HK := Lib.hid hK
    have HI := Lib.hid hi
    clear hi hK hok
    gi_wp2
    exact HK.out _ _ (KeepsAll.refl _ _) rfl HI.out (by simp)
  case body =>
    rintro l pre q a' X hX hi rfl hok
    have c0 : X.cell? ⟨E, 0, none⟩ = some (.int .i64 (pre.length : Int)) := cell_at hi.2 0
    have f0 := free_at hi.2 0
    have hpl : pre.length < (wayOf n T ((p : Int) + 1)).length := (List.getElem?_eq_some_iff.1 hok).1
    have hpl6 : pre.length < 1000000 := by have := HL.out.2; rw [HL.out.1] at hpl; omega
    have t : Turn (fun k => k = E) X (X.setCell ⟨E, 0, none⟩ (.int .i64 ((pre.length : Int) + 1))) := (Turn.refl (fun k => k = E) X).setCell (p := ⟨E, 0, none⟩) (.inl rfl) _
    have FIN := Lib.hid (show (KeepsAll W0.heap.size X (X.setCell ⟨E, 0, none⟩ (.int .i64 ((pre.length : Int) + 1))) ∧ (X.setCell ⟨E, 0, none⟩ (.int .i64 ((pre.length : Int) + 1))).heap[E + 2]? = X.heap[E + 2]?) ∧
        UpI w (X.setCell ⟨E, 0, none⟩ (.int .i64 ((pre.length : Int) + 1))) (E + 1) (E + 2) c most n T sv B V G ∧ (X.setCell ⟨E, 0, none⟩ (.int .i64 ((pre.length : Int) + 1))).heap[E]? = some (.cells #[.int .i64 ((pre ++ [q]).length : Int)] 3 (0, 0)) from by
      obtain ⟨v, hv⟩ := hi.1.bb
      refine ⟨⟨KeepsAll.of_turn t (fun k hk => by subst hk; exact ⟨_, _, _, hi.2⟩), (t.heap hv (by omega)).trans hv.symm⟩, ⟨hi.1.mem.kept t (fun k hk e => ?_), t.heap hi.1.ba (by omega), ⟨v, t.heap hv (by omega)⟩, hi.1.turn.trans t (fun k e => .inr (by have := HE.out; omega))⟩, ?_⟩
      · have := HM.out.lt hk
        have := HE.out
        omega
      · rw [List.length_append, List.length_singleton]
        have := set_at hi.2 0 (.int .i64 ((pre.length : Int) + 1))
        simpa using this)
    clear hi hok hpl t hI0
    generalize pre.length = m at *
    gi_wp2
    exact FIN.out
  case done =>
    rintro D xs X hD hxl hi hK
    have HKK := Lib.hid (And.intro hK (And.intro hD hxl))
    have HI := Lib.hid hi.1.turn
    have c0 : X.cell? ⟨E, 0, none⟩ = some (.int .i64 (xs.length : Int)) := cell_at hi.2 0
    clear hi hK hD hxl hI0
    gi_wp2
    obtain ⟨hK, hD, hxl⟩ := HKK.out
    have tp := turn_putObj X D (.deferred none)
    refine ⟨by simp, .inl ⟨_, _, rfl, run_takeDeferred hK, ?_⟩⟩
    refine ⟨_, results_tmp rfl _ _ _, ?_, HI.out.trans tp (fun k hk => .inr (by have := HE.out; have := HZ.out.1; omega))⟩
    rw [HL.out.1] at hxl
    rw [hxl]
    rfl
set_option linter.unusedSimpArgs false in
set_option linter.unusedVariables false in
set_option maxRecDepth 100000 in
set_option maxHeartbeats 4000000 in
theorem under_any (h : KMem w c most n T sv B V G) (hd : DOK n T) (hn : n ≤ 1000000) (id top : Int) : Calls Try.prog 40 #[tp c, .int .i64 id, .int .i64 top] w fun e w' => e = .returned (.bool (underB n T id top)) ∧ Turn NoBlock w w' := by
  obtain ⟨E, hE⟩ : ∃ E, w.heap.size = E := ⟨_, rfl⟩
  obtain ⟨w1, hw1⟩ : ∃ w1, (w.alloc (.cells #[.int .i64 top] 3)).alloc (.cells #[.bool false] 4) = w1 := ⟨_, rfl⟩
  have hb1 : w1.heap[E]? = some (.cells #[.int .i64 top] 3 (0, 0)) := by
    rw [← hw1, ← hE]
    exact ((Turn.refl NoBlock _).alloc (.cells #[.bool false] 4)).heap (heap_alloc_new w (.cells #[.int .i64 top] 3)) (fun h => h)
  have hb0 : w1.heap[E + 1]? = some (.cells #[.bool false] 4 (0, 0)) := by
    rw [← hw1, ← hE, ← World.size_alloc w (.cells #[.int .i64 top] 3)]
    exact heap_alloc_new _ _
  have hs1 : w1.heap.size = E + 2 := by rw [← hw1, World.size_alloc, World.size_alloc, hE]
  have t1 : Turn NoBlock w w1 := by rw [← hw1]; exact ((Turn.refl NoBlock w).alloc _).alloc _
  obtain ⟨W0, hW0, hb2, hb3, hsz, hT⟩ := up_new w1 c (E + 2) id hs1
  have hw := wayOf_way hd id
  have hI0 : (UpI w W0 (E + 2) (E + 3) c most n T sv B V G ∧ W0.heap[E]? = some (.cells #[.int .i64 top] 3 (0, 0))) ∧ W0.heap[E + 1]? = some (.cells #[.bool false] 4 (0, 0)) ∧ (([] : List Nat) = (wayOf n T id).take 0 ∧ ∀ q, q ∈ ([] : List Nat) → (q : Int) + 1 ≠ top) :=
    ⟨⟨⟨h.past (TT t1 hT), hb2, ⟨_, hb3⟩, TT t1 hT⟩, hT.heap hb1 (fun h => h)⟩, hT.heap hb0 (fun h => h), rfl, fun q hq => (List.not_mem_nil hq).elim⟩
  have hu := underB_any n T id top
  have HM := Lib.hid h
  have HE := Lib.hid hE
  have HW := Lib.hid hw
  have HD := Lib.hid hd
  have HZ := Lib.hid (And.intro hsz hb3)
  have HA := Lib.hid (And.intro hw1 hW0)
  have HU := Lib.hid hu
  have HI0 := Lib.hid hI0
  unfold tp
  clear h hd hb0 hb1 t1 hb2 hT hw hb3 hw1 hW0 hu hI0
  refine (callsIn_wide (n := 6)).1 ?_
  refine callsIn_of_wp_marks (F := Fence.wide) Try.func40 rfl trivial ?_ rfl
  simp only [Try.ntmps40, List.size_toArray, List.length_cons, List.length_nil, Nat.reduceAdd, Nat.reduceSub, Array.replicate_succ, Array.replicate_zero, List.push_toArray, List.append_toArray, List.nil_append, List.cons_append]
  gi_wp2_with ((first | refine ⟨trivial, ?_⟩ | refine ⟨fun _ _ => trivial, ?_⟩); gi_at_call 71; refine (callsIn_wide.2 (up_any c _ _)).mono ?_; rintro e w' ⟨rfl, rfl⟩)
  rw [HA.out.1, HA.out.2]
  simp only [Nat.add_assoc, Nat.reduceAdd]
  refine range3 (Bb := E + 3) (gf := 90) (lb := #[.pointer (some ⟨E + 2, 0, none⟩), .pointer (some ⟨E + 3, 0, none⟩)]) rfl (enters_of Try.func90 (by kernel_rfl) rfl)
    (up_gives (E + 2) (E + 3) c n sv B T (wayOf n T id) id hn HW.out (wayOf_hid HD.out _) (wayOf_no HD.out _)) (by have := HZ.out.1; omega) (fun W hWb => by simpa using cell_at (hWb.trans HZ.out.2) 0) (fun _ => rfl)
    (fun pre X => (UpI w X (E + 2) (E + 3) c most n T sv B V G ∧ X.heap[E]? = some (.cells #[.int .i64 top] 3 (0, 0))) ∧ X.heap[E + 1]? = some (.cells #[.bool false] 4 (0, 0)) ∧ (pre = (wayOf n T id).take pre.length ∧ ∀ q, q ∈ pre → (q : Int) + 1 ≠ top))
    (fun cc pre X => (cc = .ret ∧ underB n T id top = true) ∧ UpI w X (E + 2) (E + 3) c most n T sv B V G ∧ X.heap[E + 1]? = some (.cells #[.bool true] 4 (0, 0))) ?hI ?hIx (fun pre W h => h.1.1.see HM.out (by have := HE.out; omega) (by omega) HW.out.lt)
    (fun pre W v h => ⟨⟨h.1.1.setB HM.out (by have := HE.out; omega) (by omega) v, set_past (p := ⟨E + 3, 0, none⟩) h.1.2 (by show E ≠ E + 3; omega) v⟩, set_past (p := ⟨E + 3, 0, none⟩) h.2.1 (by show E + 1 ≠ E + 3; omega) v, h.2.2⟩) HI0.out
    (fun x a' X => a' = { tmps := #[.pointer (some ⟨c, 0, none⟩), .int .i64 id, .int .i64 top, undef, undef, .pointer (some ⟨E, 0, none⟩), .pointer (some ⟨E + 1, 0, none⟩), .int .i64 ((x : Int) + 1), .pointer (some ⟨c, 0, none⟩), .int .i64 id, .func (.func 90) #[] #[.pointer (some ⟨E + 2, 0, none⟩), .pointer (some ⟨E + 3, 0, none⟩)], .int .i64 ((x : Int) + 1), undef, undef, undef], defers := [] }) ?hAx ?assign ?body ?done ?stop
  case hI =>
    refine ((UpI.own HM.out (by have := HE.out; have := HZ.out.1; omega) (by have := HZ.out.1; omega) (by have := HZ.out.1; omega)).and (cell_own (fun _ : List Nat => some (.cells #[.int .i64 top] 3 (0, 0))) (by have := HZ.out.1; omega) (fun s => ⟨_, rfl⟩))).and ?_
    exact (cell_own (fun _ : List Nat => some (.cells #[.bool false] 4 (0, 0))) (by have := HZ.out.1; omega) (fun s => ⟨_, rfl⟩)).and (fun pre X Y row h _ _ => h)
  case hIx =>
    intro cc pre X Y row hs hgr hr
    refine ⟨hs.1, UpI.own HM.out (by have := HE.out; have := HZ.out.1; omega) (by have := HZ.out.1; omega) (by have := HZ.out.1; omega) pre X Y row hs.2.1 hgr hr, ?_⟩
    exact cell_own (fun _ : List Nat => some (.cells #[.bool true] 4 (0, 0))) (by have := HZ.out.1; omega) (fun s => ⟨_, rfl⟩) pre X Y row hs.2.2 hgr hr
  case hAx => exact fun x a' pre X Y row h _ _ => h
  case assign =>
    rintro l pre q X K' hi hok hX hK
    have HK := Lib.hid hK
    have HI := Lib.hid hi
    clear hi hK hok
    gi_wp2
    exact HK.out _ _ (KeepsAll.refl _ _) rfl HI.out (by simp)
  case body =>
    rintro l pre q a' X hX hi rfl hok
    have c0 : X.cell? ⟨E, 0, none⟩ = some (.int .i64 top) := cell_at hi.1.2 0
    by_cases hqt : (q : Int) + 1 = top
    · have hdt : ((q : Int) + 1 == top) = true := by simpa using hqt
      have f0 := free_at hi.2.1 0
      have c1 : X.cell? ⟨E + 1, 0, none⟩ = some (.bool false) := cell_at hi.2.1 0
      have t : Turn (fun k => k = E + 1) X (X.setCell ⟨E + 1, 0, none⟩ (.bool true)) := (Turn.refl (fun k => k = E + 1) X).setCell (p := ⟨E + 1, 0, none⟩) (.inl rfl) _
      have FIN := Lib.hid (show (KeepsAll W0.heap.size X (X.setCell ⟨E + 1, 0, none⟩ (.bool true)) ∧ (X.setCell ⟨E + 1, 0, none⟩ (.bool true)).heap[E + 3]? = X.heap[E + 3]?) ∧
          ((Code.ret = .ret ∧ underB n T id top = true) ∧ UpI w (X.setCell ⟨E + 1, 0, none⟩ (.bool true)) (E + 2) (E + 3) c most n T sv B V G ∧ (X.setCell ⟨E + 1, 0, none⟩ (.bool true)).heap[E + 1]? = some (.cells #[.bool true] 4 (0, 0))) from by
        obtain ⟨v, hv⟩ := hi.1.1.bb
        refine ⟨⟨KeepsAll.of_turn t (fun k hk => by subst hk; exact ⟨_, _, _, hi.2.1⟩), (t.heap hv (by omega)).trans hv.symm⟩, ⟨rfl, ?_⟩, ⟨hi.1.1.mem.kept t (fun k hk e => ?_), t.heap hi.1.1.ba (by omega), ⟨v, t.heap hv (by omega)⟩, hi.1.1.turn.trans t (fun k e => .inr (by have := HE.out; omega))⟩, ?_⟩
        · rw [HU.out]
          exact List.any_eq_true.2 ⟨q, List.mem_of_getElem? hok, by simpa using hqt⟩
        · have := HM.out.lt hk
          have := HE.out
          omega
        · have := set_at hi.2.1 0 (.bool true)
          simpa using this)
      clear hi hok t
      gi_wp2
      exact ⟨⟨HZ.out.1 ▸ FIN.out.1.1, FIN.out.1.2⟩, ⟨rfl, FIN.out.2.1.2⟩, FIN.out.2.2⟩
    · have hdf : ((q : Int) + 1 == top) = false := by simpa using hqt
      have FIN := Lib.hid (show (KeepsAll W0.heap.size X X ∧ X.heap[E + 3]? = X.heap[E + 3]?) ∧ ((UpI w X (E + 2) (E + 3) c most n T sv B V G ∧ X.heap[E]? = some (.cells #[.int .i64 top] 3 (0, 0))) ∧ X.heap[E + 1]? = some (.cells #[.bool false] 4 (0, 0)) ∧ (pre ++ [q] = (wayOf n T id).take (pre ++ [q]).length ∧ ∀ r, r ∈ pre ++ [q] → (r : Int) + 1 ≠ top)) from by
        refine ⟨⟨KeepsAll.refl _ _, rfl⟩, hi.1, hi.2.1, ?_, fun r hr => ?_⟩
        · rw [List.length_append, List.length_singleton, List.take_add_one, ← hi.2.2.1, hok]
          rfl
        · rcases List.mem_append.1 hr with h1 | h1
          · exact hi.2.2.2 r h1
          · rw [List.mem_singleton] at h1
            subst h1
            exact hqt)
      clear hi hok
      gi_wp2
      exact ⟨⟨HZ.out.1 ▸ FIN.out.1.1, rfl⟩, FIN.out.2⟩
  case stop =>
    rintro D cc pre X hD - ⟨⟨rfl, hut⟩, hi, h1⟩ hK
    have HKK := Lib.hid (And.intro hK hD)
    have HI := Lib.hid hi.turn
    have H1 := Lib.hid h1
    have HUT := Lib.hid hut
    clear hi hK hD  h1 hut
    gi_wp2
    obtain ⟨hK, hD⟩ := HKK.out
    have tp := turn_putObj X D (.deferred none)
    have hz := HZ.out.1
    have c9 : (X.putObj D (.deferred none)).cell? ⟨E + 1, 0, none⟩ = some (.bool true) := cell_at (tp.heap H1.out (by omega)) 0
    refine ⟨by simp, .inl ⟨_, _, rfl, run_takeDeferred hK, ?_⟩⟩
    refine ⟨.bool true, by rw [results_c1 rfl]; go_simp, by rw [HUT.out], HI.out.trans tp (fun k hk => .inr (by have := HE.out; omega))⟩
  case done =>
    rintro D xs X hD hxl hi hK
    have f0 := free_at hi.2.1 0
    have c1 : X.cell? ⟨E + 1, 0, none⟩ = some (.bool false) := cell_at hi.2.1 0
    have t : Turn (fun k => k = E + 1) X (X.setCell ⟨E + 1, 0, none⟩ (.bool false)) := (Turn.refl (fun k => k = E + 1) X).setCell (p := ⟨E + 1, 0, none⟩) (.inl rfl) _
    have hz := HZ.out.1
    have HKK := Lib.hid (And.intro (t.heap hK (by omega)) hD)
    have H1 := Lib.hid (set_at hi.2.1 0 (.bool false))
    have HI := Lib.hid (hi.1.1.turn.trans t (fun k e => .inr (by have := HE.out; omega)))
    have HF := Lib.hid (show underB n T id top = false from by
      rw [HU.out, Bool.eq_false_iff]
      intro h
      obtain ⟨q, hq, hqt⟩ := List.any_eq_true.1 h
      refine hi.2.2.2 q ?_ (by simpa using hqt)
      rw [hi.2.2.1]
      have hx : xs.length = (wayOf n T id).length := hxl
      rw [hx, List.take_length]
      exact hq)
    clear hi hK hD hxl t hz
    gi_wp2
    obtain ⟨hK, hD⟩ := HKK.out
    have tp := turn_putObj (X.setCell ⟨E + 1, 0, none⟩ (.bool false)) D (.deferred none)
    have hz := HZ.out.1
    have c9 : ((X.setCell ⟨E + 1, 0, none⟩ (.bool false)).putObj D (.deferred none)).cell? ⟨E + 1, 0, none⟩ = some (.bool false) := cell_at (tp.heap H1.out (by omega)) 0
    refine ⟨by simp, .inl ⟨_, _, rfl, run_takeDeferred hK, ?_⟩⟩
    refine ⟨.bool false, by rw [results_c1 rfl]; go_simp, by rw [HF.out], HI.out.trans tp (fun k hk => .inr (by have := HE.out; omega))⟩
end
end Go.Proofs.Ytabakjimlndhcaa
