/-
  What goes through the pieces that have some of a range's numbers stops as 'SeqStopsK' says; what Find answers. No conditions but that the pieces rise and lie in the region, and that arguments are numbers of 64 bits.
-/
import Derived.Test.YtdddmjdlikjedaaGIter
namespace Go.Proofs.Ytdddmjdlikjedaa
open Go.ChangeShapes Go.WideShapes Go.ChangeAt Go.RowKit Go.Shelf

attribute [local go_sem] Oper.semAt_some

theorem over_any (size : Int) (l : List Pc) (ok : GOK size l) (x n : Int) (hx : fit x) (hn : fit n) (p : Pc) (w : World) (hp : p ∈ l) :
    Calls Try.prog 92 #[.int .i64 p.at', .int .i64 p.len, .int .i64 x, .int .i64 n] w fun e w' => e = .returned (.bool (decide (Ov x n p))) ∧ w = w' := by
  have h1 := ok.each p hp
  have h2 := ok.top
  have f1 : fit p.at' := by unfold fit Pc.fin at *; omega
  have f2 : fit p.len := by unfold fit Pc.fin at *; omega
  by_cases h : Ov x n p
  · rw [show decide (Ov x n p) = true by simpa using h]
    exact overlap_yes _ _ _ _ w (by unfold Ov Pc.fin at *; omega) f1 f2 hx hn
  · rw [show decide (Ov x n p) = false by simpa using h]
    exact overlap_no _ _ _ _ w (by unfold Ov Pc.fin at *; omega) f1 f2 hx hn

section
variable {size most : Int} {v : Value} {l : List Pc} {x n : Int} {k b a : Nat}
theorem over_stops (ok : GOK size l) (hll : l.length ≤ 65536) (hx : fit x) (hnn : fit n) (hs : SegIs l x n k b) (m : Nat) (hm : 2 ≤ m) (B0 B1 B2 : Nat) (w : World) (hS : OSees B0 B1 B2 a size most v l x n w) :
    SeqStopsK Fence.wide m Try.prog 90 #[.pointer (some ⟨B0, 0, none⟩), .pointer (some ⟨B1, 0, none⟩), .pointer (some ⟨B2, 0, none⟩)] (Sg.enc (l := l) (x := x) (n := n) (k := k) (b := b)) (KpO B0 B1 B2 a size most v l x n) (fun ys => IsSeg ys (b - k)) (fun _ => True) (b - k) w := by
  intro i J Jx W hW hJ _ hY h0
  refine oway_in Fence.wide m trivial rfl hm i B0 B1 B2 a size most v l x n k b hs hll (fun W2 h2 => callsIn_wide.2 ((gfrom_any h2.mem ok hll x).mono ?_)) (fun p W2 hp => callsIn_wide.2 (over_any size l ok x n hx hnn p W2 hp)) trivial trivial J Jx W hJ hY (hS.past (turn_of_below hW)) h0
  rintro e w' ⟨k', rfl, h3, h4⟩
  rw [h3.one hs.from']
  exact ⟨rfl, h4⟩
/-- Behind the call that makes it. -/
theorem osees_new {w : World} (h : GMem w a size most v l) : OSees w.heap.size (w.heap.size + 1) (w.heap.size + 2) a size most v l x n (((w.alloc (.cells #[.pointer (some ⟨a, 0, none⟩)] 57)).alloc (.cells #[.int .i64 x] 3)).alloc (.cells #[.int .i64 n] 3)) := by
  have b0 := Boxed.new w 57 (.pointer (some ⟨a, 0, none⟩))
  have b1 := Boxed.new (w.alloc (.cells #[.pointer (some ⟨a, 0, none⟩)] 57)) 3 (.int .i64 x)
  have b2 := Boxed.new ((w.alloc (.cells #[.pointer (some ⟨a, 0, none⟩)] 57)).alloc (.cells #[.int .i64 x] 3)) 3 (.int .i64 n)
  simp only [World.size_alloc] at b1 b2
  exact ⟨(b0.alloc _).alloc _, b1.alloc _, b2, h.past ((((Turn.refl NoBlock w).alloc _).alloc _).alloc _)⟩
end

theorem results_cc {fn : Func} {p q : Tmp} {ty ty' : TypeId} (h : fn.results = #[.cell p ty, .cell q ty']) (tmps : Array Value) (P : Program) (w : World) :
    (results fn tmps).run P w =
      ((asAddr (tmps.getD p undef)).run P w).andThen fun a w₁ => ((loadVar ty a).run P w₁).andThen fun v w₂ => ((asAddr (tmps.getD q undef)).run P w₂).andThen fun b w₃ => ((loadVar ty' b).run P w₃).andThen fun u w₄ => .ok (.tuple #[v, u]) w₄ := by
  simp only [results, h]
  simp [Sem.run_bind, Result.andThen]
/-- What cells say abides the turn of whatever is no cells. -/
theorem ownFrom_of {β : Type} {F : Nat → Prop} {A : World → Prop} (o : Own F A) (hc : ∀ w, A w → ∀ k, F k → ∃ c t f, w.heap[k]? = some (.cells c t f)) (B : Nat) : OwnFrom B (fun (_ : β) W => A W) := by
  intro s W W' row hs hg hr
  refine o.kept W W' (fun k => row = some k) hs ((Turn.refl _ W).grown hg (fun k hk => .inl hk)) (fun k hk e => ?_)
  obtain ⟨c, t, f, h⟩ := hc W hs k hk
  obtain ⟨-, ob, ho, hn⟩ := hr k e
  rw [h] at ho
  cases ho
  cases hn
theorem ownFrom_cells {β : Type} (B k : Nat) (c : Array Value) (t : TypeId) : OwnFrom B (fun (_ : β) W => W.heap[k]? = some (.cells c t (0, 0))) := by
  intro s W W' row hs hg hr
  refine (hg.block k (lt_of_block hs) (fun e => ?_)).trans hs
  obtain ⟨-, ob, ho, hn⟩ := hr k e.symm
  rw [hs] at ho
  cases ho
  cases hn
theorem ownFrom_const {β : Type} (B : Nat) (A : β → Prop) : OwnFrom B (fun (s : β) (_ : World) => A s) := fun _ _ _ _ h _ _ => h
section
variable {size most : Int} {v : Value} {l : List Pc} {x n : Int} {a B0 B1 B2 : Nat}
theorem osees_own : Own (fun j => j = B0 ∨ j = B1 ∨ j = B2 ∨ GFoot a v j) (OSees B0 B1 B2 a size most v l x n) :=
  ⟨fun _ _ _ h t hf => h.kept t hf, fun w h k hk => by
    rcases hk with rfl | rfl | rfl | hk
    · exact h.b0.lt
    · exact h.b1.lt
    · exact h.b2.lt
    · exact h.mem.lt hk⟩
theorem osees_cells (w : World) (h : OSees B0 B1 B2 a size most v l x n w) (k : Nat) (hk : k = B0 ∨ k = B1 ∨ k = B2 ∨ GFoot a v k) : ∃ c t f, w.heap[k]? = some (.cells c t f) := by
  rcases hk with rfl | rfl | rfl | rfl | hk
  · exact ⟨_, _, _, h.b0⟩
  · exact ⟨_, _, _, h.b1⟩
  · exact ⟨_, _, _, h.b2⟩
  · exact ⟨_, _, _, h.mem.head⟩
  · obtain ⟨cur, hc⟩ := own_block h.mem.row hk
    exact ⟨_, _, _, hc⟩
end

/-- The piece that has a number. -/
def HasP (l : List Pc) (x : Int) (p : Pc) : Prop := p ∈ l ∧ p.at' ≤ x ∧ x < p.fin
/-- Where Find lays its answer. -/
structure FRes (C : Nat) (p : Pc) (t : Bool) (W : World) : Prop where
  r : W.heap[C]? = some (.cells #[.int .i64 p.at', .int .i64 p.len, .int .i64 p.vmo, .int .i64 p.from', .int .i64 p.prot] 61 (0, 0))
  b : W.heap[C + 1]? = some (.cells #[.bool t] 4 (0, 0))

theorem fres_put {W : World} {C : Nat} {q p : Pc} {t : Bool} (h : FRes C q t W) (u : Bool) : FRes C p u ((((((W.setCell ⟨C, 0, none⟩ (.int .i64 p.at')).setCell ⟨C, 1, none⟩ (.int .i64 p.len)).setCell ⟨C, 2, none⟩ (.int .i64 p.vmo)).setCell ⟨C, 3, none⟩ (.int .i64 p.from')).setCell ⟨C, 4, none⟩ (.int .i64 p.prot)).setCell ⟨C + 1, 0, none⟩ (.bool u)) ∧ Turn (fun j => j = C ∨ j = C + 1) W ((((((W.setCell ⟨C, 0, none⟩ (.int .i64 p.at')).setCell ⟨C, 1, none⟩ (.int .i64 p.len)).setCell ⟨C, 2, none⟩ (.int .i64 p.vmo)).setCell ⟨C, 3, none⟩ (.int .i64 p.from')).setCell ⟨C, 4, none⟩ (.int .i64 p.prot)).setCell ⟨C + 1, 0, none⟩ (.bool u)) := by
  have h0 := set_at h.r 0 (.int .i64 p.at')
  have h1 := set_at h0 1 (.int .i64 p.len)
  have h2 := set_at h1 2 (.int .i64 p.vmo)
  have h3 := set_at h2 3 (.int .i64 p.from')
  have h4 := set_at h3 4 (.int .i64 p.prot)
  have t0 : Turn (fun j => j = C ∨ j = C + 1) W ((((((W.setCell ⟨C, 0, none⟩ (.int .i64 p.at')).setCell ⟨C, 1, none⟩ (.int .i64 p.len)).setCell ⟨C, 2, none⟩ (.int .i64 p.vmo)).setCell ⟨C, 3, none⟩ (.int .i64 p.from')).setCell ⟨C, 4, none⟩ (.int .i64 p.prot)).setCell ⟨C + 1, 0, none⟩ (.bool u)) :=
    ((((((Turn.refl (fun j => j = C ∨ j = C + 1) W).setCell (p := ⟨C, 0, none⟩) (.inl (.inl rfl)) _).setCell (p := ⟨C, 1, none⟩) (.inl (.inl rfl)) _).setCell (p := ⟨C, 2, none⟩) (.inl (.inl rfl)) _).setCell (p := ⟨C, 3, none⟩) (.inl (.inl rfl)) _).setCell (p := ⟨C, 4, none⟩) (.inl (.inl rfl)) _).setCell (p := ⟨C + 1, 0, none⟩) (.inl (.inr rfl)) _
  refine ⟨⟨?_, ?_⟩, t0⟩
  · have h5 := set_past h4 (p := ⟨C + 1, 0, none⟩) (by show C ≠ C + 1; omega) (.bool u)
    simpa using h5
  · have b0 := set_past h.b (p := ⟨C, 0, none⟩) (by show C + 1 ≠ C; omega) (.int .i64 p.at')
    have b1 := set_past b0 (p := ⟨C, 1, none⟩) (by show C + 1 ≠ C; omega) (.int .i64 p.len)
    have b2 := set_past b1 (p := ⟨C, 2, none⟩) (by show C + 1 ≠ C; omega) (.int .i64 p.vmo)
    have b3 := set_past b2 (p := ⟨C, 3, none⟩) (by show C + 1 ≠ C; omega) (.int .i64 p.from')
    have b4 := set_past b3 (p := ⟨C, 4, none⟩) (by show C + 1 ≠ C; omega) (.int .i64 p.prot)
    have b5 := set_at b4 0 (.bool u)
    simpa using b5
theorem fres_run {W : World} {C : Nat} {p : Pc} {t : Bool} (h : FRes C p t W) (tmps : Array Value) (h4 : tmps.getD 4 undef = .pointer (some ⟨C, 0, none⟩)) (h5 : tmps.getD 5 undef = .pointer (some ⟨C + 1, 0, none⟩)) :
    (results Try.f36 tmps).run Try.prog W = .ok (.tuple #[p.agg, .bool t]) W := by
  have s0 := cell_at h.r 0
  have s1 := cell_at h.r 1
  have s2 := cell_at h.r 2
  have s3 := cell_at h.r 3
  have s4 := cell_at h.r 4
  have s5 := cell_at h.b 0
  simp at s0 s1 s2 s3 s4 s5
  rw [results_cc rfl, h4, h5]
  unfold Pc.agg
  go_simp

set_option maxRecDepth 100000 in
set_option maxHeartbeats 2000000 in
theorem find_in (n : Nat) (hn : 4 ≤ n) {w : World} {a : Nat} {size most : Int} {v : Value} {l : List Pc} (h : GMem w a size most v l) (ok : GOK size l) (hll : l.length ≤ 65536) (x : Int) (hx : fit x) (k b : Nat) (hs : SegIs l x 1 k b) :
    CallsIn Fence.wide n Try.prog 36 #[.pointer (some ⟨a, 0, none⟩), .int .i64 x] w fun e W' => ((∃ p, e = .returned (.tuple #[p.agg, .bool true]) ∧ HasP l x p) ∨ (e = .returned (.tuple #[Pc.zero.agg, .bool false]) ∧ b = k)) ∧ Below w.heap.size w W' := by
  have h1 : 1 ≤ n := by omega
  obtain ⟨C, hC⟩ : ∃ C, w.heap.size = C := ⟨_, rfl⟩
  obtain ⟨W4, hW4⟩ : ∃ W4, W4 = (w.alloc (.cells #[.int .i64 0, .int .i64 0, .int .i64 0, .int .i64 0, .int .i64 0] 61)).alloc (.cells #[.bool false] 4) := ⟨_, rfl⟩
  have hT4 : Turn NoBlock w W4 := by rw [hW4]; exact ((Turn.refl _ w).alloc _).alloc _
  have hz4 : W4.heap.size = C + 2 := by rw [hW4, ← hC]; simp
  have hR4 : FRes C Pc.zero false W4 := by
    subst hC
    refine ⟨?_, ?_⟩
    · rw [hW4]
      exact (Below.heap_alloc _ _ _ (by simp)).trans (heap_alloc_new w _)
    · rw [hW4]
      have := heap_alloc_new (w.alloc (.cells #[.int .i64 0, .int .i64 0, .int .i64 0, .int .i64 0, .int .i64 0] 61)) (.cells #[.bool false] 4)
      rwa [World.size_alloc] at this
  have hO4 := osees_new (x := x) (n := 1) (h.past hT4)
  rw [hz4] at hO4
  have hB4 : Below C w W4 := by rw [← hC]; exact hT4.below (fun _ h => h.elim) (Nat.le_refl _)
  have alt : a < C := by rw [← hC]; exact lt_of_block h.head
  have hft : ∀ j, GFoot a v j → j < C := fun j hj => by rw [← hC]; exact h.lt hj
  have hst := over_stops ok hll hx (n := 1) (by unfold fit; omega) hs (n - 1) (by omega) (C + 2) (C + 2 + 1) (C + 2 + 2) _ hO4
  have HB := Lib.hid (And.intro hR4 (And.intro hO4 hB4))
  have HS := Lib.hid hs
  clear h ok hs hT4 hR4 hO4 hB4
  refine callsIn_of_wp_marks Try.func36 rfl trivial ?_ rfl
  simp only [Try.ntmps36, List.size_toArray, List.length_cons, List.length_nil, Nat.reduceAdd, Nat.reduceSub, Array.replicate_succ, Array.replicate_zero, List.push_toArray, List.append_toArray, List.nil_append, List.cons_append]
  gi_wp2_with (refine ⟨trivial, ?_⟩; gi_at_call 69; refine (over_in Fence.wide (n - 1) trivial rfl a x 1 _).mono ?_; rintro e w' ⟨rfl, rfl⟩)
  rw [← hW4]
  try simp only [hC, hz4]
  have hz5 : (((W4.alloc (.cells #[.pointer (some ⟨a, 0, none⟩)] 57)).alloc (.cells #[.int .i64 x] 3)).alloc (.cells #[.int .i64 1] 3)).heap.size = C + 5 := by simp [hz4]
  have HR5 : FRes C Pc.zero false (((W4.alloc (.cells #[.pointer (some ⟨a, 0, none⟩)] 57)).alloc (.cells #[.int .i64 x] 3)).alloc (.cells #[.int .i64 1] 3)) := by
    have t : Turn NoBlock W4 (((W4.alloc (.cells #[.pointer (some ⟨a, 0, none⟩)] 57)).alloc (.cells #[.int .i64 x] 3)).alloc (.cells #[.int .i64 1] 3)) := (((Turn.refl _ _).alloc _).alloc _).alloc _
    exact ⟨t.heap HB.out.1.r (fun h => h), t.heap HB.out.1.b (fun h => h)⟩
  have HB5 : Below C w (((W4.alloc (.cells #[.pointer (some ⟨a, 0, none⟩)] 57)).alloc (.cells #[.int .i64 x] 3)).alloc (.cells #[.int .i64 1] 3)) := ((HB.out.2.2.alloc (by omega) _).alloc (by simp; omega) _).alloc (by simp; omega) _
  have HO5 := HB.out.2.1
  obtain ⟨W5, hW5⟩ : ∃ W5, W5 = ((W4.alloc (.cells #[.pointer (some ⟨a, 0, none⟩)] 57)).alloc (.cells #[.int .i64 x] 3)).alloc (.cells #[.int .i64 1] 3) := ⟨_, rfl⟩
  rw [← hW5] at hst HR5 HB5 HO5 hz5 ⊢
  clear hW5 hW4 HB
  refine wpIn_rangeFunc_ownH (F := Fence.wide) rfl h1 (gf := 90) (lb := #[.pointer (some ⟨C + 2, 0, none⟩), .pointer (some ⟨C + 2 + 1, 0, none⟩), .pointer (some ⟨C + 2 + 2, 0, none⟩)]) rfl trivial (enters_of Try.func90 (by kernel_rfl) rfl)
    hst (fun h k => KpO.trans h k) (KpO.put (by omega) (by omega) (by omega) (fun j hj => by have := hft j hj; omega)) (Below.refl _ _) (fun _ => rfl)
    (fun pre W => pre = [] ∧ OSees (C + 2) (C + 2 + 1) (C + 2 + 2) a size most v l x 1 W ∧ W.heap[C]? = some (.cells #[.int .i64 0, .int .i64 0, .int .i64 0, .int .i64 0, .int .i64 0] 61 (0, 0)) ∧ W.heap[C + 1]? = some (.cells #[.bool false] 4 (0, 0)) ∧ Below C w W)
    (fun c _ W => c = .ret ∧ (∃ p, HasP l x p ∧ FRes C p true W) ∧ Below C w W)
    (OwnFrom.and (ownFrom_const _ _) (OwnFrom.and (ownFrom_of osees_own osees_cells _) (OwnFrom.and (ownFrom_cells _ _ _ _) (OwnFrom.and (ownFrom_cells _ _ _ _) (ownFrom_below (by omega) (by omega))))))
    (fun c => OwnFrom.and (ownFrom_const _ _) (OwnFrom.and (fun s W W' row hs hg hr => by obtain ⟨p, h1, h2, h3⟩ := hs; exact ⟨p, h1, ownFrom_cells (β := Unit) _ _ _ _ () W W' row h2 hg hr, ownFrom_cells (β := Unit) _ _ _ _ () W W' row h3 hg hr⟩) (ownFrom_below (by omega) (by omega))))
    ⟨rfl, HO5, HR5.r, HR5.b, HB5⟩
    (fun y a' W => ∃ Bx, C + 4 < Bx ∧ W.heap[Bx]? = some (.cells #[.int .i64 y.1.2.at', .int .i64 y.1.2.len, .int .i64 y.1.2.vmo, .int .i64 y.1.2.from', .int .i64 y.1.2.prot] 61 (0, 0)) ∧ a' = { tmps := #[.pointer (some ⟨a, 0, none⟩), .int .i64 x, undef, undef, .pointer (some ⟨C, 0, none⟩), .pointer (some ⟨C + 1, 0, none⟩), undef, .pointer (some ⟨Bx, 0, none⟩), .pointer (some ⟨a, 0, none⟩), .int .i64 x, .func (.func 90) #[] #[.pointer (some ⟨C + 2, 0, none⟩), .pointer (some ⟨C + 2 + 1, 0, none⟩), .pointer (some ⟨C + 2 + 2, 0, none⟩)], .int .i64 ((y.1.1 : Nat) : Int), y.1.2.agg, undef, undef], defers := [] })
    (fun y a' _ X Y row hs hg hr => by
      obtain ⟨Bx, g1, g2, g3⟩ := hs
      exact ⟨Bx, g1, ownFrom_cells (β := Unit) _ _ _ _ () X Y row g2 hg hr, g3⟩)
    ?assign ?body ?done ?stop
  case assign =>
    rintro i pre y W K ⟨rfl, hO, r0, r1, hB⟩ hK
    unfold Sg.enc Pc.agg at *
    have hsz := hB.size
    gi_wp2
    have tA : Turn NoBlock W (W.alloc (.cells #[.int .i64 y.1.2.at', .int .i64 y.1.2.len, .int .i64 y.1.2.vmo, .int .i64 y.1.2.from', .int .i64 y.1.2.prot] 61)) := (Turn.refl _ _).alloc _
    exact hK _ _ ((KeepsOthers.alloc _ _).from _) (fun s => s.past tA) ⟨trivial, hO.past tA, tA.heap r0 (fun h => h), tA.heap r1 (fun h => h), hB.alloc (by omega) _⟩ ⟨W.heap.size, by have := hO.b2.lt; omega, heap_alloc_new W _, rfl⟩
  case body =>
    rintro i pre y a' W hl' ⟨r, hr⟩ ⟨rfl, hO, r0, r1, hB⟩ ⟨Bx, hBx, bX, rfl⟩ hlt
    have x0 := cell_at bX 0
    have x1 := cell_at bX 1
    have x2 := cell_at bX 2
    have x3 := cell_at bX 3
    have x4 := cell_at bX 4
    simp at x0 x1 x2 x3 x4
    have s0 := cell_at r0 0
    have s1 := cell_at r0 1
    have s2 := cell_at r0 2
    have s3 := cell_at r0 3
    have s4 := cell_at r0 4
    have s5 := cell_at r1 0
    have t0 := free_at r0
    have t1 := free_at r1
    simp at s0 s1 s2 s3 s4 s5
    gi_wp2
    obtain ⟨f1, f2⟩ := fres_put (p := y.1.2) (⟨r0, r1⟩ : FRes C Pc.zero false W) true
    have hy := y.2
    refine ⟨⟨f2.size, fun j o hj ho hn => f2.heap ho (by omega)⟩, rfl, ⟨y.1.2, ⟨List.mem_of_getElem? hy.2.2.1, ?_⟩, f1⟩, ?_⟩
    · have h3 := hy.2.2.2
      unfold Ov at h3
      omega
    · exact ⟨f2.os.trans hB.os, f2.tape.trans hB.tape, f2.output.trans hB.output, Nat.le_trans hB.size f2.size, fun j hj => (f2.block j (by have := hB.size; omega) (by omega)).trans (hB.block j hj)⟩
  case done =>
    rintro D ys W hD hI ⟨rfl, hO, r0, r1, hB⟩ hK
    have s0 := cell_at r0 0
    have s1 := cell_at r0 1
    have s2 := cell_at r0 2
    have s3 := cell_at r0 3
    have s4 := cell_at r0 4
    have s5 := cell_at r1 0
    have t0 := free_at r0
    have t1 := free_at r1
    simp at s0 s1 s2 s3 s4 s5
    have hbk : b = k := by have h2 := hI.1; have h3 := HS.out.lo; simp at h2; omega
    gi_wp2
    obtain ⟨f1, f2⟩ := fres_put (p := Pc.zero) (⟨r0, r1⟩ : FRes C Pc.zero false W) false
    have hB2 : Below C w _ := ⟨f2.os.trans hB.os, f2.tape.trans hB.tape, f2.output.trans hB.output, Nat.le_trans hB.size f2.size, fun j hj => (f2.block j (by have := hB.size; omega) (by omega)).trans (hB.block j hj)⟩
    have hK2 := f2.heap hK (by omega)
    obtain ⟨W6, hW6⟩ : ∃ W6, W6 = ((((((W.setCell ⟨C, 0, none⟩ (.int .i64 0)).setCell ⟨C, 1, none⟩ (.int .i64 0)).setCell ⟨C, 2, none⟩ (.int .i64 0)).setCell ⟨C, 3, none⟩ (.int .i64 0)).setCell ⟨C, 4, none⟩ (.int .i64 0)).setCell ⟨C + 1, 0, none⟩ (.bool false)) := ⟨_, rfl⟩
    change W6 = _ at hW6
    have f1' : FRes C Pc.zero false W6 := by rw [hW6]; exact f1
    have hB3 : Below C w W6 := by rw [hW6]; exact hB2
    have hK3 : W6.heap[D]? = some (.deferred (some [])) := by rw [hW6]; exact hK2
    rw [← hW6]
    clear f1 f2 hB2 hK2 hW6 s0 s1 s2 s3 s4 s5 t0 t1
    refine ⟨by simp, .inl ⟨_, _, rfl, run_takeDeferred hK3, ?_⟩⟩
    have tp := turn_putObj W6 D (.deferred none)
    have f7 : FRes C Pc.zero false (W6.putObj D (.deferred none)) := ⟨tp.heap f1'.r (by omega), tp.heap f1'.b (by omega)⟩
    exact ⟨_, fres_run f7 _ rfl rfl, .inr ⟨rfl, hbk⟩, by rw [hC]; exact hB3.trans (belowK_b (w := w) (by omega) W6 D _ _ (by omega) hK3 rfl rfl)⟩
  case stop =>
    rintro D c pre W hD _ ⟨rfl, ⟨p, hp, hR⟩, hB⟩ hK
    gi_wp2
    refine ⟨by simp, .inl ⟨_, _, rfl, run_takeDeferred hK, ?_⟩⟩
    have tp := turn_putObj W D (.deferred none)
    have f7 : FRes C p true (W.putObj D (.deferred none)) := ⟨tp.heap hR.r (by omega), tp.heap hR.b (by omega)⟩
    exact ⟨_, fres_run f7 _ rfl rfl, .inl ⟨p, rfl, hp⟩, by rw [hC]; exact hB.trans (belowK_b (w := w) (by omega) W D _ _ (by omega) hK rfl rfl)⟩
end Go.Proofs.Ytdddmjdlikjedaa
