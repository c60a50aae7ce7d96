/-
  What goes through the pieces that have some of a range's numbers stops as 'SeqStopsK' says; what Find answers. No conditions but that the pieces rise and lie in the region, and that arguments are numbers of 64 bits.
-/
import Derived.Test.YtdddmjdlikjedaaGreatGIter
namespace Go.Proofs.YtdddmjdlikjedaaGreat
open Go.ChangeShapes Go.WideShapes Go.ChangeAt Go.RowKit Go.Shelf

attribute [local go_sem] Oper.semAt_some

theorem over_any (size : Int) (l : List Pc) (ok : GOK size l) (x n : Int) (hx : fit x) (hn : fit n) (p : Pc) (w : World) (hp : p ∈ l) :
    Calls Tryz.prog 49 #[.int .i64 p.at', .int .i64 p.len, .int .i64 x, .int .i64 n] w fun e w' => e = .returned (.bool (decide (Ov x n p))) ∧ w = w' := by
  have h1 := ok.each p hp
  have h2 := ok.top
  have f1 : fit p.at' := by unfold fit Pc.fin at *; omega
  have f2 : fit p.len := by unfold fit Pc.fin at *; omega
  by_cases h : Ov x n p
  · rw [show decide (Ov x n p) = true by simpa using h]
    exact overlap_yes _ _ _ _ w (by unfold Ov Pc.fin at *; omega) f1 f2 hx hn
  · rw [show decide (Ov x n p) = false by simpa using h]
    exact overlap_no _ _ _ _ w (by unfold Ov Pc.fin at *; omega) f1 f2 hx hn

section
variable {size most : Int} {v : Value} {l : List Pc} {x n : Int} {k b a : Nat}
theorem over_stops (ok : GOK size l) (hll : l.length ≤ 65536) (hx : fit x) (hnn : fit n) (hs : SegIs l x n k b) (m : Nat) (hm : 2 ≤ m) (B0 B1 B2 : Nat) (w : World) (hS : OSees B0 B1 B2 a size most v l x n w) :
    SeqStopsK Fence.wide m Tryz.prog 47 #[.pointer (some ⟨B0, 0, none⟩), .pointer (some ⟨B1, 0, none⟩), .pointer (some ⟨B2, 0, none⟩)] (Sg.enc (l := l) (x := x) (n := n) (k := k) (b := b)) (KpO B0 B1 B2 a size most v l x n) (fun ys => IsSeg ys (b - k)) (fun _ => True) (b - k) w := by
  intro i J Jx W hW hJ _ hY h0
  refine oway_in Fence.wide m trivial rfl hm i B0 B1 B2 a size most v l x n k b hs hll (fun W2 h2 => callsIn_wide.2 ((gfrom_any h2.mem ok hll x).mono ?_)) (fun p W2 hp => callsIn_wide.2 (over_any size l ok x n hx hnn p W2 hp)) trivial trivial J Jx W hJ hY (hS.past (turn_of_below hW)) h0
  rintro e w' ⟨k', rfl, h3, h4⟩
  rw [h3.one hs.from']
  exact ⟨rfl, h4⟩
/-- Behind the call that makes it. -/
theorem osees_new {w : World} (h : GMem w a size most v l) : OSees w.heap.size (w.heap.size + 1) (w.heap.size + 2) a size most v l x n (((w.alloc (.cells #[.pointer (some ⟨a, 0, none⟩)] 46)).alloc (.cells #[.int .i64 x] 3)).alloc (.cells #[.int .i64 n] 3)) := by
  have b0 := Boxed.new w 46 (.pointer (some ⟨a, 0, none⟩))
  have b1 := Boxed.new (w.alloc (.cells #[.pointer (some ⟨a, 0, none⟩)] 46)) 3 (.int .i64 x)
  have b2 := Boxed.new ((w.alloc (.cells #[.pointer (some ⟨a, 0, none⟩)] 46)).alloc (.cells #[.int .i64 x] 3)) 3 (.int .i64 n)
  simp only [World.size_alloc] at b1 b2
  exact ⟨(b0.alloc _).alloc _, b1.alloc _, b2, h.past ((((Turn.refl NoBlock w).alloc _).alloc _).alloc _)⟩
end

theorem results_cc {fn : Func} {p q : Tmp} {ty ty' : TypeId} (h : fn.results = #[.cell p ty, .cell q ty']) (tmps : Array Value) (P : Program) (w : World) :
    (results fn tmps).run P w =
      ((asAddr (tmps.getD p undef)).run P w).andThen fun a w₁ => ((loadVar ty a).run P w₁).andThen fun v w₂ => ((asAddr (tmps.getD q undef)).run P w₂).andThen fun b w₃ => ((loadVar ty' b).run P w₃).andThen fun u w₄ => .ok (.tuple #[v, u]) w₄ := by
  simp only [results, h]
  simp [Sem.run_bind, Result.andThen]
/-- What cells say abides the turn of whatever is no cells. -/
theorem ownFrom_of {β : Type} {F : Nat → Prop} {A : World → Prop} (o : Own F A) (hc : ∀ w, A w → ∀ k, F k → ∃ c t f, w.heap[k]? = some (.cells c t f)) (B : Nat) : OwnFrom B (fun (_ : β) W => A W) := by
  intro s W W' row hs hg hr
  refine o.kept W W' (fun k => row = some k) hs ((Turn.refl _ W).grown hg (fun k hk => .inl hk)) (fun k hk e => ?_)
  obtain ⟨c, t, f, h⟩ := hc W hs k hk
  obtain ⟨-, ob, ho, hn⟩ := hr k e
  rw [h] at ho
  cases ho
  cases hn
theorem ownFrom_cells {β : Type} (B k : Nat) (c : Array Value) (t : TypeId) : OwnFrom B (fun (_ : β) W => W.heap[k]? = some (.cells c t (0, 0))) := by
  intro s W W' row hs hg hr
  refine (hg.block k (lt_of_block hs) (fun e => ?_)).trans hs
  obtain ⟨-, ob, ho, hn⟩ := hr k e.symm
  rw [hs] at ho
  cases ho
  cases hn
theorem ownFrom_const {β : Type} (B : Nat) (A : β → Prop) : OwnFrom B (fun (s : β) (_ : World) => A s) := fun _ _ _ _ h _ _ => h
section
variable {size most : Int} {v : Value} {l : List Pc} {x n : Int} {a B0 B1 B2 : Nat}
theorem osees_own : Own (fun j => j = B0 ∨ j = B1 ∨ j = B2 ∨ GFoot a v j) (OSees B0 B1 B2 a size most v l x n) :=
  ⟨fun _ _ _ h t hf => h.kept t hf, fun w h k hk => by
    rcases hk with rfl | rfl | rfl | hk
    · exact h.b0.lt
    · exact h.b1.lt
    · exact h.b2.lt
    · exact h.mem.lt hk⟩
theorem osees_cells (w : World) (h : OSees B0 B1 B2 a size most v l x n w) (k : Nat) (hk : k = B0 ∨ k = B1 ∨ k = B2 ∨ GFoot a v k) : ∃ c t f, w.heap[k]? = some (.cells c t f) := by
  rcases hk with rfl | rfl | rfl | rfl | hk
  · exact ⟨_, _, _, h.b0⟩
  · exact ⟨_, _, _, h.b1⟩
  · exact ⟨_, _, _, h.b2⟩
  · exact ⟨_, _, _, h.mem.head⟩
  · obtain ⟨cur, hc⟩ := own_block h.mem.row hk
    exact ⟨_, _, _, hc⟩
end

/-- The piece that has a number. -/
def HasP (l : List Pc) (x : Int) (p : Pc) : Prop := p ∈ l ∧ p.at' ≤ x ∧ x < p.fin
/-- Where Find lays its answer. -/
structure FRes (C : Nat) (p : Pc) (t : Bool) (W : World) : Prop where
  r : W.heap[C]? = some (.cells #[.int .i64 p.at', .int .i64 p.len, .int .i64 p.vmo, .int .i64 p.from', .int .i64 p.prot] 58 (0, 0))
  b : W.heap[C + 1]? = some (.cells #[.bool t] 4 (0, 0))

theorem fres_put {W : World} {C : Nat} {q p : Pc} {t : Bool} (h : FRes C q t W) (u : Bool) : FRes C p u ((((((W.setCell ⟨C, 0, none⟩ (.int .i64 p.at')).setCell ⟨C, 1, none⟩ (.int .i64 p.len)).setCell ⟨C, 2, none⟩ (.int .i64 p.vmo)).setCell ⟨C, 3, none⟩ (.int .i64 p.from')).setCell ⟨C, 4, none⟩ (.int .i64 p.prot)).setCell ⟨C + 1, 0, none⟩ (.bool u)) ∧ Turn (fun j => j = C ∨ j = C + 1) W ((((((W.setCell ⟨C, 0, none⟩ (.int .i64 p.at')).setCell ⟨C, 1, none⟩ (.int .i64 p.len)).setCell ⟨C, 2, none⟩ (.int .i64 p.vmo)).setCell ⟨C, 3, none⟩ (.int .i64 p.from')).setCell ⟨C, 4, none⟩ (.int .i64 p.prot)).setCell ⟨C + 1, 0, none⟩ (.bool u)) := by
  have h0 := set_at h.r 0 (.int .i64 p.at')
  have h1 := set_at h0 1 (.int .i64 p.len)
  have h2 := set_at h1 2 (.int .i64 p.vmo)
  have h3 := set_at h2 3 (.int .i64 p.from')
  have h4 := set_at h3 4 (.int .i64 p.prot)
  have t0 : Turn (fun j => j = C ∨ j = C + 1) W ((((((W.setCell ⟨C, 0, none⟩ (.int .i64 p.at')).setCell ⟨C, 1, none⟩ (.int .i64 p.len)).setCell ⟨C, 2, none⟩ (.int .i64 p.vmo)).setCell ⟨C, 3, none⟩ (.int .i64 p.from')).setCell ⟨C, 4, none⟩ (.int .i64 p.prot)).setCell ⟨C + 1, 0, none⟩ (.bool u)) :=
    ((((((Turn.refl (fun j => j = C ∨ j = C + 1) W).setCell (p := ⟨C, 0, none⟩) (.inl (.inl rfl)) _).setCell (p := ⟨C, 1, none⟩) (.inl (.inl rfl)) _).setCell (p := ⟨C, 2, none⟩) (.inl (.inl rfl)) _).setCell (p := ⟨C, 3, none⟩) (.inl (.inl rfl)) _).setCell (p := ⟨C, 4, none⟩) (.inl (.inl rfl)) _).setCell (p := ⟨C + 1, 0, none⟩) (.inl (.inr rfl)) _
  refine ⟨⟨?_, ?_⟩, t0⟩
  · have h5 := set_past h4 (p := ⟨C + 1, 0, none⟩) (by show C ≠ C + 1; omega) (.bool u)
    simpa using h5
  · have b0 := set_past h.b (p := ⟨C, 0, none⟩) (by show C + 1 ≠ C; omega) (.int .i64 p.at')
    have b1 := set_past b0 (p := ⟨C, 1, none⟩) (by show C + 1 ≠ C; omega) (.int .i64 p.len)
    have b2 := set_past b1 (p := ⟨C, 2, none⟩) (by show C + 1 ≠ C; omega) (.int .i64 p.vmo)
    have b3 := set_past b2 (p := ⟨C, 3, none⟩) (by show C + 1 ≠ C; omega) (.int .i64 p.from')
    have b4 := set_past b3 (p := ⟨C, 4, none⟩) (by show C + 1 ≠ C; omega) (.int .i64 p.prot)
    have b5 := set_at b4 0 (.bool u)
    simpa using b5
end Go.Proofs.YtdddmjdlikjedaaGreat
