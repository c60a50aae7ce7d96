/-
  What Call answers, and what it makes of the channel. No conditions but that the channel is one that calls can make.
-/
import Derived.Test.YtcbphfpfdfgehaaCWake
import Derived.Test.YtcbphfpfdfgehaaCWait
namespace Go.Proofs.Ytcbphfpfdfgehaa
open Go.ChangeShapes Go.WideShapes Go.ChangeAt Go.RowKit Go.Shelf

attribute [local go_sem] Oper.semAt_some

theorem results_c1 {fn : Func} {p : Tmp} {ty : TypeId} (h : fn.results = #[.cell p ty]) (tmps : Array Value) (P : Program) (w : World) :
    (results fn tmps).run P w = ((asAddr (tmps.getD p undef)).run P w).andThen fun a w₁ => (loadVar ty a).run P w₁ := by
  simp only [results, h]
  simp [Sem.run_bind, Result.andThen]
section
variable {w : World} {c depth N : Nat} {S : Nat → Sd} {V : Nat → SV}
theorem call_bad (c : Nat) (e k : Int) (tx : Int) (vd vh : Value) (hd : ∃ p n c, vd = .slice p n c) (hh : ∃ p n c, vh = .slice p n c) (w : World) (h0 : e ≠ 0) (h1 : e ≠ 1) :
    Calls Try.prog 42 #[.pointer (some ⟨c, 0, none⟩), .int .i64 e, .int .i64 k, .agg #[.int .i64 tx, vd, vh]] w fun x w' => x = .returned (.int .i64 (-10)) ∧ Turn NoBlock w w' := by
  have HC := Lib.hid (fun W => right_bad c e W h0 h1)
  obtain ⟨p1, n1, c1, rfl⟩ := hd
  obtain ⟨p2, n2, c2, rfl⟩ := hh
  clear h0 h1
  go_enter Try.func42, Try.ntmps42
  go_wp2_with (go_at_call 48; (with_reducible refine (HC.out _).mono ?_); rintro x w' ⟨rfl, rfl⟩)
  refine bodyPost_ret (v := .int .i64 (-10)) (by rw [results_c1 rfl]; go_simp) rfl ⟨rfl, ?_⟩
  exact ((((Turn.refl _ _).alloc _).alloc _).alloc _).alloc _
theorem call_shut (hC : CMem w c depth N S V) {e : Nat} (he : e < 2) (ho : (S e).op = false) (k : Int) (tx : Int) (vd vh : Value) (hd : ∃ p n c, vd = .slice p n c) (hh : ∃ p n c, vh = .slice p n c) :
    Calls Try.prog 42 #[.pointer (some ⟨c, 0, none⟩), .int .i64 (e : Int), .int .i64 k, .agg #[.int .i64 tx, vd, vh]] w fun x w' => x = .returned (.int .i64 (-24)) ∧ Turn NoBlock w w' := by
  have HC := Lib.hid (fun W (t : Turn NoBlock w W) => right_no (hC.past t) he ho)
  obtain ⟨p1, n1, c1, rfl⟩ := hd
  obtain ⟨p2, n2, c2, rfl⟩ := hh
  clear hC he ho
  go_enter Try.func42, Try.ntmps42
  go_wp2_with (go_at_call 48; (with_reducible refine (HC.out _ (((((Turn.refl _ _).alloc _).alloc _).alloc _).alloc _)).mono ?_); rintro x w' ⟨rfl, rfl⟩)
  refine bodyPost_ret (v := .int .i64 (-24)) (by rw [results_c1 rfl]; go_simp) rfl ⟨rfl, ?_⟩
  exact ((((Turn.refl _ _).alloc _).alloc _).alloc _).alloc _
theorem call_args (hC : CMem w c depth N S V) {e : Nat} (he : e < 2) (ho : (S e).op = true) (k : Int) (tx : Int) (hb : tx = 0 ∨ k < 0) (vd vh : Value) (hd : ∃ p n c, vd = .slice p n c) (hh : ∃ p n c, vh = .slice p n c) :
    Calls Try.prog 42 #[.pointer (some ⟨c, 0, none⟩), .int .i64 (e : Int), .int .i64 k, .agg #[.int .i64 tx, vd, vh]] w fun x w' => x = .returned (.int .i64 (-10)) ∧ Turn NoBlock w w' := by
  have HC := Lib.hid (fun W (t : Turn NoBlock w W) => right_yes (hC.past t) he ho)
  obtain ⟨p1, n1, c1, rfl⟩ := hd
  obtain ⟨p2, n2, c2, rfl⟩ := hh
  have hcase : tx = 0 ∨ ((tx == 0) = false ∧ k < 0) := by
    by_cases h : tx = 0
    · exact .inl h
    · exact .inr ⟨beq_eq_false_iff_ne.2 h, by omega⟩
  clear hC he ho hb
  rcases hcase with rfl | ⟨h1, h2⟩
  all_goals
    go_enter Try.func42, Try.ntmps42
    go_wp2_with (go_at_call 48; (with_reducible refine (HC.out _ (((((Turn.refl _ _).alloc _).alloc _).alloc _).alloc _)).mono ?_); rintro x w' ⟨rfl, rfl⟩)
    refine bodyPost_ret (v := .int .i64 (-10)) (by rw [results_c1 rfl]; go_simp) rfl ⟨rfl, ?_⟩
    exact ((((Turn.refl _ _).alloc _).alloc _).alloc _).alloc _

/-- The variables of Call. -/
structure CB (X : World) (E : Nat) (e k tx : Int) (vd vh : Value) : Prop where
  b0 : X.heap[E]? = some (.cells #[.int .i64 e] 3 (0, 0))
  b1 : X.heap[E + 1]? = some (.cells #[.int .i64 k] 3 (0, 0))
  b2 : X.heap[E + 2]? = some (.cells #[.int .i64 tx, vd, vh] 49 (0, 0))
  b3 : X.heap[E + 3]? = some (.cells #[.int .i64 0] 62 (0, 0))
theorem CB.kept {X Y : World} {E : Nat} {e k tx : Int} {vd vh : Value} {F : Nat → Prop} (r : CB X E e k tx vd vh) (t : Turn F X Y) (hF : ∀ i, E ≤ i → i < E + 4 → ¬ F i) : CB Y E e k tx vd vh :=
  ⟨t.heap r.b0 (hF _ (by omega) (by omega)), t.heap r.b1 (hF _ (by omega) (by omega)), t.heap r.b2 (hF _ (by omega) (by omega)), t.heap r.b3 (hF _ (by omega) (by omega))⟩
theorem cb_new (w : World) (e k tx : Int) (vd vh : Value) (c : Nat) : ∃ W, (((((w.alloc (.cells #[.int .i64 e] 3)).alloc (.cells #[.int .i64 k] 3)).alloc (.cells #[.int .i64 tx, vd, vh] 49)).alloc (.cells #[.int .i64 0] 62)).alloc (.cells #[.pointer (some ⟨c, 0, none⟩)] 23)).alloc (.cells #[.int .i64 e] 3) = W ∧
    CB W w.heap.size e k tx vd vh ∧ Boxed W (w.heap.size + 4) 23 (.pointer (some ⟨c, 0, none⟩)) ∧ Boxed W (w.heap.size + 5) 3 (.int .i64 e) ∧ W.heap.size = w.heap.size + 6 ∧ Turn NoBlock w W := by
  obtain ⟨W1, h1⟩ : ∃ W1, w.alloc (.cells #[.int .i64 e] 3) = W1 := ⟨_, rfl⟩
  obtain ⟨W2, h2⟩ : ∃ W2, W1.alloc (.cells #[.int .i64 k] 3) = W2 := ⟨_, rfl⟩
  obtain ⟨W3, h3⟩ : ∃ W3, W2.alloc (.cells #[.int .i64 tx, vd, vh] 49) = W3 := ⟨_, rfl⟩
  obtain ⟨W4, h4⟩ : ∃ W4, W3.alloc (.cells #[.int .i64 0] 62) = W4 := ⟨_, rfl⟩
  obtain ⟨W5, h5⟩ : ∃ W5, W4.alloc (.cells #[.pointer (some ⟨c, 0, none⟩)] 23) = W5 := ⟨_, rfl⟩
  obtain ⟨W6, h6⟩ : ∃ W6, W5.alloc (.cells #[.int .i64 e] 3) = W6 := ⟨_, rfl⟩
  have s1 : W1.heap.size = w.heap.size + 1 := by rw [← h1]; simp
  have s2 : W2.heap.size = w.heap.size + 2 := by rw [← h2]; simp [s1]
  have s3 : W3.heap.size = w.heap.size + 3 := by rw [← h3]; simp [s2]
  have s4 : W4.heap.size = w.heap.size + 4 := by rw [← h4]; simp [s3]
  have s5 : W5.heap.size = w.heap.size + 5 := by rw [← h5]; simp [s4]
  have s6 : W6.heap.size = w.heap.size + 6 := by rw [← h6]; simp [s5]
  have t1 : Turn NoBlock w W1 := by rw [← h1]; exact (Turn.refl _ _).alloc _
  have t2 : Turn NoBlock W1 W2 := by rw [← h2]; exact (Turn.refl _ _).alloc _
  have t3 : Turn NoBlock W2 W3 := by rw [← h3]; exact (Turn.refl _ _).alloc _
  have t4 : Turn NoBlock W3 W4 := by rw [← h4]; exact (Turn.refl _ _).alloc _
  have t5 : Turn NoBlock W4 W5 := by rw [← h5]; exact (Turn.refl _ _).alloc _
  have t6 : Turn NoBlock W5 W6 := by rw [← h6]; exact (Turn.refl _ _).alloc _
  have n1 := heap_alloc_new w (.cells #[.int .i64 e] 3)
  have n2 := heap_alloc_new W1 (.cells #[.int .i64 k] 3)
  have n3 := heap_alloc_new W2 (.cells #[.int .i64 tx, vd, vh] 49)
  have n4 := heap_alloc_new W3 (.cells #[.int .i64 0] 62)
  have n5 := heap_alloc_new W4 (.cells #[.pointer (some ⟨c, 0, none⟩)] 23)
  have n6 := heap_alloc_new W5 (.cells #[.int .i64 e] 3)
  rw [h1] at n1
  rw [h2, s1] at n2
  rw [h3, s2] at n3
  rw [h4, s3] at n4
  rw [h5, s4] at n5
  rw [h6, s5] at n6
  have kp : ∀ {X Y : World} {i : Nat} {o : Obj}, Turn NoBlock X Y → X.heap[i]? = some o → Y.heap[i]? = some o := fun t h => t.heap h (fun h => h)
  rw [h1, h2, h3, h4, h5, h6]
  exact ⟨W6, rfl, ⟨kp t6 (kp t5 (kp t4 (kp t3 (kp t2 n1)))), kp t6 (kp t5 (kp t4 (kp t3 n2))), kp t6 (kp t5 (kp t4 n3)), kp t6 (kp t5 n4)⟩, kp t6 n5, n6, s6, TT (TT (TT (TT (TT t1 t2) t3) t4) t5) t6⟩
/-- Does a waiter bar a call? -/
def Bars (e : Nat) (k tx : Int) (x : Nat × Wt) : Prop := x.2.who = k ∨ (x.1 = e ∧ x.2.tx = tx)
def NoBar (e : Nat) (k tx : Int) (pre : List (Nat × Wt)) : Prop := ∀ x ∈ pre, ¬ Bars e k tx x
theorem NoBar.snoc {e : Nat} {k tx : Int} {pre : List (Nat × Wt)} {x : Nat × Wt} (h : NoBar e k tx pre) (hx : ¬ Bars e k tx x) : NoBar e k tx (pre ++ [x]) := fun y hy => by
  rcases List.mem_append.1 hy with h6 | h6
  · exact h y h6
  · simp at h6
    subst h6
    exact hx

set_option maxRecDepth 100000 in
set_option maxHeartbeats 4000000 in
theorem call_exists0 (hC : CMem w c depth N S V) (hN : N ≤ 1000000) (ho : (S 0).op = true) (k : Int) (tx : Int) (htx : tx ≠ 0) (hk : ¬ k < 0) (hex : ∃ x ∈ waitL S 0, Bars 0 k tx x) (vd vh : Value) (hd : ∃ p n c, vd = .slice p n c) (hh : ∃ p n c, vh = .slice p n c) :
    Calls Try.prog 42 #[.pointer (some ⟨c, 0, none⟩), .int .i64 0, .int .i64 k, .agg #[.int .i64 tx, vd, vh]] w fun x w' => x = .returned (.int .i64 (-26)) ∧ Turn NoBlock w w' := by
  have HC := Lib.hid (fun W (t : Turn NoBlock w W) => show Calls Try.prog 48 #[.pointer (some ⟨c, 0, none⟩), .int .i64 0] W _ from right_yes (hC.past t) (e := 0) (by omega) ho)
  obtain ⟨p1, n1, c1, rfl⟩ := hd
  obtain ⟨p2, n2, c2, rfl⟩ := hh
  have HX := Lib.hid hex
  have HM := Lib.hid (fun W (t : Turn NoBlock w W) => hC.past t)
  have HN := Lib.hid hN
  have h0 : (tx == 0) = false := beq_eq_false_iff_ne.2 htx
  clear hC ho hex htx hN
  refine (callsIn_wide (n := 6)).1 ?_
  refine callsIn_of_wp_marks (F := Fence.wide) Try.func42 rfl trivial ?_ rfl
  simp only [Try.ntmps42, List.size_toArray, List.length_cons, List.length_nil, Nat.reduceAdd, Nat.reduceSub, Array.replicate_succ, Array.replicate_zero, List.push_toArray, List.append_toArray, List.nil_append, List.cons_append]
  gi_wp2_with (first
    | (refine ⟨trivial, ?_⟩; gi_at_call 48; refine (callsIn_wide.2 (HC.out _ (((((Turn.refl NoBlock w).alloc _).alloc _).alloc _).alloc _))).mono ?_; rintro e w' ⟨rfl, rfl⟩)
    | (refine ⟨trivial, ?_⟩; gi_at_call 70; refine (callsIn_wide.2 (waiting_any _ c 0)).mono ?_; rintro e w' ⟨rfl, rfl⟩))
  obtain ⟨E, hE⟩ : ∃ E, w.heap.size = E := ⟨_, rfl⟩
  obtain ⟨W0, hW0, hcb, hb4, hb5, hsz, hT⟩ := cb_new w 0 k tx (.slice p1 n1 c1) (.slice p2 n2 c2) c
  simp only [hE, Nat.add_assoc, Nat.reduceAdd]
  rw [hW0]
  rw [hE] at hcb hb4 hb5 hsz
  have hQ0 : WSees (E + 5) (E + 4) 0 c depth N S V W0 := ⟨hb5, hb4, HM.out W0 hT⟩
  clear hW0
  refine range2 (gf := 82) (lb := #[.pointer (some ⟨E + 5, 0, none⟩), .pointer (some ⟨E + 4, 0, none⟩)]) rfl (enters_of Try.func82 (by kernel_rfl) rfl)
    (wait_gives0 (E + 5) (E + 4) c depth N S V (by have := HN.out; omega)) (fun _ => rfl)
    (fun pre X => NoBar 0 k tx pre ∧ WSees (E + 5) (E + 4) 0 c depth N S V X ∧ Turn NoBlock w X ∧ CB X E 0 k tx (.slice p1 n1 c1) (.slice p2 n2 c2))
    (fun cc _ X => cc = .ret ∧ X.heap[E + 3]? = some (.cells #[.int .i64 (-26)] 62 (0, 0)) ∧ Turn NoBlock w X) ?hI ?hIx (fun _ _ h => h.2.1) ⟨fun x hx => by simp at hx, hQ0, hT, hcb⟩
    (fun x a' X => ∃ Bx, E + 6 ≤ Bx ∧ X.heap[Bx]? = some (.cells #[.int .i64 x.2.who, .int .i64 x.2.tx] 126 (0, 0)) ∧ a' = { tmps := (.pointer (some ⟨c, 0, none⟩) :: .int .i64 0 :: .int .i64 k :: .agg #[.int .i64 tx, .slice p1 n1 c1, .slice p2 n2 c2] :: undef :: .pointer (some ⟨E, 0, none⟩) :: .pointer (some ⟨E + 1, 0, none⟩) :: .pointer (some ⟨E + 2, 0, none⟩) :: .pointer (some ⟨E + 3, 0, none⟩) :: .int .i64 0 :: .int .i64 (x.1 : Int) :: .pointer (some ⟨Bx, 0, none⟩) :: undef :: undef :: .pointer (some ⟨c, 0, none⟩) :: .int .i64 0 :: .int .i64 0 :: .int .i64 0 :: .bool false :: undef :: .pointer (some ⟨E + 2, 0, none⟩) :: .int .i64 tx :: .bool false :: .bool false :: .int .i64 k :: .bool (decide (k < 0)) :: .bool (decide (k < 0)) :: .pointer (some ⟨c, 0, none⟩) :: .int .i64 0 :: .func (.func 82) #[] #[.pointer (some ⟨E + 5, 0, none⟩), .pointer (some ⟨E + 4, 0, none⟩)] :: .int .i64 (x.1 : Int) :: x.2.agg :: undef :: undef :: undef :: undef :: undef :: undef :: undef :: undef :: undef :: undef :: undef :: undef :: undef :: undef :: undef :: undef :: undef :: undef :: undef :: undef :: undef :: undef :: undef :: undef :: undef :: undef :: undef :: undef :: undef :: undef :: undef :: undef :: undef :: undef :: undef :: undef :: undef :: undef :: undef :: undef :: undef :: undef :: undef :: undef :: undef :: [] : List Value).toArray, defers := [] }) ?hAx ?assign ?body ?done ?stop
  case hI =>
    rintro pre X Y row ⟨hn, hq, ht, hr0⟩ hg hr
    exact ⟨hn, hq.grown hQ0 hg (fun r e => (hr r e).1), ht.grown hg (fun r e => .inr (by have := (hr r e).1; omega)), hr0.kept (turn_of_grown hg) (fun i h1 h2 e => by have := (hr i e).1; omega)⟩
  case hIx =>
    rintro cc pre X Y row ⟨rfl, h1, h2⟩ hg hr
    exact ⟨rfl, heap_nocell h1 hg (fun r e => (hr r e).2), h2.grown hg (fun r e => .inr (by have := (hr r e).1; omega))⟩
  case hAx =>
    rintro x a' - X Y row ⟨Bx, hlt, hb, rfl⟩ hg hr
    exact ⟨Bx, hlt, heap_nocell hb hg (fun r e => (hr r e).2), rfl⟩
  case assign =>
    rintro l pre ⟨a, t⟩ X K ⟨hn, hq, ht, hr0⟩ - hX hK
    have HK := Lib.hid hK
    have HI := Lib.hid (And.intro hn (And.intro hq (And.intro ht (And.intro hr0 (And.intro hX hsz)))))
    unfold wEnc Wt.agg
    clear hn hq ht hr0 hX hK hE hQ0 hT hcb hb4 hb5 hsz
    gi_wp2
    have ta : Turn NoBlock X (X.alloc (.cells #[.int .i64 t.who, .int .i64 t.tx] 126)) := (Turn.refl _ X).alloc _
    refine HK.out _ _ (KeepsAll.of_turn ta (fun _ h => h.elim)) ⟨HI.out.1, HI.out.2.1.kept ta (fun _ _ h => h), TT HI.out.2.2.1 ta, HI.out.2.2.2.1.kept ta (fun _ _ _ h => h)⟩ ⟨X.heap.size, ?_, ?_, ?_⟩
    · have := HI.out.2.2.2.2; omega
    · rw [heap_alloc_new]
    · rfl
  case body =>
    rintro l pre ⟨a, t⟩ a' X hX ⟨hn, hq, ht, hr0⟩ ⟨Bx, hBx, hbx2, rfl⟩ ⟨⟨ha, -⟩, -⟩
    have e0 : X.cell? ⟨E, 0, none⟩ = some (.int .i64 0) := by rw [cell_at hr0.b0]; rfl
    have e1 : X.cell? ⟨E + 1, 0, none⟩ = some (.int .i64 k) := by rw [cell_at hr0.b1]; rfl
    have e2 : X.cell? ⟨E + 2, 0, none⟩ = some (.int .i64 tx) := by rw [cell_at hr0.b2]; rfl
    have e3 : X.cell? ⟨E + 3, 0, none⟩ = some (.int .i64 0) := by rw [cell_at hr0.b3]; rfl
    have f3 := free_at hr0.b3 0
    have x0 : X.cell? ⟨Bx, 0, none⟩ = some (.int .i64 t.who) := by rw [cell_at hbx2]; rfl
    have x1 : X.cell? ⟨Bx, 1, none⟩ = some (.int .i64 t.tx) := by rw [cell_at hbx2]; rfl
    have HI := Lib.hid (And.intro hn (And.intro hq (And.intro ht hr0)))
    have HE := Lib.hid (And.intro hE (And.intro hsz hX))
    unfold Wt.agg
    clear hn hq ht hr0 hX hbx2 hE hQ0 hT hcb hb4 hb5 hsz
    have ha2 : a = 0 ∨ a = 1 := by omega
    by_cases hw : t.who = k
    · have hwb : (t.who == k) = true := by simpa using hw
      clear ha2 hw
      gi_wp2
      have q1 := set_at HI.out.2.2.2.b3 0 (.int .i64 (-26))
      have tt := (Turn.refl (fun i => i = E + 3) X).setCell (p := ⟨E + 3, 0, none⟩) (.inl rfl) (.int .i64 (-26))
      have hEE := HE.out
      exact ⟨KeepsAll.of_turn tt (fun i hi => .inl (by omega)), rfl, by simpa using q1, HI.out.2.2.1.trans tt (fun i hi => .inr (by omega))⟩
    · have hwb : (t.who == k) = false := beq_eq_false_iff_ne.2 hw
      have HW := Lib.hid hw
      clear hw
      rcases ha2 with rfl | rfl
      · simp only [z0]
        by_cases hx : t.tx = tx
        · have hxb : (t.tx == tx) = true := by simpa using hx
          clear hx
          gi_wp2
          have q1 := set_at HI.out.2.2.2.b3 0 (.int .i64 (-26))
          have tt := (Turn.refl (fun i => i = E + 3) X).setCell (p := ⟨E + 3, 0, none⟩) (.inl rfl) (.int .i64 (-26))
          have hEE := HE.out
          exact ⟨KeepsAll.of_turn tt (fun i hi => .inl (by omega)), rfl, by simpa using q1, HI.out.2.2.1.trans tt (fun i hi => .inr (by omega))⟩
        · have hxb : (t.tx == tx) = false := beq_eq_false_iff_ne.2 hx
          have HNB := Lib.hid (show ¬ Bars 0 k tx (0, t) from fun h => h.elim HW.out (fun h => hx h.2))
          clear hx
          gi_wp2
          exact ⟨KeepsAll.refl _ _, HI.out.1.snoc HNB.out, HI.out.2⟩
      · simp only [z1]
        have HNB := Lib.hid (show ¬ Bars 0 k tx (1, t) from fun h => h.elim HW.out (fun h => by simp at h))
        gi_wp2
        exact ⟨KeepsAll.refl _ _, HI.out.1.snoc HNB.out, HI.out.2⟩
  case done =>
    rintro D xs X hD rfl ⟨hn, -⟩ hK
    obtain ⟨x, hx, hb⟩ := HX.out
    exact absurd hb (hn x hx)
  case stop =>
    rintro D cc pre X hD - ⟨rfl, h1, h2⟩ hK
    have HI := Lib.hid (And.intro h1 (And.intro h2 (And.intro hD (And.intro hE hsz))))
    have HK := Lib.hid hK
    clear h1 h2 hK hD hE hQ0 hT hcb hb4 hb5 hsz
    gi_wp2
    have hEE := HI.out.2.2
    have tp := turn_putObj X D (.deferred none)
    refine ⟨by simp, .inl ⟨_, _, rfl, run_takeDeferred HK.out, ?_⟩⟩
    have y0 : (X.putObj D (.deferred none)).cell? ⟨E + 3, 0, none⟩ = some (.int .i64 (-26)) := by rw [cell_at (tp.heap HI.out.1 (by omega))]; rfl
    exact ⟨.int .i64 (-26), by rw [results_c1 rfl]; go_simp, rfl, HI.out.2.1.trans tp (fun i hi => .inr (by omega))⟩
set_option maxRecDepth 100000 in
set_option maxHeartbeats 4000000 in
theorem call_exists1 (hC : CMem w c depth N S V) (hN : N ≤ 1000000) (ho : (S 1).op = true) (k : Int) (tx : Int) (htx : tx ≠ 0) (hk : ¬ k < 0) (hex : ∃ x ∈ waitL S 1, Bars 1 k tx x) (vd vh : Value) (hd : ∃ p n c, vd = .slice p n c) (hh : ∃ p n c, vh = .slice p n c) :
    Calls Try.prog 42 #[.pointer (some ⟨c, 0, none⟩), .int .i64 1, .int .i64 k, .agg #[.int .i64 tx, vd, vh]] w fun x w' => x = .returned (.int .i64 (-26)) ∧ Turn NoBlock w w' := by
  have HC := Lib.hid (fun W (t : Turn NoBlock w W) => show Calls Try.prog 48 #[.pointer (some ⟨c, 0, none⟩), .int .i64 1] W _ from right_yes (hC.past t) (e := 1) (by omega) ho)
  obtain ⟨p1, n1, c1, rfl⟩ := hd
  obtain ⟨p2, n2, c2, rfl⟩ := hh
  have HX := Lib.hid hex
  have HM := Lib.hid (fun W (t : Turn NoBlock w W) => hC.past t)
  have HN := Lib.hid hN
  have h0 : (tx == 0) = false := beq_eq_false_iff_ne.2 htx
  clear hC ho hex htx hN
  refine (callsIn_wide (n := 6)).1 ?_
  refine callsIn_of_wp_marks (F := Fence.wide) Try.func42 rfl trivial ?_ rfl
  simp only [Try.ntmps42, List.size_toArray, List.length_cons, List.length_nil, Nat.reduceAdd, Nat.reduceSub, Array.replicate_succ, Array.replicate_zero, List.push_toArray, List.append_toArray, List.nil_append, List.cons_append]
  gi_wp2_with (first
    | (refine ⟨trivial, ?_⟩; gi_at_call 48; refine (callsIn_wide.2 (HC.out _ (((((Turn.refl NoBlock w).alloc _).alloc _).alloc _).alloc _))).mono ?_; rintro e w' ⟨rfl, rfl⟩)
    | (refine ⟨trivial, ?_⟩; gi_at_call 70; refine (callsIn_wide.2 (waiting_any _ c 1)).mono ?_; rintro e w' ⟨rfl, rfl⟩))
  obtain ⟨E, hE⟩ : ∃ E, w.heap.size = E := ⟨_, rfl⟩
  obtain ⟨W0, hW0, hcb, hb4, hb5, hsz, hT⟩ := cb_new w 1 k tx (.slice p1 n1 c1) (.slice p2 n2 c2) c
  simp only [hE, Nat.add_assoc, Nat.reduceAdd]
  rw [hW0]
  rw [hE] at hcb hb4 hb5 hsz
  have hQ0 : WSees (E + 5) (E + 4) 1 c depth N S V W0 := ⟨hb5, hb4, HM.out W0 hT⟩
  clear hW0
  refine range2 (gf := 82) (lb := #[.pointer (some ⟨E + 5, 0, none⟩), .pointer (some ⟨E + 4, 0, none⟩)]) rfl (enters_of Try.func82 (by kernel_rfl) rfl)
    (wait_gives1 (E + 5) (E + 4) c depth N S V (by have := HN.out; omega)) (fun _ => rfl)
    (fun pre X => NoBar 1 k tx pre ∧ WSees (E + 5) (E + 4) 1 c depth N S V X ∧ Turn NoBlock w X ∧ CB X E 1 k tx (.slice p1 n1 c1) (.slice p2 n2 c2))
    (fun cc _ X => cc = .ret ∧ X.heap[E + 3]? = some (.cells #[.int .i64 (-26)] 62 (0, 0)) ∧ Turn NoBlock w X) ?hI ?hIx (fun _ _ h => h.2.1) ⟨fun x hx => by simp at hx, hQ0, hT, hcb⟩
    (fun x a' X => ∃ Bx, E + 6 ≤ Bx ∧ X.heap[Bx]? = some (.cells #[.int .i64 x.2.who, .int .i64 x.2.tx] 126 (0, 0)) ∧ a' = { tmps := (.pointer (some ⟨c, 0, none⟩) :: .int .i64 1 :: .int .i64 k :: .agg #[.int .i64 tx, .slice p1 n1 c1, .slice p2 n2 c2] :: undef :: .pointer (some ⟨E, 0, none⟩) :: .pointer (some ⟨E + 1, 0, none⟩) :: .pointer (some ⟨E + 2, 0, none⟩) :: .pointer (some ⟨E + 3, 0, none⟩) :: .int .i64 0 :: .int .i64 (x.1 : Int) :: .pointer (some ⟨Bx, 0, none⟩) :: undef :: undef :: .pointer (some ⟨c, 0, none⟩) :: .int .i64 1 :: .int .i64 0 :: .int .i64 0 :: .bool false :: undef :: .pointer (some ⟨E + 2, 0, none⟩) :: .int .i64 tx :: .bool false :: .bool false :: .int .i64 k :: .bool (decide (k < 0)) :: .bool (decide (k < 0)) :: .pointer (some ⟨c, 0, none⟩) :: .int .i64 1 :: .func (.func 82) #[] #[.pointer (some ⟨E + 5, 0, none⟩), .pointer (some ⟨E + 4, 0, none⟩)] :: .int .i64 (x.1 : Int) :: x.2.agg :: undef :: undef :: undef :: undef :: undef :: undef :: undef :: undef :: undef :: undef :: undef :: undef :: undef :: undef :: undef :: undef :: undef :: undef :: undef :: undef :: undef :: undef :: undef :: undef :: undef :: undef :: undef :: undef :: undef :: undef :: undef :: undef :: undef :: undef :: undef :: undef :: undef :: undef :: undef :: undef :: undef :: undef :: undef :: undef :: undef :: [] : List Value).toArray, defers := [] }) ?hAx ?assign ?body ?done ?stop
  case hI =>
    rintro pre X Y row ⟨hn, hq, ht, hr0⟩ hg hr
    exact ⟨hn, hq.grown hQ0 hg (fun r e => (hr r e).1), ht.grown hg (fun r e => .inr (by have := (hr r e).1; omega)), hr0.kept (turn_of_grown hg) (fun i h1 h2 e => by have := (hr i e).1; omega)⟩
  case hIx =>
    rintro cc pre X Y row ⟨rfl, h1, h2⟩ hg hr
    exact ⟨rfl, heap_nocell h1 hg (fun r e => (hr r e).2), h2.grown hg (fun r e => .inr (by have := (hr r e).1; omega))⟩
  case hAx =>
    rintro x a' - X Y row ⟨Bx, hlt, hb, rfl⟩ hg hr
    exact ⟨Bx, hlt, heap_nocell hb hg (fun r e => (hr r e).2), rfl⟩
  case assign =>
    rintro l pre ⟨a, t⟩ X K ⟨hn, hq, ht, hr0⟩ - hX hK
    have HK := Lib.hid hK
    have HI := Lib.hid (And.intro hn (And.intro hq (And.intro ht (And.intro hr0 (And.intro hX hsz)))))
    unfold wEnc Wt.agg
    clear hn hq ht hr0 hX hK hE hQ0 hT hcb hb4 hb5 hsz
    gi_wp2
    have ta : Turn NoBlock X (X.alloc (.cells #[.int .i64 t.who, .int .i64 t.tx] 126)) := (Turn.refl _ X).alloc _
    refine HK.out _ _ (KeepsAll.of_turn ta (fun _ h => h.elim)) ⟨HI.out.1, HI.out.2.1.kept ta (fun _ _ h => h), TT HI.out.2.2.1 ta, HI.out.2.2.2.1.kept ta (fun _ _ _ h => h)⟩ ⟨X.heap.size, ?_, ?_, ?_⟩
    · have := HI.out.2.2.2.2; omega
    · rw [heap_alloc_new]
    · rfl
  case body =>
    rintro l pre ⟨a, t⟩ a' X hX ⟨hn, hq, ht, hr0⟩ ⟨Bx, hBx, hbx2, rfl⟩ ⟨⟨ha, -⟩, -⟩
    have e0 : X.cell? ⟨E, 0, none⟩ = some (.int .i64 1) := by rw [cell_at hr0.b0]; rfl
    have e1 : X.cell? ⟨E + 1, 0, none⟩ = some (.int .i64 k) := by rw [cell_at hr0.b1]; rfl
    have e2 : X.cell? ⟨E + 2, 0, none⟩ = some (.int .i64 tx) := by rw [cell_at hr0.b2]; rfl
    have e3 : X.cell? ⟨E + 3, 0, none⟩ = some (.int .i64 0) := by rw [cell_at hr0.b3]; rfl
    have f3 := free_at hr0.b3 0
    have x0 : X.cell? ⟨Bx, 0, none⟩ = some (.int .i64 t.who) := by rw [cell_at hbx2]; rfl
    have x1 : X.cell? ⟨Bx, 1, none⟩ = some (.int .i64 t.tx) := by rw [cell_at hbx2]; rfl
    have HI := Lib.hid (And.intro hn (And.intro hq (And.intro ht hr0)))
    have HE := Lib.hid (And.intro hE (And.intro hsz hX))
    unfold Wt.agg
    clear hn hq ht hr0 hX hbx2 hE hQ0 hT hcb hb4 hb5 hsz
    have ha2 : a = 1 ∨ a = 0 := by omega
    by_cases hw : t.who = k
    · have hwb : (t.who == k) = true := by simpa using hw
      clear ha2 hw
      gi_wp2
      have q1 := set_at HI.out.2.2.2.b3 0 (.int .i64 (-26))
      have tt := (Turn.refl (fun i => i = E + 3) X).setCell (p := ⟨E + 3, 0, none⟩) (.inl rfl) (.int .i64 (-26))
      have hEE := HE.out
      exact ⟨KeepsAll.of_turn tt (fun i hi => .inl (by omega)), rfl, by simpa using q1, HI.out.2.2.1.trans tt (fun i hi => .inr (by omega))⟩
    · have hwb : (t.who == k) = false := beq_eq_false_iff_ne.2 hw
      have HW := Lib.hid hw
      clear hw
      rcases ha2 with rfl | rfl
      · simp only [z1]
        by_cases hx : t.tx = tx
        · have hxb : (t.tx == tx) = true := by simpa using hx
          clear hx
          gi_wp2
          have q1 := set_at HI.out.2.2.2.b3 0 (.int .i64 (-26))
          have tt := (Turn.refl (fun i => i = E + 3) X).setCell (p := ⟨E + 3, 0, none⟩) (.inl rfl) (.int .i64 (-26))
          have hEE := HE.out
          exact ⟨KeepsAll.of_turn tt (fun i hi => .inl (by omega)), rfl, by simpa using q1, HI.out.2.2.1.trans tt (fun i hi => .inr (by omega))⟩
        · have hxb : (t.tx == tx) = false := beq_eq_false_iff_ne.2 hx
          have HNB := Lib.hid (show ¬ Bars 1 k tx (1, t) from fun h => h.elim HW.out (fun h => hx h.2))
          clear hx
          gi_wp2
          exact ⟨KeepsAll.refl _ _, HI.out.1.snoc HNB.out, HI.out.2⟩
      · simp only [z0]
        have HNB := Lib.hid (show ¬ Bars 1 k tx (0, t) from fun h => h.elim HW.out (fun h => by simp at h))
        gi_wp2
        exact ⟨KeepsAll.refl _ _, HI.out.1.snoc HNB.out, HI.out.2⟩
  case done =>
    rintro D xs X hD rfl ⟨hn, -⟩ hK
    obtain ⟨x, hx, hb⟩ := HX.out
    exact absurd hb (hn x hx)
  case stop =>
    rintro D cc pre X hD - ⟨rfl, h1, h2⟩ hK
    have HI := Lib.hid (And.intro h1 (And.intro h2 (And.intro hD (And.intro hE hsz))))
    have HK := Lib.hid hK
    clear h1 h2 hK hD hE hQ0 hT hcb hb4 hb5 hsz
    gi_wp2
    have hEE := HI.out.2.2
    have tp := turn_putObj X D (.deferred none)
    refine ⟨by simp, .inl ⟨_, _, rfl, run_takeDeferred HK.out, ?_⟩⟩
    have y0 : (X.putObj D (.deferred none)).cell? ⟨E + 3, 0, none⟩ = some (.int .i64 (-26)) := by rw [cell_at (tp.heap HI.out.1 (by omega))]; rfl
    exact ⟨.int .i64 (-26), by rw [results_c1 rfl]; go_simp, rfl, HI.out.2.1.trans tp (fun i hi => .inr (by omega))⟩
end
end Go.Proofs.Ytcbphfpfdfgehaa
