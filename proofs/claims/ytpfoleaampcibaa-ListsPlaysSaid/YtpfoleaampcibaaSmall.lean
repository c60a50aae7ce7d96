/-
  What hasQueue, hasItem, head, join answer, and what they make of the lists' memory. No conditions but that the lists are such as calls can make.
-/
import Derived.Test.YtpfoleaampcibaaRows
import Derived.Test.YtpfoleaampcibaaMem
import Derived.BigQuiet
namespace Go.Proofs.Ytpfoleaampcibaa
open Go.ChangeShapes Go.WideShapes Go.ChangeAt Go.RowKit

theorem same {P : Program} {f : FuncId} {args : Array Value} {w : World} {e0 : Ending} (h : Calls P f args w fun e w' => e = e0 ∧ w' = w) : Calls P f args w fun e w' => e = e0 ∧ w = w' :=
  h.mono fun _ _ hh => ⟨hh.1, hh.2.symm⟩

theorem hasq_yes (w : World) (a p c : Nat) (r : Raw) (q : Int) (h : Mem w a p c r) (h0 : 0 ≤ q) (h1 : q < r.queues) :
    Calls Try.prog 31 #[.pointer (some ⟨a, 0, none⟩), .int .i64 q] w fun e w' => e = .returned (.bool true) ∧ w = w' := by
  have c2 := h.c2
  clear h
  go_enter Try.func31, Try.ntmps31
  go_wp2
  go_ret
  exact ⟨rfl, rfl⟩
theorem hasq_no (w : World) (a p c : Nat) (r : Raw) (q : Int) (h : Mem w a p c r) (h0 : q < 0 ∨ r.queues ≤ q) :
    Calls Try.prog 31 #[.pointer (some ⟨a, 0, none⟩), .int .i64 q] w fun e w' => e = .returned (.bool false) ∧ w = w' := by
  have c2 := h.c2
  clear h
  rcases h0 with h0 | h0
  · go_enter Try.func31, Try.ntmps31
    go_wp2
    go_ret
    exact ⟨rfl, rfl⟩
  · have h1 : 0 ≤ q := by omega
    have hd : decide (q < (r.queues : Int)) = false := by simp; omega
    go_enter Try.func31, Try.ntmps31
    go_wp2
    go_ret
    exact ⟨rfl, rfl⟩
theorem hasi_yes (w : World) (a p c : Nat) (r : Raw) (q : Int) (h : Mem w a p c r) (h0 : 0 ≤ q) (h1 : q < r.items) :
    Calls Try.prog 32 #[.pointer (some ⟨a, 0, none⟩), .int .i64 q] w fun e w' => e = .returned (.bool true) ∧ w = w' := by
  have c2 := h.c0
  clear h
  go_enter Try.func32, Try.ntmps32
  go_wp2
  go_ret
  exact ⟨rfl, rfl⟩
theorem hasi_no (w : World) (a p c : Nat) (r : Raw) (q : Int) (h : Mem w a p c r) (h0 : q < 0 ∨ r.items ≤ q) :
    Calls Try.prog 32 #[.pointer (some ⟨a, 0, none⟩), .int .i64 q] w fun e w' => e = .returned (.bool false) ∧ w = w' := by
  have c2 := h.c0
  clear h
  rcases h0 with h0 | h0
  · go_enter Try.func32, Try.ntmps32
    go_wp2
    go_ret
    exact ⟨rfl, rfl⟩
  · have h1 : 0 ≤ q := by omega
    have hd : decide (q < (r.items : Int)) = false := by simp; omega
    go_enter Try.func32, Try.ntmps32
    go_wp2
    go_ret
    exact ⟨rfl, rfl⟩

theorem head_any (w : World) (a p c : Nat) (r : Raw) (q hd : Nat) (h : Mem w a p c r) (hh : r.items + q = hd) (hb : hd ≤ 131072) :
    Calls Try.prog 28 #[.pointer (some ⟨a, 0, none⟩), .int .i64 q] w fun e w' => e = .returned (.int .i64 hd) ∧ w = w' := by
  have c0 := h.c0
  clear h
  subst hh
  go_enter Try.func28, Try.ntmps28
  go_wp2
  go_ret
  exact ⟨by simp, rfl⟩

theorem join_any (w : World) (a p c u v : Nat) (r : Raw) (h : Mem w a p c r) (hu : u < r.items + r.queues) (hv : v < r.items + r.queues) :
    Calls Try.prog 33 #[.pointer (some ⟨a, 0, none⟩), .int .i64 u, .int .i64 v] w fun e w' => e = .returned (.tuple #[]) ∧ Mem w' a p c (r.join u v) ∧ Turn (Foot a p c) w w' := by
  have c1 := h.c1
  have d1 := h.b hu
  have d2 := h.fp (u * 3 + 2)
  have h2 := h.setB hu v
  have e1 := h2.a' hv
  have e2 := h2.fp (v * 3 + 1)
  have e0 := h2.c1
  have h3 := h2.setA hv u
  have H3 : Hid (Mem ((w.setCell ⟨p, u * 3 + 2, none⟩ (.int .i64 v)).setCell ⟨p, v * 3 + 1, none⟩ (.int .i64 u)) a p c (r.join u v)) := h3
  obtain ⟨N, hN⟩ : ∃ N, r.items + r.queues = N := ⟨_, rfl⟩
  simp only [hN] at c1 e0 hu hv
  clear h h2 h3
  go_enter Try.func33, Try.ntmps33
  go_wp2
  go_end0
  exact ⟨rfl, H3.out, (foot_setP _ _ _ _ _).then (foot_setP _ _ _ _ _)⟩

/-- 'free': what may be put where. -/
theorem free_range (w : World) (a p c : Nat) (r : Raw) (q x : Int) (h : Mem w a p c r) (hb : q < 0 ∨ r.queues ≤ q ∨ x < 0 ∨ r.items ≤ x) :
    Calls Try.prog 27 #[.pointer (some ⟨a, 0, none⟩), .int .i64 q, .int .i64 x] w fun e w' => e = .returned (.int .i64 (-14)) ∧ w = w' := by
  by_cases hq : q < 0 ∨ r.queues ≤ q
  · have c1 := fun w (h : Mem w a p c r) => hasq_no w a p c r q h hq
    have H : Hid (Mem w a p c r) := h
    clear h hb hq
    go_enter Try.func27, Try.ntmps27
    go_wp2_with (go_at_call 31; (with_reducible refine (c1 _ (Hid.out H)).mono ?_); rintro e w' ⟨rfl, rfl⟩)
    go_ret
    exact ⟨rfl, rfl⟩
  · have c1 := fun w (h : Mem w a p c r) => hasq_yes w a p c r q h (by omega) (by omega)
    have c2 := fun w (h : Mem w a p c r) => hasi_no w a p c r x h (by omega)
    have H : Hid (Mem w a p c r) := h
    clear h hb hq
    go_enter Try.func27, Try.ntmps27
    go_wp2_with (first
      | (go_at_call 31; (with_reducible refine (c1 _ (Hid.out H)).mono ?_); rintro e w' ⟨rfl, rfl⟩)
      | (go_at_call 32; (with_reducible refine (c2 _ (Hid.out H)).mono ?_); rintro e w' ⟨rfl, rfl⟩))
    go_ret
    exact ⟨rfl, rfl⟩
theorem free_held (w : World) (a p c : Nat) (r : Raw) (q x : Nat) (h : Mem w a p c r) (hq : q < r.queues) (hx : x < r.items) (hQ : r.Q x ≠ -1) :
    Calls Try.prog 27 #[.pointer (some ⟨a, 0, none⟩), .int .i64 q, .int .i64 x] w fun e w' => e = .returned (.int .i64 (-26)) ∧ w = w' := by
  have c1 := fun w (h : Mem w a p c r) => hasq_yes w a p c r q h (by omega) (by omega)
  have c2 := fun w (h : Mem w a p c r) => hasi_yes w a p c r x h (by omega) (by omega)
  have d1 := h.c1
  have d2 := h.q (i := x) (by omega)
  obtain ⟨N, hN⟩ : ∃ N, r.items + r.queues = N := ⟨_, rfl⟩
  have hxN : x < N := by omega
  have hb : (r.Q x != -1) = true := by simpa using hQ
  obtain ⟨z, hz⟩ : ∃ z, r.Q x = z := ⟨_, rfl⟩
  simp only [hN] at d1
  rw [hz] at d2 hb
  have H : Hid (Mem w a p c r) := h
  clear h hq hx hQ hz hN
  go_enter Try.func27, Try.ntmps27
  go_wp2_with (first
    | (go_at_call 31; (with_reducible refine (c1 _ (Hid.out H)).mono ?_); rintro e w' ⟨rfl, rfl⟩)
    | (go_at_call 32; (with_reducible refine (c2 _ (Hid.out H)).mono ?_); rintro e w' ⟨rfl, rfl⟩))
  go_ret
  exact ⟨rfl, rfl⟩
theorem free_ok (w : World) (a p c : Nat) (r : Raw) (q x : Nat) (h : Mem w a p c r) (hq : q < r.queues) (hx : x < r.items) (hQ : r.Q x = -1) :
    Calls Try.prog 27 #[.pointer (some ⟨a, 0, none⟩), .int .i64 q, .int .i64 x] w fun e w' => e = .returned (.int .i64 0) ∧ w = w' := by
  have c1 := fun w (h : Mem w a p c r) => hasq_yes w a p c r q h (by omega) (by omega)
  have c2 := fun w (h : Mem w a p c r) => hasi_yes w a p c r x h (by omega) (by omega)
  have d1 := h.c1
  have d2 := h.q (i := x) (by omega)
  obtain ⟨N, hN⟩ : ∃ N, r.items + r.queues = N := ⟨_, rfl⟩
  have hxN : x < N := by omega
  simp only [hN] at d1
  rw [hQ] at d2
  have H : Hid (Mem w a p c r) := h
  clear h hq hx hQ hN
  go_enter Try.func27, Try.ntmps27
  go_wp2_with (first
    | (go_at_call 31; (with_reducible refine (c1 _ (Hid.out H)).mono ?_); rintro e w' ⟨rfl, rfl⟩)
    | (go_at_call 32; (with_reducible refine (c2 _ (Hid.out H)).mono ?_); rintro e w' ⟨rfl, rfl⟩))
  go_ret
  exact ⟨rfl, rfl⟩

theorem empty_any (w : World) (a p c q : Nat) (r : Raw) (h : Mem w a p c r) (hq : q < r.queues) (hi : r.items ≤ 65536) (hk : r.queues ≤ 65536) :
    Calls Try.prog 26 #[.pointer (some ⟨a, 0, none⟩), .int .i64 q] w fun e w' => e = .returned (.tuple #[]) ∧ Mem w' a p c (r.empty q) ∧ Turn (Foot a p c) w w' := by
  obtain ⟨hd, hh⟩ : ∃ hd, r.items + q = hd := ⟨_, rfl⟩
  have c1 := head_any w a p c r q hd h hh (by omega)
  have c2 := join_any w a p c hd hd r h (by omega) (by omega)
  have H2 : Hid (∀ w1, Mem w1 a p c (r.join hd hd) → Mem (w1.setCell ⟨c, q, none⟩ (.int .i64 (0 : Nat))) a p c (r.empty q)) := fun w1 h1 => by
    have := h1.setC (i := q) hq 0
    rw [← hh] at this
    exact this
  have HQ : Hid (q < r.queues) := hq
  clear h hh
  go_enter Try.func26, Try.ntmps26
  go_wp2_with (first
    | (go_at_call 28; (with_reducible refine c1.mono ?_); rintro e w' ⟨rfl, rfl⟩)
    | (go_at_call 33; (with_reducible refine c2.mono ?_); rintro e w1 ⟨rfl, M1, T1⟩; have N1 : Hid (Mem w1 a p c (r.join hd hd)) := M1; have T1' : Hid (Turn (Foot a p c) w w1) := T1; have e1 : w1.cell? ⟨a, 2, none⟩ = some (.slice (some ⟨c, 0, none⟩) r.queues r.queues) := M1.c2; have e2 : w1.cell? ⟨c, q, none⟩ = some (.int .i64 (r.C q)) := M1.n (Hid.out HQ); have e3 := M1.fc q; clear M1 T1))
  go_end0
  exact ⟨rfl, H2.out _ N1.out, T1'.out.then (foot_setC _ _ _ _ _)⟩

theorem insert_any (w : World) (a p c q u x v : Nat) (r : Raw) (h : Mem w a p c r) (hq : q < r.queues) (hu : u < r.items + r.queues) (hx : x < r.items + r.queues) (hv : v < r.items + r.queues) (hc : r.C q ≤ 65536) :
    Calls Try.prog 29 #[.pointer (some ⟨a, 0, none⟩), .int .i64 q, .int .i64 u, .int .i64 x, .int .i64 v] w fun e w' => e = .returned (.tuple #[]) ∧ Mem w' a p c (r.insert q u x v) ∧ Turn (Foot a p c) w w' := by
  have c1 := join_any w a p c u x r h hu hx
  have c2 := fun w1 (h1 : Mem w1 a p c (r.join u x)) => join_any w1 a p c x v (r.join u x) h1 hx hv
  obtain ⟨n, hn⟩ : ∃ n, r.C q = n := ⟨_, rfl⟩
  obtain ⟨N, hN⟩ : ∃ N, r.items + r.queues = N := ⟨_, rfl⟩
  have H2 : Hid (∀ w1, Mem w1 a p c ((r.join u x).join x v) → (w1.cell? ⟨a, 1, none⟩ = some (.slice (some ⟨p, 0, none⟩) N N) ∧ w1.cell? ⟨p, x * 3, none⟩ = some (.int .i64 (r.Q x)) ∧ w1.frozen? ⟨p, x * 3, none⟩ = false) ∧
      ((w1.setCell ⟨p, x * 3, none⟩ (.int .i64 q)).cell? ⟨a, 2, none⟩ = some (.slice (some ⟨c, 0, none⟩) r.queues r.queues) ∧ (w1.setCell ⟨p, x * 3, none⟩ (.int .i64 q)).cell? ⟨c, q, none⟩ = some (.int .i64 n) ∧ (w1.setCell ⟨p, x * 3, none⟩ (.int .i64 q)).frozen? ⟨c, q, none⟩ = false) ∧
      Mem ((w1.setCell ⟨p, x * 3, none⟩ (.int .i64 q)).setCell ⟨c, q, none⟩ (.int .i64 (n + 1 : Nat))) a p c (r.insert q u x v)) := fun w1 h1 => by
    have g := h1.setQ hx q
    have g2 := g.setC (i := q) hq (n + 1)
    refine ⟨⟨hN ▸ h1.c1, h1.q hx, h1.fp _⟩, ⟨g.c2, by rw [← hn]; exact g.n hq, g.fc _⟩, ?_⟩
    rw [← hn] at g2 ⊢
    exact g2
  simp only [hN] at hx
  rw [hn] at hc
  clear h hn hN hu hv
  go_enter Try.func29, Try.ntmps29
  go_wp2_with (first
    | (go_at_call 33; (with_reducible refine c1.mono ?_); rintro e w1 ⟨rfl, M1, T1⟩; have N1 : Hid (Mem w1 a p c (r.join u x)) := M1; have T1' : Hid (Turn (Foot a p c) w w1) := T1; clear M1 T1 c1)
    | (go_at_call 33; (with_reducible refine (c2 _ (Hid.out N1)).mono ?_); rintro e w2 ⟨rfl, M2, T2⟩; have T2' : Hid (Turn (Foot a p c) w1 w2) := T2; obtain ⟨⟨d1, d2, d3⟩, ⟨d4, d5, d6⟩, M3⟩ := (Hid.out H2) w2 M2; have M3' : Hid (Mem ((w2.setCell ⟨p, x * 3, none⟩ (.int .i64 q)).setCell ⟨c, q, none⟩ (.int .i64 (n + 1 : Nat))) a p c (r.insert q u x v)) := M3; clear M2 T2 M3))
  go_end0
  exact ⟨rfl, M3'.out, (T1'.out.then T2'.out).then ((foot_setP _ _ _ _ _).then (foot_setC _ _ _ _ _))⟩

end Go.Proofs.Ytpfoleaampcibaa
