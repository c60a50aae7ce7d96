/-
  SpaceSees' walk.
-/
import Derived.Test.YtdddmjdlikjedaaLawSee
namespace Go.Proofs.Ytdddmjdlikjedaa
open Go.ChangeShapes Go.WideShapes Go.ChangeAt Go.RowKit

set_option maxRecDepth 20000 in
theorem see_past (p : Option Addr) (len cap : Nat) (x f : Int) (w : World) (h : 300 < len ∨ x < 0 ∨ 200 < x ∨ f < 0 ∨ 4 < f) : Calls Try.prog 11 #[.slice p len cap, .int .i64 x, .int .i64 f] w fun e w' => e = .returned (.bool true) ∧ Turn NoBlock w w' := by
  have c1 : Calls Try.prog 14 #[.int .i64 64, .int .i64 4] w _ := vnew_yes 64 4 w (by omega) (by omega)
  have cA := awake10
  have hc : (300 < len) ∨ (¬ 300 < len ∧ x < 0) ∨ (¬ 300 < len ∧ ¬ x < 0 ∧ 200 < x) ∨ (¬ 300 < len ∧ ¬ x < 0 ∧ ¬ 200 < x ∧ f < 0) ∨ (¬ 300 < len ∧ ¬ x < 0 ∧ ¬ 200 < x ∧ ¬ f < 0 ∧ 4 < f) := by omega
  clear h
  rcases hc with h1 | ⟨h1, h2⟩ | ⟨h1, h2, h3⟩ | ⟨h1, h2, h3, h4⟩ | ⟨h1, h2, h3, h4, h5⟩
  all_goals
    go_enter Try.func11, Try.ntmps11
    go_wp2_with (first
      | (go_at_call 14; (with_reducible refine c1.mono ?_); rintro x w1 ⟨s, r, rfl, m1, t1, f1⟩; have T1 := Lib.hid t1; clear m1 t1 f1)
      | (go_at_call 39; (with_reducible refine (cA _).mono ?_); rintro e w2 ⟨rfl, t2⟩))
    go_ret
    exact ⟨rfl, T1.out.trans t2 (fun _ h => .inl h)⟩

theorem conv_x (w : World) (x : Int) : Sem.run Try.prog (convert 22 22 (.slice (some ⟨w.heap.size, 0, none⟩) 1 1)) (w.alloc (.cells #[.int .u8 x] 5)) = .ok (.slice (some ⟨w.heap.size, 0, none⟩) 1 1) (w.alloc (.cells #[.int .u8 x] 5 (1, 2))) :=
  Lib.run_convert_bytes_const w 22 5 #[.int .u8 x] 1 1 bytes31 (by kernel_rfl)

/-- Behind the write: what each read tells. -/
structure See3 (w0 w : World) (s : Nat) (c1 a1 c2 a2 : Nat) (f x : Int) (bs : List UInt8) : Prop where
  ex : ∃ r M o, See2 w0 w s r M c1 a1 c2 a2 [⟨0, 512, 1, 64 * f, 3⟩] [⟨1024, 1024, 1, 0, 1⟩] ∧ So M 1024 (layC (fun _ => 0) (64 * f + x).toNat bs) o 58
section
variable {w0 w w' : World} {s c1 a1 c2 a2 : Nat} {f x : Int} {bs : List UInt8}
theorem See3.past (h : See3 w0 w s c1 a1 c2 a2 f x bs) (t : Turn NoBlock w w') : See3 w0 w' s c1 a1 c2 a2 f x bs := by
  obtain ⟨r, M, o, h1, h2⟩ := h.ex
  exact ⟨⟨r, M, o, h1.past t, h2⟩⟩
theorem See3.turn (h : See3 w0 w s c1 a1 c2 a2 f x bs) : Turn NoBlock w0 w := by
  obtain ⟨r, M, o, h1, h2⟩ := h.ex
  exact h1.hA.turn
theorem in_a (f : Int) (hf : 0 ≤ f ∧ f ≤ 4) : In1 [⟨0, 512, 1, 64 * f, 3⟩] 1024 := fun p hp => by
  simp at hp
  subst hp
  exact ⟨rfl, by simp only; omega, by simp only; omega⟩
theorem in_b : In1 [⟨1024, 1024, 1, 0, 1⟩] 1024 := fun p hp => by
  simp at hp
  subst hp
  exact ⟨rfl, by simp only; omega, by simp only; omega⟩
theorem map_a (f : Int) (y : Int) (h0 : 0 ≤ y) (h1 : y < 512) : ¬ Free [⟨0, 512, 1, 64 * f, 3⟩] y := fun hf => hf ⟨0, 512, 1, 64 * f, 3⟩ ⟨by simp, h0, by unfold Pc.fin; simpa using h1⟩
theorem map_b (y : Int) (h0 : 1024 ≤ y) (h1 : y < 2048) : ¬ Free [⟨1024, 1024, 1, 0, 1⟩] y := fun hf => hf ⟨1024, 1024, 1, 0, 1⟩ ⟨by simp, h0, by unfold Pc.fin; simpa using h1⟩
/-- The write through the first space. -/
theorem See2.wr {r : Rep} {M : Mod} {o : Ob} (h : See2 w0 w s r M c1 a1 c2 a2 [⟨0, 512, 1, 64 * f, 3⟩] [⟨1024, 1024, 1, 0, 1⟩]) (z : So M 1024 (fun _ => 0) o 64) (hf : 0 ≤ f ∧ f ≤ 4) (hx : 0 ≤ x ∧ x ≤ 200) (p : Option Addr) (cap : Nat) (hl : bs.length ≤ 300) (ha : SArg w0 p bs.length cap bs) :
    Calls Try.prog 42 #[.pointer (some ⟨c1, 0, none⟩), .int .i64 x, .slice p bs.length cap] w fun e w' => e = .returned (.tuple #[.int .i64 (bs.length : Int), .int .i64 0]) ∧ See3 w0 w' s c1 a1 c2 a2 f x bs := by
  obtain ⟨B, off, hpb⟩ : ∃ B off, 0 < bs.length → p = some ⟨B, off, none⟩ := by
    rcases Nat.eq_zero_or_pos bs.length with h0 | h0
    · exact ⟨0, 0, fun e => by omega⟩
    · obtain ⟨b, off, hp, _⟩ := ha.2.2 h0
      exact ⟨b, off, fun _ => hp⟩
  refine (SpS.write2 h.hA z (by omega) (by omega) hx.1 B off cap p bs hpb (ha.srcF h.hA.turn h.hA.fresh) (by omega) (by omega) (fun y h0 h1 => map_a f y (by omega) (by omega)) (in_a f hf) (fun q hq _ _ => by simp at hq; subst hq; rfl) (by simp) 6 (by omega) (by simp)).mono ?_
  rintro e w' ⟨h1, li, r', M', o', h2, h3, h4, h5⟩
  rw [wrK_p h2] at h5
  refine ⟨h1, ⟨⟨r', M', o', h.next h3 h4, ?_⟩⟩⟩
  have e1 : (64 * f + (x - 0)).toNat = (64 * f + x).toNat := by omega
  simp only [e1] at h5
  exact h5.less (by simp)
/-- Read through the first space. -/
theorem See3.rdA (h : See3 w0 w s c1 a1 c2 a2 f x bs) (hf : 0 ≤ f ∧ f ≤ 4) (hx : 0 ≤ x ∧ x ≤ 200) (hl : bs.length ≤ 300) :
    Calls Try.prog 43 #[.pointer (some ⟨c1, 0, none⟩), .int .i64 x, .int .i64 (bs.length : Int)] w fun e w' => ∃ u, e = .returned (.tuple #[u, .int .i64 0]) ∧ Src w' u bs ∧ Turn NoBlock w w' := by
  obtain ⟨r, M, o, h1, z⟩ := h.ex
  refine (SpS.read h1.hA z (by omega) (by omega) hx.1 bs.length (by omega) (by omega) (fun y h0 h1 => map_a f y (by omega) (by omega)) (in_a f hf) (fun q hq _ _ => by simp at hq; subst hq; rfl) (by simp)).mono ?_
  rintro e w' ⟨u, rfl, li, h2, h3, h4, h5⟩
  rw [rd_p h2] at h3
  refine ⟨u, rfl, ?_, h5⟩
  have e1 : (64 * f + (x - 0)).toNat = (64 * f + x).toNat := by omega
  simp only [e1, lay_read] at h3
  exact h3.src
/-- Read through the other one. -/
theorem See3.rdB (h : See3 w0 w s c1 a1 c2 a2 f x bs) (hf : 0 ≤ f ∧ f ≤ 4) (hx : 0 ≤ x ∧ x ≤ 200) (hl : bs.length ≤ 300) :
    Calls Try.prog 43 #[.pointer (some ⟨c2, 0, none⟩), .int .i64 (1024 + 64 * f + x), .int .i64 (bs.length : Int)] w fun e w' => ∃ u, e = .returned (.tuple #[u, .int .i64 0]) ∧ Src w' u bs ∧ Turn NoBlock w w' := by
  obtain ⟨r, M, o, h1, z⟩ := h.ex
  refine (SpS.read h1.hB z (by omega) (by omega) (by omega) bs.length (by omega) (by omega) (fun y h0 h1 => map_b y (by omega) (by omega)) in_b (fun q hq _ _ => by simp at hq; subst hq; rfl) (by simp)).mono ?_
  rintro e w' ⟨u, rfl, li, h2, h3, h4, h5⟩
  rw [rd_p h2] at h3
  refine ⟨u, rfl, ?_, h5⟩
  have e1 : (0 + (1024 + 64 * f + x - 1024)).toNat = (64 * f + x).toNat := by omega
  simp only [e1, lay_read] at h3
  exact h3.src
/-- Read in the object. -/
theorem See3.rdO (h : See3 w0 w s c1 a1 c2 a2 f x bs) (hf : 0 ≤ f ∧ f ≤ 4) (hx : 0 ≤ x ∧ x ≤ 200) (hl : bs.length ≤ 300) :
    Calls Try.prog 18 #[.pointer (some ⟨s, 0, none⟩), .int .i64 1, .int .i64 (64 * f + x), .int .i64 (bs.length : Int)] w fun e w' => ∃ u, e = .returned (.tuple #[u, .int .i64 0]) ∧ Src w' u bs ∧ Turn NoBlock w w' := by
  obtain ⟨r, M, o, h1, z⟩ := h.ex
  have c := so_read h1.hA.mem z (64 * f + x).toNat bs.length (by omega) (by omega) (by omega)
  rw [show (((64 * f + x).toNat : Nat) : Int) = 64 * f + x by omega, lay_read] at c
  exact c.mono (fun e w' ⟨u, h2, h3, _, h5⟩ => ⟨u, h2, h3.src, h5⟩)
/-- The other space may not be written. -/
theorem See3.wrB (h : See3 w0 w s c1 a1 c2 a2 f x bs) (q : Option Addr) :
    Calls Try.prog 42 #[.pointer (some ⟨c2, 0, none⟩), .int .i64 1024, .slice q 1 1] w fun e w' => e = .returned (.tuple #[.int .i64 0, .int .i64 (-30)]) ∧ Turn NoBlock w w' := by
  obtain ⟨r, M, o, h1, z⟩ := h.ex
  exact zwrite_no 1024 q 1 1 (by omega) (SpS.partsNo h1.hB (by omega) 2 (.inr rfl) (by omega) (by omega) (by omega) (fun y h0 h1 => map_b y (by omega) (by omega)) ⟨⟨1024, 1024, 1, 0, 1⟩, by simp, 1024, by omega, by omega, by simp only; omega, by unfold Pc.fin; simp only; omega, rfl⟩)
theorem See3.usesA (h : See3 w0 w s c1 a1 c2 a2 f x bs) :
    Calls Try.prog 44 #[.pointer (some ⟨c1, 0, none⟩), .int .i64 1] w fun e w' => e = .returned (.int .i64 1) ∧ Turn NoBlock w w' := by
  obtain ⟨r, M, o, h1, z⟩ := h.ex
  exact h1.hA.uses (by omega) 1
end
end Go.Proofs.Ytdddmjdlikjedaa
