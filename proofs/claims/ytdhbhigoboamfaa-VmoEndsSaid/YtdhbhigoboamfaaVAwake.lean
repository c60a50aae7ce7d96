/-
  What the statements' fixed run answers; a law's state. No conditions.
-/
import Derived.Test.YtdhbhigoboamfaaVWrite2
import Derived.Test.YtdhbhigoboamfaaVRead2
import Derived.Test.YtdhbhigoboamfaaVInfo
import Derived.Test.YtdhbhigoboamfaaPAwake
namespace Go.Proofs.Ytdhbhigoboamfaa
open Go.ChangeShapes Go.WideShapes Go.ChangeAt Go.RowKit

/-- A set that a law has made, behind some calls. -/
structure VSt (w0 w : World) (s : Nat) (r : Rep) (M : Mod) : Prop where
  mem : SMem w s r M
  turn : Turn NoBlock w0 w
  fresh : ∀ k, SFoot s r k → w0.heap.size ≤ k
theorem VSt.next {w0 w w' : World} {s : Nat} {r r' : Rep} {M M' : Mod} (h : VSt w0 w s r M) (m : SMem w' s r' M') (k : VNext w s r w' r') : VSt w0 w' s r' M' :=
  ⟨m, h.turn.trans k.turn (fun j hj => .inr (h.fresh j hj)), fun j hj => by
    rcases k.foot j hj with e | e
    · exact h.fresh j e
    · exact Nat.le_trans h.turn.size e⟩
theorem VSt.past {w0 w w' : World} {s : Nat} {r : Rep} {M : Mod} (h : VSt w0 w s r M) (t : Turn NoBlock w w') : VSt w0 w' s r M := ⟨h.mem.past t, h.turn.trans t (fun _ h => .inl h), h.fresh⟩

theorem chain_one {n m : Nat} {o : Ob} (h1 : o.depth = 0) (h2 : o.size ≤ 4294967296) (h3 : o.frm ≤ 4294967296) : Chain (updI (M0 n m).O 1 (some o)) := by
  have key : ∀ i x, updI (M0 n m).O 1 (some o) i = some x → x = o := fun i x hx => by
    unfold updI at hx
    split at hx
    · cases hx; rfl
    · simp [M0] at hx
  refine ⟨fun i x hx hd => ?_, fun i x hx => ?_, fun i x hx hd => ?_⟩
  · rw [key i x hx] at hd; omega
  · rw [key i x hx]; exact ⟨h2, h3, by omega⟩
  · rw [key i x hx] at hd; omega
theorem few_start (n : Nat) : Few (List.replicate n Pg.none) := fun p hp => by rw [List.eq_of_mem_replicate hp]; simp [Pg.none]

def EA : Mod := ⟨4, 1, 1, updI (M0 4 4).O 1 (some (newOb 128 0 0 0)), List.replicate 4 Pg.none⟩
theorem ea_at : EA.O 1 = some (newOb 128 0 0 0) := rfl
section
variable {w : World} {s : Nat} {r : Rep}
theorem aw_create (h : SMem w s r (M0 4 4)) : Calls Try.prog 16 #[.pointer (some ⟨s, 0, none⟩), .int .i64 100] w fun e w' => e = .returned (.tuple #[.int .i64 1, .int .i64 0]) ∧ ∃ r', SMem w' s r' EA ∧ VNext w s r w' r' := by
  have c := create_yes h 100 (by decide) (by decide) (by decide)
  exact c
theorem aw_info (h : SMem w s r EA) : Calls Try.prog 25 #[.pointer (some ⟨s, 0, none⟩), .int .i64 1] w fun e w' => e = .returned (.tuple #[.agg #[.int .i64 128, .int .i64 0, .int .i64 0, .int .i64 0, .bool false, .bool false], .bool true]) ∧ Turn NoBlock w w' := by
  have c := info_yes h 1 (by unfold fit; omega) ea_at
  exact c
theorem aw_held : Held EA := fun i o q f hO hp => by
  unfold EA updI at hO
  simp only at hO
  split at hO
  · cases hO; simp [newOb] at hp
  · simp [M0] at hO
theorem aw_chain : Chain EA.O := chain_one rfl (by decide) (by decide)
theorem aw_read (h : SMem w s r EA) : Calls Try.prog 18 #[.pointer (some ⟨s, 0, none⟩), .int .i64 1, .int .i64 0, .int .i64 2] w fun e w' => ∃ p c, e = .returned (.tuple #[.slice p 2 c, .int .i64 0]) ∧ Turn NoBlock w w' := by
  have c : Calls Try.prog 18 #[.pointer (some ⟨s, 0, none⟩), .int .i64 1, .int .i64 0, .int .i64 2] w _ := read8_ok h aw_chain aw_held (by decide) (i := 1) (by unfold fit; omega) ea_at rfl 0 2 (by decide) (by decide) (j := 1) (q := newOb 128 0 0 0) (t' := 0) rfl ea_at (by decide)
  refine Calls.mono c ?_
  rintro e w' ⟨u, rfl, hB, hf, t⟩
  have hl : (readAll ⟨EA.L, (newOb 128 0 0 0).pgs, (newOb 128 0 0 0).cnt⟩ 0 2).length = 2 := by decide +kernel
  obtain ⟨p, c, rfl⟩ := own_slice hB
  rw [hl]
  exact ⟨p, c, rfl, t⟩
def EW : PL := commitAll ⟨EA.L, (newOb 128 0 0 0).pgs, (newOb 128 0 0 0).cnt⟩ (partsL 0 2)
theorem aw_write (h : SMem w s r EA) (v : Value) (hv : SrcF w s r v [97, 98]) : Calls Try.prog 17 #[.pointer (some ⟨s, 0, none⟩), .int .i64 1, .int .i64 0, v] w fun e w' => e = .returned (.int .i64 0) ∧ ∃ r' M', (SMem w' s r' M' ∧ roomN M'.L = 3) ∧ VNext w s r w' r' := by
  have c : Calls Try.prog 17 #[.pointer (some ⟨s, 0, none⟩), .int .i64 1, .int .i64 0, v] w _ := write8_ok h aw_chain (by decide) (i := 1) (by unfold fit; omega) ea_at rfl 0 v [97, 98] hv (by decide) (by decide) (j := 1) (q := newOb 128 0 0 0) (t' := 0) rfl ea_at (by decide) (few_start 4) (by decide) (by decide +kernel)
  refine Calls.mono c ?_
  rintro e w' ⟨rfl, r', m, k⟩
  exact ⟨rfl, r', _, ⟨m, by decide +kernel⟩, k⟩
end
theorem src_f {w : World} {s : Nat} {r : Rep} {M : Mod} (h : SMem w s r M) (o : Obj) (bs : List UInt8) (n : Nat) (hn : bs.length = n) (hc : ∀ j, j < n → (w.alloc o).cell? ⟨w.heap.size, 0 + j, none⟩ = some (.int .u8 ((bs.getD j 0).toNat : Int))) : SrcF (w.alloc o) s r (.slice (some ⟨w.heap.size, 0, none⟩) n n) bs := by
  subst hn
  exact .inr ⟨w.heap.size, 0, bs.length, rfl, Nat.le_refl _, fresh_not h, by simp, hc⟩
theorem src_f2 {w : World} {s : Nat} {r : Rep} {M : Mod} (h : SMem w s r M) (x y : UInt8) : SrcF (w.alloc (.cells #[.int .u8 (x.toNat : Int), .int .u8 (y.toNat : Int)] 5 (2, 3))) s r (.slice (some ⟨w.heap.size, 0, none⟩) 2 2) [x, y] :=
  src_f h _ [x, y] 2 rfl (fun j hj => by
    rw [Nat.zero_add, World.cell?_alloc_mark]
    have : j = 0 ∨ j = 1 := by omega
    rcases this with rfl | rfl <;> rfl)

set_option maxRecDepth 20000 in
set_option maxHeartbeats 1000000 in
theorem awake8 (w : World) : Calls Try.prog 15 #[] w fun e w' => e = .returned (.bool true) ∧ Turn NoBlock w w' := by
  have c1 : Calls Try.prog 14 #[.int .i64 4, .int .i64 4] w _ := vnew_yes 4 4 w (by omega) (by omega)
  have hcv2 := conv_two
  have HS2 := Lib.hid (fun (w : World) s r M (h : SMem w s r M) => (show SrcF (w.alloc (.cells #[.int .u8 97, .int .u8 98] 5 (2, 3))) s r (.slice (some ⟨w.heap.size, 0, none⟩) 2 2) [97, 98] from src_f2 h 97 98))
  go_enter Try.func15, Try.ntmps15
  go_wp2_with (first
    | (go_at_call 27; (with_reducible refine (vroom_any K5.out.1.mem).mono ?_); rintro x w6 ⟨rfl, m6, rfl⟩; have K6 := Lib.hid (K5.out.1.turn.drewN m6))
    | (go_at_call 17; (with_reducible refine (aw_write (K4.out.mem.past ((Turn.refl NoBlock _).alloc _)) _ (HS2.out _ _ _ _ K4.out.mem)).mono ?_); rintro x w5 ⟨rfl, r5, M5, ⟨m5, e5⟩, k5⟩; have K5 := Lib.hid (And.intro ((K4.out.past ((Turn.refl NoBlock _).alloc _)).next m5 k5) e5); clear m5 k5)
    | (go_at_call 18; (with_reducible refine (aw_read K3.out.mem).mono ?_); rintro x w4 ⟨p4, c4, rfl, t4⟩; have K4 := Lib.hid (K3.out.past t4); have y4 := t4.cell (cell_at (heap_alloc_new _ (.cells #[.int .i64 128, .int .i64 0, .int .i64 0, .int .i64 0, .bool false, .bool false] 45)) 0) (fun h => h); simp at y4; clear t4)
    | (go_at_call 25; (with_reducible refine (aw_info K2.out.mem).mono ?_); rintro x w3 ⟨rfl, t3⟩; have K3 := Lib.hid ((K2.out.past t3).past ((Turn.refl NoBlock _).alloc (.cells #[.int .i64 128, .int .i64 0, .int .i64 0, .int .i64 0, .bool false, .bool false] 45))); clear t3)
    | (go_at_call 16; (with_reducible refine (aw_create K1.out.mem).mono ?_); rintro x w2 ⟨rfl, r2, m2, k2⟩; have K2 := Lib.hid (K1.out.next m2 k2); clear m2 k2)
    | (go_at_call 14; (with_reducible refine c1.mono ?_); rintro x w1 ⟨s, r, rfl, m1, t1, f1⟩; have K1 := Lib.hid (show VSt w w1 s r (M0 4 4) from ⟨m1, t1, f1⟩); clear m1 t1 f1))
  go_ret
  exact ⟨ret_bool (by have := K5.out.2; unfold roomN at this; simp [this]), K6.out⟩
end Go.Proofs.Ytdhbhigoboamfaa
