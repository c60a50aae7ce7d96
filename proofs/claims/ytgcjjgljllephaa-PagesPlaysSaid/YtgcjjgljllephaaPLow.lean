/-
  The freed places as a heap in memory: what Len, Less, Swap, Push, Pop of 'lowest' and the library's up and down make of it. Conditions: the slice is the call's own.
-/
import Derived.Test.YtgcjjgljllephaaPHeap
import Derived.Test.YtgcjjgljllephaaPVal
import Derived.Test.YtgcjjgljllephaaPHp
import Derived.Deep.LoopGhost
import Derived.Deep.RegionLaw
import Derived.Deep.AppendLies
import Derived.BigQuiet
import Derived.RegionTactic
import Derived.ChangeAlike
namespace Go.Proofs.Ytgcjjgljllephaa
open Go.ChangeShapes Go.WideShapes Go.ChangeAt Go.RowKit

def natsOf (l : List Nat) : List Value := l.map fun (k : Nat) => .int .i64 (k : Int)
theorem natsOf_len (l : List Nat) : (natsOf l).length = l.length := by simp [natsOf]
theorem natsOf_at (l : List Nat) (i : Nat) (h : i < l.length) : (natsOf l)[i]? = some (.int .i64 (l.getD i 0 : Nat)) := by
  simp [natsOf, List.getD, h]
theorem natsOf_set (l : List Nat) (i x : Nat) : natsOf (l.set i x) = (natsOf l).set i (.int .i64 (x : Nat)) := by
  simp [natsOf, List.map_set]

/-- The slice at the cell c is the list l. -/
structure LowW (w : World) (c : Addr) (g n cap : Nat) (l : List Nat) : Prop where
  cell : w.cell? c = some (.slice (some ⟨g, 0, none⟩) n cap)
  free : w.frozen? c = false
  own : w.ownsRow 0 3 1 (.slice (some ⟨g, 0, none⟩) n cap) n (natsOf l)
  ne : c.block ≠ g

theorem LowW.len {w : World} {c : Addr} {g n cap : Nat} {l : List Nat} (h : LowW w c g n cap l) : l.length = n := by
  have := h.own.1
  rw [natsOf_len] at this
  omega
theorem LowW.at' {w : World} {c : Addr} {g n cap : Nat} {l : List Nat} (h : LowW w c g n cap l) (i : Nat) (hi : i < n) : w.cell? ⟨g, i, none⟩ = some (.int .i64 (l.getD i 0 : Nat)) := by
  have := h.len
  exact (h.own.cellAt i (by omega)).trans (natsOf_at l i (by omega))
theorem LowW.past {w w' : World} {c : Addr} {g n cap : Nat} {l : List Nat} (h : LowW w c g n cap l) (ht : Turn NoBlock w w') (hf : w'.frozen? c = w.frozen? c) : LowW w' c g n cap l :=
  ⟨ht.cell h.cell (fun h => h), hf.trans h.free, ht.own h.own (fun _ _ h => h), h.ne⟩
theorem LowW.drewN {w : World} {c : Addr} {g n cap : Nat} {l : List Nat} (h : LowW w c g n cap l) (m : Nat) : LowW (w.drewN m) c g n cap l := ⟨h.cell, h.free, h.own, h.ne⟩
theorem LowW.drew {w : World} {c : Addr} {g n cap : Nat} {l : List Nat} (h : LowW w c g n cap l) : LowW w.drew c g n cap l := ⟨h.cell, h.free, h.own, h.ne⟩
theorem LowW.swap {w : World} {c : Addr} {g n cap : Nat} {l : List Nat} (h : LowW w c g n cap l) (i j : Nat) :
    LowW ((w.setCell ⟨g, i, none⟩ (.int .i64 (l.getD j 0 : Nat))).setCell ⟨g, j, none⟩ (.int .i64 (l.getD i 0 : Nat))) c g n cap (swl l i j) := by
  have hne := h.ne
  have h1 : ∀ (W : World) (k : Nat) (v : Value), (W.setCell ⟨g, k, none⟩ v).cell? c = W.cell? c := fun W k v => World.cell?_setCell_other _ _ _ _ (fun e => hne (by rw [← e]))
  refine ⟨?_, ?_, ?_, h.ne⟩
  · rw [h1, h1]; exact h.cell
  · rw [World.frozen?_setCell, World.frozen?_setCell]; exact h.free
  · have s1 := (h.own.stored i (.int .i64 (l.getD j 0 : Nat))).1
    have s2 := (s1.stored j (.int .i64 (l.getD i 0 : Nat))).1
    rw [← natsOf_set, ← natsOf_set] at s2
    exact s2

theorem m_len0 (a : Addr) (w : World) : Sem.run Try.prog (method 266 105 (.pointer (some a)) "Len") w = Sem.run Try.prog (do let v ← loadVar 81 a; pure (109, v)) w := by kernel_rfl
theorem m_less0 (a : Addr) (w : World) : Sem.run Try.prog (method 266 105 (.pointer (some a)) "Less") w = Sem.run Try.prog (do let v ← loadVar 81 a; pure (110, v)) w := by kernel_rfl
theorem m_swap0 (a : Addr) (w : World) : Sem.run Try.prog (method 266 105 (.pointer (some a)) "Swap") w = Sem.run Try.prog (do let v ← loadVar 81 a; pure (111, v)) w := by kernel_rfl
theorem m_pop (a : Addr) (w : World) : Sem.run Try.prog (method 266 105 (.pointer (some a)) "Pop") w = .ok (112, .pointer (some a)) w := by kernel_rfl
theorem m_push (a : Addr) (w : World) : Sem.run Try.prog (method 266 105 (.pointer (some a)) "Push") w = .ok (113, .pointer (some a)) w := by kernel_rfl
theorem m_len (a : Addr) (v : Value) (w : World) (h : w.cell? a = some v) : Sem.run Try.prog (method 266 105 (.pointer (some a)) "Len") w = .ok (109, v) w := by
  rw [m_len0]; simp [loadVar, h]
theorem m_less (a : Addr) (v : Value) (w : World) (h : w.cell? a = some v) : Sem.run Try.prog (method 266 105 (.pointer (some a)) "Less") w = .ok (110, v) w := by
  rw [m_less0]; simp [loadVar, h]
theorem m_swap (a : Addr) (v : Value) (w : World) (h : w.cell? a = some v) : Sem.run Try.prog (method 266 105 (.pointer (some a)) "Swap") w = .ok (111, v) w := by
  rw [m_swap0]; simp [loadVar, h]

theorem len_any (p : Option Addr) (n c : Nat) (w : World) :
    Calls Try.prog 109 #[.slice p n c] w fun e w' => e = .returned (.int .i64 n) ∧ w = w' := by
  go_enter Try.func109, Try.ntmps109
  go_wp2
  go_ret
  exact ⟨rfl, rfl⟩
theorem less_any {w : World} {c : Addr} {g n cap : Nat} {l : List Nat} (h : LowW w c g n cap l) (i j : Nat) (hi : i < n) (hj : j < n) :
    Calls Try.prog 110 #[.slice (some ⟨g, 0, none⟩) n cap, .int .i64 i, .int .i64 j] w fun e w' => e = .returned (.bool (decide (l.getD i 0 < l.getD j 0))) ∧ ∃ m, w' = w.drewN m := by
  have c1 := h.at' i hi
  have c2 := h.at' j hj
  have hd : decide ((l.getD i 0 : Int) < (l.getD j 0 : Int)) = decide (l.getD i 0 < l.getD j 0) := by
    rw [decide_eq_decide]; omega
  have HD := Lib.hid hd
  generalize ((l.getD i 0 : Nat) : Int) = x at *
  generalize ((l.getD j 0 : Nat) : Int) = y at *
  clear h hd
  go_enter Try.func110, Try.ntmps110
  go_wp2_with fail
  go_quiet (fail)
  go_wp2
  go_ret
  exact ⟨ret_bool HD.out, _, rfl⟩
theorem swap_any {w : World} {c : Addr} {g n cap : Nat} {l : List Nat} (h : LowW w c g n cap l) (i j : Nat) (hi : i < n) (hj : j < n) :
    Calls Try.prog 111 #[.slice (some ⟨g, 0, none⟩) n cap, .int .i64 i, .int .i64 j] w fun e w' => e = .returned (.tuple #[]) ∧ LowW w' c g n cap (swl l i j) ∧ Turn (fun k => k = g) w w' := by
  have c1 := h.at' i hi
  have c2 := h.at' j hj
  have f1 : w.frozen? ⟨g, i, none⟩ = false := h.own.frozenAt i
  have f2 : w.frozen? ⟨g, j, none⟩ = false := h.own.frozenAt j
  have hS := h.swap i j
  have hT : Turn (fun k => k = g) w ((w.setCell ⟨g, i, none⟩ (.int .i64 (l.getD j 0 : Nat))).setCell ⟨g, j, none⟩ (.int .i64 (l.getD i 0 : Nat))) :=
    ((Turn.refl (fun k => k = g) w).setCell (p := ⟨g, i, none⟩) (.inl rfl) _).setCell (p := ⟨g, j, none⟩) (.inl rfl) _
  generalize ((l.getD i 0 : Nat) : Int) = x at *
  generalize ((l.getD j 0 : Nat) : Int) = y at *
  obtain ⟨z, c3⟩ : ∃ z, (w.setCell ⟨g, i, none⟩ (.int .i64 y)).cell? ⟨g, j, none⟩ = some z := by
    by_cases e : i = j
    · subst e; exact ⟨_, World.cell?_setCell_same _ _ _ c1⟩
    · exact ⟨_, (World.cell?_setCell_other _ _ _ _ (fun e' => by simp at e')).trans c2⟩
  have HS := Lib.hid (And.intro hS hT)
  clear h hS hT
  go_enter Try.func111, Try.ntmps111
  go_region
  go_end0
  exact ⟨rfl, HS.out.1.drew, HS.out.2.drew⟩

set_option maxRecDepth 100000 in
set_option maxHeartbeats 1000000 in
/-- up(h, j) -/
theorem up_any {w : World} {c : Addr} {g n cap : Nat} {l : List Nat} (h : LowW w c g n cap l) (j : Nat) (hj : j < n) (hn : n ≤ 65537) (hu : UpInv (fun k => l.getD k 0) n j) :
    Calls Try.prog 64 #[.iface 105 (.pointer (some c)), .int .i64 j] w fun e w' => e = .returned (.tuple #[]) ∧ ∃ l', LowW w' c g n cap l' ∧ l'.Perm l ∧ IsHeap l' ∧ Turn (fun k => k = g) w w' := by
  have HL := Lib.hid h
  have HU := Lib.hid hu
  clear h hu
  go_enter Try.func64, Try.ntmps64
  go_wp2
  go_loopg [1] j (fun kx s wr => ∃ (i : Nat) (l' : List Nat), kx = i ∧ s = .int .i64 i ∧ i < n ∧ LowW wr c g n cap l' ∧ Hid (l'.Perm l ∧ UpInv (fun k => l'.getD k 0) n i ∧ Turn (fun k => k = g) w wr))
  case atStart => exact ⟨j, l, rfl, rfl, hj, HL.out, List.Perm.refl _, HU.out, Turn.refl _ _⟩
  case round =>
    obtain ⟨i, l', hkx, rfl, hi, hL, hP⟩ := hrel
    have hlen := hL.len
    by_cases h0 : i = 0
    · subst h0
      have HF : Hid (LowW wr c g n cap l' ∧ l'.Perm l ∧ IsHeap l' ∧ Turn (fun k => k = g) w wr) := ⟨hL, hP.out.1, by rw [IsHeap, hlen]; exact up_end hP.out.2.1 (.inl rfl), hP.out.2.2⟩
      clear hL hP
      go_wp2
      go_end0
      exact ⟨rfl, l', HF.out⟩
    · obtain ⟨p, hp⟩ : ∃ p : Nat, (i - 1) / 2 = p := ⟨_, rfl⟩
      have hq : ((i : Int) - 1).tdiv 2 = p := by rw [Int.tdiv_eq_ediv_of_nonneg (by omega)]; omega
      have hq' : ((i : Int) - 1) / 2 = p := by omega
      have hpi : ((p : Int) == (i : Int)) = false := by simp; omega
      have cl := hL.cell
      have ml := fun W h => m_less c (.slice (some ⟨g, 0, none⟩) n cap) W h
      have ms := fun W h => m_swap c (.slice (some ⟨g, 0, none⟩) n cap) W h
      have c1 := less_any hL i p hi (by omega)
      by_cases hlt : l'.getD i 0 < l'.getD p 0
      · rw [decide_eq_true hlt] at c1
        have HS : Hid (∀ m, Calls Try.prog 111 #[.slice (some ⟨g, 0, none⟩) n cap, .int .i64 p, .int .i64 i] (wr.drewN m) fun e w' => e = .returned (.tuple #[]) ∧ LowW w' c g n cap (swl l' p i) ∧ Turn (fun k => k = g) (wr.drewN m) w') := fun m => swap_any (hL.drewN m) p i (by omega) hi
        have HF : Hid ((swl l' p i).Perm l ∧ UpInv (fun k => (swl l' p i).getD k 0) n p) := ⟨(swl_perm l' p i (by omega) (by omega)).trans hP.out.1, by
          rw [swl_fun l' p i (by omega) (by omega)]
          exact up_step hP.out.2.1 (by omega) (by omega) hp hlt⟩
        clear hL hp
        go_wp2_with (first
          | (go_at_call 110; (with_reducible refine c1.mono ?_); rintro e w' ⟨rfl, m, rfl⟩)
          | (go_at_call 111; (with_reducible refine (HS.out _).mono ?_); rintro e w' ⟨rfl, hL2, hT2⟩))
        go_roundg p
        case measure => omega
        case rel => exact ⟨p, swl l' p i, rfl, rfl, by omega, hL2, HF.out.1, HF.out.2, (hP.out.2.2.drewN _).trans hT2 (fun _ h => .inl h)⟩
      · rw [decide_eq_false hlt] at c1
        have HF : Hid (∀ m, LowW (wr.drewN m) c g n cap l' ∧ l'.Perm l ∧ IsHeap l' ∧ Turn (fun k => k = g) w (wr.drewN m)) := fun m => ⟨hL.drewN m, hP.out.1, by rw [IsHeap, hlen]; exact up_end hP.out.2.1 (.inr (by rw [hp]; omega)), hP.out.2.2.drewN m⟩
        clear hL hP hp
        go_wp2_with (go_at_call 110; (with_reducible refine c1.mono ?_); rintro e w' ⟨rfl, m, rfl⟩)
        go_end0
        exact ⟨rfl, l', HF.out _⟩
end Go.Proofs.Ytgcjjgljllephaa
